import PyProof.Rows.All
import Wide.All
import OpenK.AllK
import Wide.FinOn
import HandS.ForMost
import HandS.ForExc
import HandS.Lambda
import HandS.EndTab
import HandS.HeadWalk
import HandS.HeadHook4
import HandS.Head2
import HandS.IsInst
import HandS.TupMul
import HandS.TupAny
import HandS.Wide
import HandS.ExcCtx
import HandS.HotCalls
import HandS.ExcIs
import PyProof.SumAny
import PyProof.RulesMatchSeq
import PyProof.Rows.MatchSeqLen
import HandS.More
import HandS.Zip
import PyProof.Rows.SeqMore
import HandS.Flow
import HandS.StrMore
import HandS.Text
import HandS.Iter
import PyProof.Rows.ChunkEnd
import HandS.Dict
import HandS.Style
import HandS.Small
import PyProof.Draws
import KE.GoesMore
import HandS.TupLe
import HandS.SetFor
import KE.KMinKey
import HandS.SortKw
import KE.KSortKeySt
import HandS.Conv
import KE.GoesZip
import KE.GoesEnum
import KE.KItemsList
import HandS.Deep
import HandS.DictComp
import HandS.WordsDict
import HandS.SetKeys
import KE.DataMinMax
import KE.IntTextLaws
import HandS.FStr
import HandS.Star
import HandS.NoneIn
import PyProof.StrLawsFrom
import HandS.ReplaceDef
import HandS.ReplaceLit
import PyProof.DictUpdate
import HandS.SuiteRaise
import HandS.Flt
import HandS.RaiseFrom
import HandS.Replace
import HandS.Steps
import PySem.Challenge.RW_farpanes_k72_whole_keys_lost
set_option Elab.async false
set_option linter.all false
set_option maxRecDepth 100000
set_option maxHeartbeats 4000000
set_option autoImplicit false
namespace FP
open PySem PySem.Spec PyProof.Rows L2

def hid (ps : List Addr) (H : Hp) : Hp := fun b => if b ∈ ps then none else H b
theorem hid_of {ps : List Addr} {H : Hp} {b : Addr} {o : HO} (n : b ∉ ps) (h : H b = some o) : hid ps H b = some o := by
  unfold hid
  rw [if_neg n]
  exact h
theorem hid_out {ps : List Addr} {H : Hp} {b : Addr} {o : HO} (h : hid ps H b = some o) : b ∉ ps ∧ H b = some o := by
  unfold hid at h
  by_cases c : b ∈ ps
  · rw [if_pos c] at h
    cases h
  · rw [if_neg c] at h
    exact ⟨c, h⟩
theorem hid_sub {ps : List Addr} {H : Hp} : Same (hid ps H) H := fun _ _ h => (hid_out h).2
theorem hid_same {ps : List Addr} {H H' : Hp} (e : Same H H') : Same (hid ps H) (hid ps H') := fun _ _ h => hid_of (hid_out h).1 (e _ _ (hid_out h).2)
theorem hid_nil {H : Hp} : hid [] H = H := by
  funext b
  unfold hid
  rw [if_neg (by simp)]
theorem same_new {H : Hp} {p : Addr} {o : HO} (h : H p = none) : Same H (upd H p o) := fun b x e => by
  rw [upd_ne (ne_of_none e h)]
  exact e
theorem same_sqt {K : PySem.W.Frag} {H H' : Hp} {a : Addr} {xs : List V} (e : Same H H') (h : SqT K H a xs) : SqT K H' a xs := by
  rcases h with (h | ⟨o, h⟩) | h
  · exact .inl (.inl (e _ _ h))
  · exact .inl (.inr ⟨o, e _ _ h⟩)
  · exact .inr h
mutual
theorem dp_mono {K : PySem.W.Frag} {H H' : Hp} (e : Same H H') : ∀ (d : PyData) (v : V), Dp K H v d → Dp K H' v d
  | .none, _, h => by
    cases h
    exact .non
  | .bool b, _, h => by
    cases h
    exact .bl b
  | .int i, _, h => by
    cases h
    exact .int i
  | .str x, _, h => by
    cases h
    exact .str x
  | .list ds, _, h => by
    cases h with
    | lst hs ha => exact .lst (e.seq hs) (dpa_mono e ds _ ha)
  | .tuple ds, _, h => by
    cases h with
    | tup hs ha => exact .tup (same_sqt e hs) (dpa_mono e ds _ ha)
  | .dict kvs, _, h => by cases h
theorem dpa_mono {K : PySem.W.Frag} {H H' : Hp} (e : Same H H') : ∀ (ds : List PyData) (vs : List V), DpAll K H vs ds → DpAll K H' vs ds
  | [], _, h => by
    cases h
    exact .nil
  | d :: ds, _, h => by
    cases h with
    | cons a b => exact .cons (dp_mono e d _ a) (dpa_mono e ds _ b)
end
theorem dpm {K : PySem.W.Frag} {H H' : Hp} (e : Same H H') {d : PyData} {v : V} (h : Dp K H v d) : Dp K H' v d := dp_mono e d v h
theorem dpam {K : PySem.W.Frag} {H H' : Hp} (e : Same H H') {ds : List PyData} {vs : List V} (h : DpAll K H vs ds) : DpAll K H' vs ds := dpa_mono e ds vs h
theorem dpa_len {K : PySem.W.Frag} {H : Hp} : ∀ {ds : List PyData} {vs : List V}, DpAll K H vs ds → vs.length = ds.length
  | [], _, .nil => rfl
  | _ :: _, _, .cons _ t => by rw [List.length_cons, List.length_cons, dpa_len t]
theorem dpa_get {K : PySem.W.Frag} {H : Hp} : ∀ {ds : List PyData} {vs : List V} {i : Nat} {d : PyData}, DpAll K H vs ds → ds[i]? = some d → ∃ v, vs[i]? = some v ∧ Dp K H v d
  | [], _, _, _, .nil, h => by simp at h
  | _ :: _, _ :: _, 0, _, .cons a _, h => by
    simp at h
    subst h
    exact ⟨_, rfl, a⟩
  | _ :: ds, _ :: vs, i + 1, d, .cons _ t, h => by
    obtain ⟨v, h1, h2⟩ := dpa_get (i := i) (d := d) t (by simpa using h)
    exact ⟨v, by simpa using h1, h2⟩
theorem dpa_app {K : PySem.W.Frag} {H : Hp} : ∀ {ds es : List PyData} {vs us : List V}, DpAll K H vs ds → DpAll K H us es → DpAll K H (vs ++ us) (ds ++ es)
  | _, _, _, _, .nil, h => h
  | _, _, _, _, .cons a t, h => .cons a (dpa_app t h)
theorem hid_more {ps qs : List Addr} {H : Hp} (h : ∀ b, b ∈ ps → b ∈ qs) : Same (hid qs H) (hid ps H) := fun b o e => by
  obtain ⟨n, e2⟩ := hid_out e
  exact hid_of (fun z => n (h b z)) e2
theorem hid_cons {p : Addr} {ps : List Addr} {H : Hp} : Same (hid (p :: ps) H) (hid ps H) := hid_more fun _ h => List.mem_cons_of_mem _ h
theorem hid_new {p : Addr} {ps : List Addr} {G H : Hp} (hp : G p = none) (e : Same G H) : Same (hid ps G) (hid (p :: ps) H) := fun b o h => by
  obtain ⟨n, e2⟩ := hid_out h
  refine hid_of (fun z => ?_) (e b o e2)
  rcases List.mem_cons.mp z with q | q
  · rw [q, hp] at e2
    cases e2
  · exact n q
inductive Sd where
  | im (d : PyData)
  | ad (a : Addr)
inductive Od where
  | lst (xs : List Sd)
  | ins (C : Addr) (fs : List (Str × Sd))
  | dct (kvs : List (Key × Sd))
  | tup (xs : List Sd)
abbrev De := List (Option Sd)
/-- ps: what the caller keeps for himself; os: objects of one's own -/
structure Om where
  ps : List Addr
  os : List (Addr × Od)
def ads (ω : Om) : List Addr := ω.ps ++ ω.os.map (·.1)
def SdV (K : PySem.W.Frag) (H : Hp) : Sd → V → Prop
  | .im d, v => Dp K H v d
  | .ad a, v => v = .ref a
theorem sdv_mono {K : PySem.W.Frag} {H H' : Hp} (e : Same H H') : ∀ {r : Sd} {v : V}, SdV K H r v → SdV K H' r v
  | .im _, _, h => dpm e h
  | .ad _, _, h => h
theorem dpa_im {K : PySem.W.Frag} {H : Hp} : ∀ {xs : List PyData} {vs : List V}, Paired (SdV K H) (xs.map .im) vs → DpAll K H vs xs
  | [], _, h => by
    cases h
    exact .nil
  | x :: xs, _, h => by
    cases h with
    | cons a b => exact .cons a (dpa_im b)
theorem im_dpa {K : PySem.W.Frag} {H : Hp} : ∀ {xs : List PyData} {vs : List V}, DpAll K H vs xs → Paired (SdV K H) (xs.map .im) vs
  | _, _, .nil => .nil
  | _, _, .cons a b => .cons a (im_dpa b)
def OdV (K : PySem.W.Frag) (Hh H : Hp) (a : Addr) : Od → Prop
  | .lst xs => ∃ vs, H a = some (.lst vs) ∧ Paired (SdV K Hh) xs vs
  | .ins C fs => ∃ dx vs, H a = some (.ins C dx vs) ∧ Paired (fun (p : Str × Sd) (q : Str × V) => p.1 = q.1 ∧ SdV K Hh p.2 q.2) fs vs
  | .dct kvs => ∃ vs, H a = some (.dK vs) ∧ Paired (fun (p : Key × Sd) (q : Key × V) => p.1 = q.1 ∧ SdV K Hh p.2 q.2) kvs vs
  | .tup xs => ∃ vs, H a = some (.tup vs) ∧ Paired (SdV K Hh) xs vs
theorem odv_keep {K : PySem.W.Frag} {G G' H H' : Hp} {a : Addr} (g : ∀ {r : Sd} {v : V}, SdV K G r v → SdV K G' r v) (e : ∀ u, (∀ ps, u ≠ .tbl ps) → H a = some u → H' a = some u) : ∀ {o : Od}, OdV K G H a o → OdV K G' H' a o
  | .lst _, ⟨vs, h, p⟩ => ⟨vs, e _ (fun _ z => by cases z) h, L2.Paired.mapP p fun _ _ q => g q⟩
  | .ins _ _, ⟨dx, vs, h, p⟩ => ⟨dx, vs, e _ (fun _ z => by cases z) h, L2.Paired.mapP p fun _ _ q => ⟨q.1, g q.2⟩⟩
  | .dct _, ⟨vs, h, p⟩ => ⟨vs, e _ (fun _ z => by cases z) h, L2.Paired.mapP p fun _ _ q => ⟨q.1, g q.2⟩⟩
  | .tup _, ⟨vs, h, p⟩ => ⟨vs, e _ (fun _ z => by cases z) h, L2.Paired.mapP p fun _ _ q => g q⟩
theorem odv_mono {K : PySem.W.Frag} {G G' H H' : Hp} {a : Addr} (g : Same G G') (e : Same H H') {o : Od} (h : OdV K G H a o) : OdV K G' H' a o := odv_keep (fun q => sdv_mono g q) (fun u _ q => e a u q) h
theorem odv_at {K : PySem.W.Frag} {G H : Hp} {a : Addr} : ∀ {o : Od}, OdV K G H a o → ∃ u, H a = some u ∧ (∀ ps, u ≠ .tbl ps) ∧ ∀ c q, u ≠ LamX.CodeO c q
  | .lst _, ⟨_, h, _⟩ => ⟨_, h, fun _ z => (by cases z), fun _ _ z => (by unfold LamX.CodeO at z; cases z)⟩
  | .ins _ _, ⟨_, _, h, _⟩ => ⟨_, h, fun _ z => (by cases z), fun _ _ z => (by unfold LamX.CodeO at z; cases z)⟩
  | .dct _, ⟨_, h, _⟩ => ⟨_, h, fun _ z => (by cases z), fun _ _ z => (by unfold LamX.CodeO at z; cases z)⟩
  | .tup _, ⟨_, h, _⟩ => ⟨_, h, fun _ z => (by cases z), fun _ _ z => (by unfold LamX.CodeO at z; cases z)⟩
theorem odv_some {K : PySem.W.Frag} {G H : Hp} {a : Addr} {o : Od} (h : OdV K G H a o) : H a ≠ none := by
  obtain ⟨u, e, _⟩ := odv_at h
  rw [e]
  simp
/-- the objects alone -/
structure Ro (K : PySem.W.Frag) (H : Hp) (ω : Om) : Prop where
  ob : ∀ a o, (a, o) ∈ ω.os → OdV K (hid (ads ω) H) H a o
  nd : (ω.os.map (·.1)).Nodup
  th : ∀ a ∈ ω.ps, H a ≠ none
structure Rl (K : PySem.W.Frag) (H : Hp) (σ : L2.St) (δ : De) (ω : Om) : Prop where
  len : σ.length = δ.length
  sl : ∀ (i : Nat) (r : Sd), δ[i]? = some (some r) → ∃ v, σ[i]? = some (some v) ∧ SdV K (hid (ads ω) H) r v
  ro : Ro K H ω
section
variable {K : PySem.W.Frag} {H H' : Hp} {σ : L2.St} {δ : De} {ω : Om}
theorem there_mono {ps : List Addr} (t : ∀ a ∈ ps, H a ≠ none) (e : Same H H') : ∀ a ∈ ps, H' a ≠ none := fun a h z => by
  have q := t a h
  cases g : H a with
  | none => exact q g
  | some o =>
    rw [e a o g] at z
    cases z
theorem Ro.mono (r : Ro K H ω) (e : Same H H') : Ro K H' ω := ⟨fun a o h => odv_mono (hid_same e) e (r.ob a o h), r.nd, there_mono r.th e⟩
theorem Rl.mono (r : Rl K H σ δ ω) (e : Same H H') : Rl K H' σ δ ω := ⟨r.len, fun i x h => by
  obtain ⟨v, h1, h2⟩ := r.sl i x h
  exact ⟨v, h1, sdv_mono (hid_same e) h2⟩, r.ro.mono e⟩
theorem Ro.there (r : Ro K H ω) : ∀ a ∈ ads ω, H a ≠ none := fun a h => by
  rcases List.mem_append.mp h with h | h
  · exact r.th a h
  · obtain ⟨p, hp, e⟩ := List.mem_map.mp h
    subst e
    exact odv_some (r.ob p.1 p.2 hp)
theorem Ro.nil {ps : List Addr} (h : ∀ a ∈ ps, H a ≠ none) : Ro K H ⟨ps, []⟩ := ⟨fun _ _ h => (List.not_mem_nil h).elim, List.nodup_nil, h⟩
theorem ads_nil {ps : List Addr} : ads ⟨ps, []⟩ = ps := by
  show ps ++ [] = ps
  rw [List.append_nil]
theorem new_out {ps : List Addr} (t : ∀ a ∈ ps, H a ≠ none) {p : Addr} (h : H p = none) : p ∉ ps := fun z => t p z h
theorem Rl.set (r : Rl K H σ δ ω) {i : Nat} {x : Sd} {v : V} (h : SdV K (hid (ads ω) H) x v) : Rl K H (σ.set i (some v)) (δ.set i (some x)) ω := by
  refine ⟨by rw [List.length_set, List.length_set, r.len], fun j y hj => ?_, r.ro⟩
  by_cases hij : i = j
  · subst hij
    have hl : i < δ.length := by
      have := (List.getElem?_eq_some_iff.mp hj).1
      rwa [List.length_set] at this
    rw [List.getElem?_set_self hl] at hj
    cases hj
    exact ⟨v, List.getElem?_set_self (by rw [r.len]; exact hl), h⟩
  · rw [List.getElem?_set_ne hij] at hj
    obtain ⟨u, h1, h2⟩ := r.sl j y hj
    exact ⟨u, by rw [List.getElem?_set_ne hij]; exact h1, h2⟩
end

section
variable {X : Cx}
@[irreducible] def wpe (X : Cx) (e : Expr) : TE := fun σ H Q => ∀ pins s, Inv X pins σ H s → wpAny (model X.prog X.w) X.A (eval e X.env) (EP X pins σ Q) X.xe s
@[irreducible] def wpt (X : Cx) (e : Expr) : TT := fun σ H Q => ∀ pins s, Inv X pins σ H s → wpAny (model X.prog X.w) X.A (isTrue e X.env (eval e X.env)) (TP X pins σ Q) X.xe s
@[irreducible] def wpa (X : Cx) (es : List Expr) : TA := fun σ H Q => ∀ (pos : Pos) pins s, Inv X pins σ H s → wpAny (model X.prog X.w) X.A (spliced (backTo pos (starEach es X.env))) (AP X pins σ Q) X.xe s
@[irreducible] def wps (X : Cx) (st : Stmt) : TS := fun D σ H => ∀ pins s, Inv X pins σ H s → wpAny (model X.prog X.w) X.A (exec st X.env) (SP X pins D) X.xe s
@[irreducible] def wpss (X : Cx) (st : List Stmt) : TS := fun D σ H => ∀ pins s, Inv X pins σ H s → wpAny (model X.prog X.w) X.A (execs st X.env) (SP X pins D) X.xe s
theorem pe_w {e : Expr} : PE X e (wpe X e) := ⟨fun pins s σ H Q I h => by unfold wpe at h; exact h pins s I⟩
theorem pt_w {e : Expr} : PT X e (wpt X e) := ⟨fun pins s σ H Q I h => by unfold wpt at h; exact h pins s I⟩
theorem pa_w {es : List Expr} : PA X es (wpa X es) := ⟨fun pos pins s σ H Q I h => by unfold wpa at h; exact h pos pins s I⟩
theorem ps_w {st : Stmt} : PS X st (wps X st) := ⟨fun pins s σ H D I h => by unfold wps at h; exact h pins s I⟩
theorem pss_w {st : List Stmt} : PSs X st (wpss X st) := ⟨fun pins s σ H D I h => by unfold wpss at h; exact h pins s I⟩
theorem we {e : Expr} {t : TE} {σ : L2.St} {H : Hp} {Q : VK} (h : PE X e t) (q : t σ H Q) : wpe X e σ H Q := by unfold wpe; exact fun pins s I => h.run pins s σ H Q I q
theorem wt {e : Expr} {t : TT} {σ : L2.St} {H : Hp} {Q : Bool → Hp → Prop} (h : PT X e t) (q : t σ H Q) : wpt X e σ H Q := by unfold wpt; exact fun pins s I => h.run pins s σ H Q I q
theorem wa {es : List Expr} {t : TA} {σ : L2.St} {H : Hp} {Q : List V → Hp → Prop} (h : PA X es t) (q : t σ H Q) : wpa X es σ H Q := by unfold wpa; exact fun pos pins s I => h.run pos pins s σ H Q I q
theorem ws {st : Stmt} {t : TS} {σ : L2.St} {H : Hp} {D : Ends} (h : PS X st t) (q : t D σ H) : wps X st D σ H := by unfold wps; exact fun pins s I => h.run pins s σ H D I q
theorem wss {st : List Stmt} {t : TS} {σ : L2.St} {H : Hp} {D : Ends} (h : PSs X st t) (q : t D σ H) : wpss X st D σ H := by unfold wpss; exact fun pins s I => h.run pins s σ H D I q
end
def PD (X : Cx) (δ : De) (ω : Om) (e : Expr) (d : PyData) : Prop :=
  ∀ σ H, Rl X.K H σ δ ω → ∀ Q : VK, (∀ v H', Same H H' → Dp X.K (hid (ads ω) H') v d → Q v H') → wpe X e σ H Q
def PDs (X : Cx) (δ : De) (ω : Om) (es : List Expr) (ds : List PyData) : Prop :=
  ∀ σ H, Rl X.K H σ δ ω → ∀ Q : List V → Hp → Prop, (∀ vs H', Same H H' → DpAll X.K (hid (ads ω) H') vs ds → Q vs H') → wpa X es σ H Q
def PTd (X : Cx) (δ : De) (ω : Om) (e : Expr) (b : Bool) : Prop :=
  ∀ σ H, Rl X.K H σ δ ω → ∀ Q : Bool → Hp → Prop, (∀ H', Same H H' → Q b H') → wpt X e σ H Q
/-- a list that is read -/
def PL (X : Cx) (δ : De) (ω : Om) (e : Expr) (ds : List PyData) : Prop :=
  ∀ σ H, Rl X.K H σ δ ω → ∀ Q : VK, (∀ p vs H', Same H H' → SqL X.K H' p vs → DpAll X.K (hid (ads ω) H') vs ds → Q (.ref p) H') → wpe X e σ H Q
/-- a new list -/
def PN (X : Cx) (δ : De) (ω : Om) (e : Expr) (ds : List PyData) : Prop :=
  ∀ σ H, Rl X.K H σ δ ω → ∀ Q : VK, (∀ p vs H', Same H H' → H p = none → H' p = some (.lst vs) → DpAll X.K (hid (p :: ads ω) H') vs ds → Q (.ref p) H') → wpe X e σ H Q
section
variable {X : Cx} {δ : De} {ω : Om} {a b c e : Expr} {es : List Expr} {d da db dc dz : PyData} {ds : List PyData} {pos : Pos}
theorem PD.eq (h : PD X δ ω e d) (q : d = dz) : PD X δ ω e dz := q ▸ h
theorem PN.pl (h : PN X δ ω e ds) : PL X δ ω e ds := fun σ H r Q k => h σ H r Q fun p vs H' s _ h1 h2 => k p vs H' s (SqL.of h1) (dpam hid_cons h2)
theorem PN.pd (h : PN X δ ω e ds) : PD X δ ω e (.list ds) := fun σ H r Q k => h σ H r Q fun p vs H' s n h1 h2 => k (.ref p) H' s (.lst (SqL.of (hid_of (new_out r.ro.there n) h1)) (dpam hid_cons h2))
theorem PD.pl (h : PD X δ ω e (.list ds)) : PL X δ ω e ds := fun σ H r Q k => h σ H r Q fun v H' s h1 => by
  cases h1 with
  | lst hs ha => exact k _ _ H' s (hid_sub.seq hs) ha
theorem pds_nil : PDs X δ ω [] [] := fun σ H _ Q k => wa pa_nil (k [] H (Same.refl H) .nil)
theorem pds_cons (ha : PD X δ ω e d) (hr : PDs X δ ω es ds) (hs : starEach (e :: es) X.env = (false, eval e X.env) :: starEach es X.env := by rfl) : PDs X δ ω (e :: es) (d :: ds) := fun σ H r Q k =>
  wa (pa_cons pe_w pa_w hs) (ha σ H r _ fun v H1 s1 d1 => hr σ H1 (r.mono s1) _ fun vs H2 s2 d2 => k (v :: vs) H2 (s1.trans s2) (.cons (dpm (hid_same s2) d1) d2))

theorem pd_var (i : Nat) {x : Str} (hd : δ[i]? = some (some (.im d)) := by rfl) (hN : X.N[i]? = some x := by rfl) (hv : Vis X.env.scope x := by first | exact Or.inl rfl | exact Or.inr (Or.inl rfl) | exact Or.inr (Or.inr rfl))
    (h1 : (x == ("__debug__" : Str)) = false := by decide) (h2 : (x == ("__classdict__" : Str)) = false := by decide) : PD X δ ω (.Name x pos) d := fun σ H r Q k => by
  obtain ⟨v, e1, e2⟩ := r.sl i _ hd
  exact we (pe_var hN hv h1 h2) ⟨v, e1, k v H (Same.refl H) e2⟩
theorem pl_var (i : Nat) {x : Str} {p : Addr} {xs : List PyData} (hm : (p, Od.lst (xs.map .im)) ∈ ω.os) (hd : δ[i]? = some (some (.ad p)) := by rfl) (hN : X.N[i]? = some x := by rfl) (hv : Vis X.env.scope x := by first | exact Or.inl rfl | exact Or.inr (Or.inl rfl) | exact Or.inr (Or.inr rfl))
    (h1 : (x == ("__debug__" : Str)) = false := by decide) (h2 : (x == ("__classdict__" : Str)) = false := by decide) : PL X δ ω (.Name x pos) xs := fun σ H r Q k => by
  obtain ⟨v, e1, e2⟩ := r.sl i _ hd
  obtain ⟨vs, e3, e4⟩ := r.ro.ob _ _ hm
  have e2 : v = .ref p := e2
  subst e2
  exact we (pe_var hN hv h1 h2) ⟨_, e1, k p vs H (Same.refl H) (SqL.of e3) (dpa_im e4)⟩
theorem pd_int {i : Int} {j : Nat} : PD X δ ω (.Constant (.int i) j pos) (.int i) := fun σ H _ Q k => we pe_int (k _ H (Same.refl H) (.int i))
theorem pd_str {x : Str} {j : Nat} : PD X δ ω (.Constant (.str x) j pos) (.str x) := fun σ H _ Q k => we pe_str (k _ H (Same.refl H) (.str x))
theorem pd_bl {x : Bool} {j : Nat} : PD X δ ω (.Constant (.bool x) j pos) (.bool x) := fun σ H _ Q k => we pe_bl (k _ H (Same.refl H) (.bl x))
theorem pd_non {j : Nat} : PD X δ ω (.Constant .none j pos) .none := fun σ H _ Q k => we pe_non (k _ H (Same.refl H) .non)
/-- a constant of the module -/
def GlD (K : PySem.W.Frag) (mg : Str → Option Value) (x : Str) (d : PyData) : Prop := ∃ v u, mg x = some u ∧ RelV v u ∧ ∀ H, Dp K H v d
theorem pd_glob {x : Str} (h : GlD X.K X.mg x d) (hg : Gl X x := by rfl) (hd : (x == ("__debug__" : Str)) = false := by decide) : PD X δ ω (.Name x pos) d := fun σ H _ Q k => by
  obtain ⟨v, u, h1, h2, h3⟩ := h
  exact we (pe_glob hg h1 h2 hd) (k v H (Same.refl H) (h3 _))

def RD (K : PySem.W.Frag) (r : R2) (da db dz : PyData) : Prop :=
  ∀ (ps : List Addr) (x y : V) (H : Hp), (∀ a ∈ ps, H a ≠ none) → Dp K (hid ps H) x da → Dp K (hid ps H) y db → ∀ Q : VK, (∀ z H', Same H H' → Dp K (hid ps H') z dz → Q z H') → r x y H Q
theorem pd_op {op : Operator} {r : R2} (ho : OpR X (binaryOp op) r) (hr : RD X.K r da db dz) (ha : PD X δ ω a da) (hb : PD X δ ω b db) : PD X δ ω (.BinOp a op b pos) dz := fun σ H rl Q k =>
  we (pe_op ho pe_w pe_w) (ha σ H rl _ fun x H1 s1 d1 => hb σ H1 (rl.mono s1) _ fun y H2 s2 d2 =>
    hr _ x y H2 (there_mono rl.ro.there (s1.trans s2)) (dpm (hid_same s2) d1) d2 Q fun z H3 s3 d3 => k z H3 ((s1.trans s2).trans s3) d3)
theorem pd_cmp {op : CmpOp} {r : R2} (ho : OpR X (compareOp op) r) (hr : RD X.K r da db dz) (ha : PD X δ ω a da) (hb : PD X δ ω b db) (hm : behindInMarks op b = false) : PD X δ ω (.Compare a [op] [b] pos) dz := fun σ H rl Q k =>
  we (pe_cmpR ho pe_w pe_w hm) (ha σ H rl _ fun x H1 s1 d1 => hb σ H1 (rl.mono s1) _ fun y H2 s2 d2 =>
    hr _ x y H2 (there_mono rl.ro.there (s1.trans s2)) (dpm (hid_same s2) d1) d2 Q fun z H3 s3 d3 => k z H3 ((s1.trans s2).trans s3) d3)
theorem rd_I0 {K : PySem.W.Frag} {g : Int → Int → Int} {i j : Int} : RD K (rI0 fun i j => .int (g i j)) (.int i) (.int j) (.int (g i j)) := fun ps x y H _ hx hy Q k => by
  cases hx
  cases hy
  exact ⟨i, j, rfl, rfl, k _ H (Same.refl H) (.int _)⟩
theorem rd_B0 {K : PySem.W.Frag} {g : Int → Int → Bool} {i j : Int} : RD K (rI0 fun i j => .bl (g i j)) (.int i) (.int j) (.bool (g i j)) := fun ps x y H _ hx hy Q k => by
  cases hx
  cases hy
  exact ⟨i, j, rfl, rfl, k _ H (Same.refl H) (.bl _)⟩
theorem rd_I {K : PySem.W.Frag} {C : Int → Int → Prop} {g : Int → Int → Int} {i j : Int} (hc : C i j) : RD K (rI C fun i j => .int (g i j)) (.int i) (.int j) (.int (g i j)) := fun ps x y H _ hx hy Q k => by
  cases hx
  cases hy
  exact ⟨i, j, rfl, rfl, hc, k _ H (Same.refl H) (.int _)⟩
theorem pd_add {i j : Int} (ha : PD X δ ω a (.int i)) (hb : PD X δ ω b (.int j)) : PD X δ ω (.BinOp a .Add b pos) (.int (i + j)) := pd_op op_add rd_I0 ha hb
theorem pd_sub {i j : Int} (ha : PD X δ ω a (.int i)) (hb : PD X δ ω b (.int j)) : PD X δ ω (.BinOp a .Sub b pos) (.int (i - j)) := pd_op op_sub rd_I0 ha hb
theorem pd_mul {i j : Int} (hc : CMulW i j) (ha : PD X δ ω a (.int i)) (hb : PD X δ ω b (.int j)) : PD X δ ω (.BinOp a .Mult b pos) (.int (i * j)) := pd_op op_mulW (rd_I hc) ha hb
theorem pd_mulS {i j : Int} (hc : CMul i j) (ha : PD X δ ω a (.int i)) (hb : PD X δ ω b (.int j)) : PD X δ ω (.BinOp a .Mult b pos) (.int (i * j)) := pd_op op_mul (rd_I hc) ha hb
theorem pd_mod {i j : Int} (hc : 0 < j) (ha : PD X δ ω a (.int i)) (hb : PD X δ ω b (.int j)) : PD X δ ω (.BinOp a .Mod b pos) (.int (i % j)) := pd_op op_mod (rd_I (C := fun _ j => 0 < j) hc) ha hb
theorem pd_fdiv {i j : Int} (hc : CDivW i j) (ha : PD X δ ω a (.int i)) (hb : PD X δ ω b (.int j)) : PD X δ ω (.BinOp a .FloorDiv b pos) (.int (i / j)) := pd_op op_fdivW (rd_I hc) ha hb
theorem pd_pow {i j : Int} (hc : CPow i j) (ha : PD X δ ω a (.int i)) (hb : PD X δ ω b (.int j)) : PD X δ ω (.BinOp a .Pow b pos) (.int (i ^ j.toNat)) := pd_op op_pow (rd_I hc) ha hb
theorem rd_eqI {K : PySem.W.Frag} {i j : Int} : RD K rEq (.int i) (.int j) (.bool (decide (i = j))) := fun ps x y H _ hx hy Q k => by
  cases hx
  cases hy
  refine ⟨rfl, ?_⟩
  have e : decide (V.int i = V.int j) = decide (i = j) := by
    by_cases c : i = j
    · subst c
      simp
    · rw [decide_eq_false c, decide_eq_false (fun z => c (V.int.inj z))]
  rw [e]
  exact k _ H (Same.refl H) (.bl _)
theorem rd_neI {K : PySem.W.Frag} {i j : Int} : RD K rNe (.int i) (.int j) (.bool (!decide (i = j))) := fun ps x y H _ hx hy Q k => by
  cases hx
  cases hy
  refine ⟨rfl, ?_⟩
  have e : decide (V.int i = V.int j) = decide (i = j) := by
    by_cases c : i = j
    · subst c
      simp
    · rw [decide_eq_false c, decide_eq_false (fun z => c (V.int.inj z))]
  rw [e]
  exact k _ H (Same.refl H) (.bl _)
theorem pd_eqI {i j : Int} (ha : PD X δ ω a (.int i)) (hb : PD X δ ω b (.int j)) : PD X δ ω (.Compare a [.Eq] [b] pos) (.bool (decide (i = j))) := pd_cmp op_eq rd_eqI ha hb (nomark _)
theorem pd_neI {i j : Int} (ha : PD X δ ω a (.int i)) (hb : PD X δ ω b (.int j)) : PD X δ ω (.Compare a [.NotEq] [b] pos) (.bool (!decide (i = j))) := pd_cmp op_ne rd_neI ha hb (nomark _)
theorem rd_eqD {K : PySem.W.Frag} (h1 : SeqAt.shaped da = true) (h2 : SeqAt.shaped db = true) : RD K (rEqD K) da db (.bool (PyData.eqv da db)) := fun ps x y H _ hx hy Q k =>
  ⟨da, db, dpm hid_sub hx, dpm hid_sub hy, h1, h2, k _ H (Same.refl H) (.bl _)⟩
theorem rd_neD {K : PySem.W.Frag} (h1 : SeqAt.shaped da = true) (h2 : SeqAt.shaped db = true) : RD K (rNeD K) da db (.bool (!PyData.eqv da db)) := fun ps x y H _ hx hy Q k =>
  ⟨da, db, dpm hid_sub hx, dpm hid_sub hy, h1, h2, k _ H (Same.refl H) (.bl _)⟩
theorem pd_tup {x1} (h : PDs X δ ω es ds) (hz : ds.length ≤ 1000 := by first | decide | (simp only [List.length_cons, List.length_nil]; omega)) : PD X δ ω (.Tuple es x1 pos) (.tuple ds) := fun σ H r Q k =>
  we (pe_tup pa_w) (h σ H r _ fun vs H1 s1 d1 => ⟨Nat.le_of_lt (small1000 (by rw [dpa_len d1]; exact hz)), fun p hp => k _ _ (s1.trans (same_new hp))
    (.tup (SqT.of (hid_of (new_out (there_mono r.ro.there s1) hp) upd_same)) (dpam (hid_same (same_new hp)) d1))⟩)
theorem pn_lst (h : PDs X δ ω es ds) (hz : ds.length ≤ 1000 := by first | decide | (simp only [List.length_cons, List.length_nil]; omega)) : PN X δ ω (.List es pos) ds := fun σ H r Q k =>
  we (pe_lst pa_w) (h σ H r _ fun vs H1 s1 d1 => ⟨Nat.le_of_lt (small1000 (by rw [dpa_len d1]; exact hz)), fun p hp => k p vs _ (s1.trans (same_new hp)) (s1.free hp) upd_same (dpam (hid_new hp (same_new hp)) d1)⟩)
theorem atI_dp {K : PySem.W.Frag} {H : Hp} {ds : List PyData} {vs : List V} {i : Int} (h : DpAll K H vs ds) (ha : atI ds i = some d) : ∃ v, atI vs i = some v ∧ Dp K H v d := by
  unfold atI at ha ⊢
  rw [dpa_len h]
  cases e : ixN ds.length i with
  | none =>
    rw [e] at ha
    cases ha
  | some j =>
    rw [e] at ha
    exact dpa_get h ha
theorem pd_ixT {i : Int} (ha : PD X δ ω a (.tuple ds)) (hb : PD X δ ω b (.int i)) (hi : atI ds i = some d) (hs : PlainIx b := by exact fun _ _ => rfl) : PD X δ ω (.Subscript a b pos) d := fun σ H rl Q k =>
  we (pe_ix ix_tup pe_w pe_w hs) (ha σ H rl _ fun x H1 s1 d1 => hb σ H1 (rl.mono s1) _ fun y H2 s2 d2 => by
    cases d2
    cases d1 with
    | tup hs ha =>
      obtain ⟨v, h1, h2⟩ := atI_dp ha hi
      exact ⟨_, _, _, v, rfl, rfl, same_sqt s2 (same_sqt hid_sub hs), h1, k v H2 (s1.trans s2) (dpm (hid_same s2) h2)⟩)
theorem pd_ixL {i : Int} (ha : PL X δ ω a ds) (hb : PD X δ ω b (.int i)) (hi : atI ds i = some d) (hs : PlainIx b := by exact fun _ _ => rfl) : PD X δ ω (.Subscript a b pos) d := fun σ H rl Q k =>
  we (pe_ix ix_list pe_w pe_w hs) (ha σ H rl _ fun p vs H1 s1 h1 d1 => hb σ H1 (rl.mono s1) _ fun y H2 s2 d2 => by
    cases d2
    obtain ⟨v, h3, h4⟩ := atI_dp d1 hi
    exact ⟨_, _, _, v, rfl, rfl, s2.seq h1, h3, k v H2 (s1.trans s2) (dpm (hid_same s2) h4)⟩)
theorem pd_lenT {p : Pos} (hm : X.mg "len" = none) (ha : PD X δ ω a (.tuple ds)) (hg : Gl X "len" := by rfl) (hs : starEach [a] X.env = (false, eval a X.env) :: starEach [] X.env := by rfl) : PD X δ ω (.Call (.Name "len" p) [a] [] pos) (.int ds.length) := fun σ H rl Q k =>
  we (pe_callB call_len_seq hg hm PySem.boot_len (pa_cons pe_w pa_nil hs) (he := hs)) (ha σ H rl _ fun x H1 s1 d1 => by
    cases d1 with
    | tup h1 h2 =>
      refine ⟨_, _, rfl, .inr (same_sqt hid_sub h1), ?_⟩
      rw [dpa_len h2]
      exact k _ H1 s1 (.int _))
theorem pd_lenL {p : Pos} (hm : X.mg "len" = none) (ha : PL X δ ω a ds) (hg : Gl X "len" := by rfl) (hs : starEach [a] X.env = (false, eval a X.env) :: starEach [] X.env := by rfl) : PD X δ ω (.Call (.Name "len" p) [a] [] pos) (.int ds.length) := fun σ H rl Q k =>
  we (pe_callB call_len_seq hg hm PySem.boot_len (pa_cons pe_w pa_nil hs) (he := hs)) (ha σ H rl _ fun x vs H1 s1 h1 d1 => by
    refine ⟨_, _, rfl, .inl h1, ?_⟩
    rw [dpa_len d1]
    exact k _ H1 s1 (.int _))
theorem pd_lenS {p : Pos} {z : Str} (hm : X.mg "len" = none) (ha : PD X δ ω a (.str z)) (hz : z.length ≤ 100000) (hg : Gl X "len" := by rfl) (hs : starEach [a] X.env = (false, eval a X.env) :: starEach [] X.env := by rfl) : PD X δ ω (.Call (.Name "len" p) [a] [] pos) (.int z.length) := fun σ H rl Q k =>
  we (pe_callB call_len hg hm PySem.boot_len (pa_cons pe_w pa_nil hs) (he := hs)) (ha σ H rl _ fun x H1 s1 d1 => by
    cases d1
    exact ⟨_, _, rfl, ⟨Nat.le_trans hz (by decide), rfl⟩, k _ H1 s1 (.int _)⟩)

theorem pt_bool {k : Bool} (h : PD X δ ω e (.bool k)) (he : ∀ whole, isTrue e X.env whole = (do let v ← whole; standAt e.pos; holding [v] (truthy v)) := by intro _; rfl) : PTd X δ ω e k := fun σ H r Q q =>
  wt (pt_val pe_w he) (h σ H r _ fun v H1 s1 d1 => by
    cases d1
    exact ⟨_, rfl, q H1 s1⟩)
theorem pt_cmpd {op : CmpOp} {r : R2} {k : Bool} (ho : OpR X (compareOp op) r) (hr : RD X.K r da db (.bool k)) (ha : PD X δ ω a da) (hb : PD X δ ω b db) (hm : behindInMarks op b = false) : PTd X δ ω (.Compare a [op] [b] pos) k := fun σ H rl Q q =>
  wt (pt_cmpR ho pe_w pe_w hm) (ha σ H rl _ fun x H1 s1 d1 => hb σ H1 (rl.mono s1) _ fun y H2 s2 d2 =>
    hr _ x y H2 (there_mono rl.ro.there (s1.trans s2)) (dpm (hid_same s2) d1) d2 _ fun z H3 s3 d3 => by
      cases d3
      exact ⟨_, rfl, q H3 ((s1.trans s2).trans s3)⟩)
theorem pt_notd {k : Bool} (h : PTd X δ ω e k) : PTd X δ ω (.UnaryOp .Not e pos) (!k) := fun σ H r Q q => wt (pt_not pt_w) (h σ H r _ fun H1 s1 => q H1 s1)
end
end FP

namespace FP
open PySem PySem.Spec PyProof.Rows L2
@[irreducible] def wpw (X : Cx) (e : Expr) : TT := fun σ H Q => ∀ (whole : Sem Value) pins s, Inv X pins σ H s → wpAny (model X.prog X.w) X.A (isTrue e X.env whole) (TP X pins σ Q) X.xe s
theorem pw_w {X : Cx} {e : Expr} : PW X e (wpw X e) := ⟨fun whole pins s σ H Q I h => by unfold wpw at h; exact h whole pins s I⟩
theorem ww {X : Cx} {e : Expr} {t : TT} {σ : L2.St} {H : Hp} {Q : Bool → Hp → Prop} (h : PW X e t) (q : t σ H Q) : wpw X e σ H Q := by unfold wpw; exact fun whole pins s I => h.run whole pins s σ H Q I q
def PWd (X : Cx) (δ : De) (ω : Om) (e : Expr) (b : Bool) : Prop :=
  ∀ σ H, Rl X.K H σ δ ω → ∀ Q : Bool → Hp → Prop, (∀ H', Same H H' → Q b H') → wpw X e σ H Q
section
variable {X : Cx} {δ : De} {ω : Om} {a b c e : Expr} {es r : List Expr} {d da db dc dz : PyData} {ds : List PyData} {pos : Pos} {k x y : Bool}
theorem PWd.pt (h : PWd X δ ω e k) : PTd X δ ω e k := fun σ H rl Q q => wt (PW.pt pw_w) (h σ H rl Q q)
theorem pw_and1d (h : PTd X δ ω a k) : PWd X δ ω (.BoolOp .And [a] pos) k := fun σ H rl Q q => ww (pw_and1 pt_w) (h σ H rl Q q)
theorem pw_or1d (h : PTd X δ ω a k) : PWd X δ ω (.BoolOp .Or [a] pos) k := fun σ H rl Q q => ww (pw_or1 pt_w) (h σ H rl Q q)
theorem pw_andd (h : PTd X δ ω a x) (h2 : x = true → PWd X δ ω (.BoolOp .And (b :: r) pos) y) : PWd X δ ω (.BoolOp .And (a :: b :: r) pos) (x && y) := fun σ H rl Q q =>
  ww (pw_and pt_w pw_w) (h σ H rl _ fun H1 s1 => by
    cases x with
    | true => exact iteT (h2 rfl σ H1 (rl.mono s1) Q fun H2 s2 => q H2 (s1.trans s2))
    | false => exact iteF (q H1 s1))
theorem pw_ord (h : PTd X δ ω a x) (h2 : x = false → PWd X δ ω (.BoolOp .Or (b :: r) pos) y) : PWd X δ ω (.BoolOp .Or (a :: b :: r) pos) (x || y) := fun σ H rl Q q =>
  ww (pw_or pt_w pw_w) (h σ H rl _ fun H1 s1 => by
    cases x with
    | true => exact iteT (q H1 s1)
    | false => exact iteF (h2 rfl σ H1 (rl.mono s1) Q fun H2 s2 => q H2 (s1.trans s2)))
theorem pw_orT (h : PTd X δ ω a true) : PWd X δ ω (.BoolOp .Or (a :: b :: r) pos) true := fun σ H rl Q q => ww (pw_or pt_w pw_w) (h σ H rl _ fun H1 s1 => iteT (q H1 s1))
theorem pd_one {op : PySem.BoolOp} (h : PD X δ ω a d) : PD X δ ω (.BoolOp op [a] pos) d := fun σ H rl Q q => we (pe_one pe_w) (h σ H rl Q q)
theorem pd_and (h : PD X δ ω a (.bool x)) (h2 : x = true → PD X δ ω (.BoolOp .And (b :: r) pos) (.bool y)) : PD X δ ω (.BoolOp .And (a :: b :: r) pos) (.bool (x && y)) := fun σ H rl Q q =>
  we (pe_and pe_w pe_w) (h σ H rl _ fun v H1 s1 d1 => by
    cases d1
    refine ⟨x, rfl, ?_⟩
    cases x with
    | true => exact iteT (h2 rfl σ H1 (rl.mono s1) Q fun v H2 s2 => q v H2 (s1.trans s2))
    | false => exact iteF (q _ H1 s1 (.bl _)))
theorem pd_andF (h : PD X δ ω a (.bool false)) : PD X δ ω (.BoolOp .And (a :: b :: r) pos) (.bool false) := fun σ H rl Q q =>
  we (pe_and pe_w pe_w) (h σ H rl _ fun v H1 s1 d1 => by
    cases d1
    exact ⟨false, rfl, iteF (q _ H1 s1 (.bl _))⟩)
theorem pd_not (h : PD X δ ω a (.bool x)) : PD X δ ω (.UnaryOp .Not a pos) (.bool (!x)) := fun σ H rl Q q =>
  we (pe_not pe_w) (h σ H rl _ fun v H1 s1 d1 => by
    cases d1
    exact ⟨x, rfl, q _ H1 s1 (.bl _)⟩)
theorem pd_if (h : PTd X δ ω c k) (h1 : k = true → PD X δ ω a d) (h2 : k = false → PD X δ ω b d) : PD X δ ω (.IfExp c a b pos) d := fun σ H rl Q q =>
  we (pe_ifExp pt_w pe_w pe_w) (h σ H rl _ fun H1 s1 => by
    cases k with
    | true => exact iteT (h1 rfl σ H1 (rl.mono s1) Q fun v H2 s2 => q v H2 (s1.trans s2))
    | false => exact iteF (h2 rfl σ H1 (rl.mono s1) Q fun v H2 s2 => q v H2 (s1.trans s2)))
/-- a < b < c -/
theorem pd_chain {op op' : CmpOp} {r r' : R2} (ho : OpR X (compareOp op) r) (ho' : OpR X (compareOp op') r') (hr : RD X.K r da db (.bool x)) (hr' : x = true → RD X.K r' db dc (.bool y)) (ha : PD X δ ω a da) (hb : PD X δ ω b db) (hc : x = true → PD X δ ω c dc)
    (h1 : lastMarks [op, op'] [b, c] = false := by with_unfolding_all rfl) : PD X δ ω (.Compare a [op, op'] [b, c] pos) (.bool (x && y)) := fun σ H rl Q q =>
  we (pe_chain ho ho' pe_w pe_w pe_w h1) (ha σ H rl _ fun u H1 s1 d1 => hb σ H1 (rl.mono s1) _ fun v H2 s2 d2 =>
    hr _ u v H2 (there_mono rl.ro.there (s1.trans s2)) (dpm (hid_same s2) d1) d2 _ fun z H3 s3 d3 => by
      cases d3
      refine ⟨x, rfl, ?_⟩
      cases x with
      | true => exact iteT (hc rfl σ H3 (rl.mono ((s1.trans s2).trans s3)) _ fun t H4 s4 d4 => hr' rfl _ v t H4 (there_mono rl.ro.there (((s1.trans s2).trans s3).trans s4)) (dpm (hid_same (s3.trans s4)) d2) d4 Q fun z H5 s5 d5 => q z H5 ((((s1.trans s2).trans s3).trans s4).trans s5) d5)
      | false => exact iteF (q _ H3 ((s1.trans s2).trans s3) (.bl _)))

def RC (K : PySem.W.Frag) (r : List V → Hp → VK → Prop) (ds : List PyData) (dz : PyData) : Prop :=
  ∀ (ps : List Addr) (vs : List V) (H : Hp), (∀ a ∈ ps, H a ≠ none) → DpAll K (hid ps H) vs ds → ∀ Q : VK, (∀ z H', Same H H' → Dp K (hid ps H') z dz → Q z H') → r vs H Q
theorem pd_callB {id : String} {r : List V → Hp → VK → Prop} {x : Str} {p : Pos} (hc : CallR X (.builtin id) r) (hr : RC X.K r ds dz) (hm : X.mg x = none) (hv : bootBuiltins x = some (.builtin id)) (ha : PDs X δ ω (a :: es) ds) (hg : Gl X x := by rfl)
    (hn : x ≠ "__name__" := by decide) (hdb : (x == ("__debug__" : Str)) = false := by decide) (he : starEach (a :: es) X.env = (false, eval a X.env) :: starEach es X.env := by rfl) (hpl : (backTo pos (starEach es X.env)).any (·.1) = false := by rfl) :
    PD X δ ω (.Call (.Name x p) (a :: es) [] pos) dz := fun σ H rl Q k =>
  we (pe_callB hc hg hm hv pa_w hn hdb he hpl) (ha σ H rl _ fun vs H1 s1 d1 => hr _ vs H1 (there_mono rl.ro.there s1) d1 Q fun z H2 s2 d2 => k z H2 (s1.trans s2) d2)
theorem pd_callTy {T : String} {r : List V → Hp → VK → Prop} {x : Str} {p : Pos} (hc : CallR X (.type T) r) (hr : RC X.K r ds dz) (hm : X.mg x = none) (hv : bootBuiltins x = some (.type T)) (ha : PDs X δ ω (a :: es) ds) (hg : Gl X x := by rfl)
    (hn : x ≠ "__name__" := by decide) (hdb : (x == ("__debug__" : Str)) = false := by decide) (he : starEach (a :: es) X.env = (false, eval a X.env) :: starEach es X.env := by rfl) (hpl : (backTo pos (starEach es X.env)).any (·.1) = false := by rfl) :
    PD X δ ω (.Call (.Name x p) (a :: es) [] pos) dz := fun σ H rl Q k =>
  we (pe_callTy hc hg hm hv pa_w hn hdb he hpl) (ha σ H rl _ fun vs H1 s1 d1 => hr _ vs H1 (there_mono rl.ro.there s1) d1 Q fun z H2 s2 d2 => k z H2 (s1.trans s2) d2)
theorem pd_min {p : Pos} {i j : Int} (hc : X.calm = true) (hm : X.mg "min" = none) (ha : PD X δ ω a (.int i)) (hb : PD X δ ω b (.int j)) (hg : Gl X "min" := by rfl)
    (he : starEach [a, b] X.env = (false, eval a X.env) :: starEach [b] X.env := by rfl) (hb2 : starEach [b] X.env = (false, eval b X.env) :: starEach [] X.env := by rfl) (hpl : (backTo pos (starEach [b] X.env)).any (·.1) = false := by rfl) :
    PD X δ ω (.Call (.Name "min" p) [a, b] [] pos) (.int (if j < i then j else i)) :=
  pd_callB (call_min2 hc) (fun ps vs H _ h Q k => by
    cases h with
    | cons h1 h2 =>
      cases h2 with
      | cons h3 h4 =>
        cases h4
        cases h1
        cases h3
        exact ⟨i, j, rfl, k _ H (Same.refl H) (.int _)⟩) hm (by decide +kernel) (pds_cons ha (pds_cons hb pds_nil hb2) he) hg (by decide) (by decide) he hpl
theorem pd_max {p : Pos} {i j : Int} (hc : X.calm = true) (hm : X.mg "max" = none) (ha : PD X δ ω a (.int i)) (hb : PD X δ ω b (.int j)) (hg : Gl X "max" := by rfl)
    (he : starEach [a, b] X.env = (false, eval a X.env) :: starEach [b] X.env := by rfl) (hb2 : starEach [b] X.env = (false, eval b X.env) :: starEach [] X.env := by rfl) (hpl : (backTo pos (starEach [b] X.env)).any (·.1) = false := by rfl) :
    PD X δ ω (.Call (.Name "max" p) [a, b] [] pos) (.int (if j > i then j else i)) :=
  pd_callB (call_max2 hc) (fun ps vs H _ h Q k => by
    cases h with
    | cons h1 h2 =>
      cases h2 with
      | cons h3 h4 =>
        cases h4
        cases h1
        cases h3
        exact ⟨i, j, rfl, k _ H (Same.refl H) (.int _)⟩) hm (by decide +kernel) (pds_cons ha (pds_cons hb pds_nil hb2) he) hg (by decide) (by decide) he hpl
theorem pd_ord {p : Pos} {z : Str} {i : Nat} (hm : X.mg "ord" = none) (ha : PD X δ ω a (.str z)) (hz : z.length = 1) (hi : z.cps.getD 0 0 = i) (hg : Gl X "ord" := by rfl)
    (he : starEach [a] X.env = (false, eval a X.env) :: starEach [] X.env := by rfl) : PD X δ ω (.Call (.Name "ord" p) [a] [] pos) (.int (i : Nat)) :=
  pd_callB call_ord (fun ps vs H _ h Q k => by
    cases h with
    | cons h1 h2 =>
      cases h2
      cases h1
      refine ⟨z, rfl, hz, ?_⟩
      rw [hi]
      exact k _ H (Same.refl H) (.int _)) hm (by decide +kernel) (pds_cons ha pds_nil he) hg (by decide) (by decide) he (by rfl)
theorem dpa_bl {K : PySem.W.Frag} {H : Hp} : ∀ {bs : List Bool} {vs : List V}, DpAll K H vs (bs.map .bool) → vs = bs.map V.bl
  | [], _, h => by
    cases h
    rfl
  | b :: bs, _, h => by
    cases h with
    | cons x y =>
      cases x
      rw [List.map_cons, dpa_bl y]
/-- all of a list of truths -/
theorem pd_all {p : Pos} {bs : List Bool} (hc : X.calm = true) (hm : X.mg "all" = none) (ha : PL X δ ω a (bs.map .bool)) (hg : Gl X "all" := by rfl)
    (he : starEach [a] X.env = (false, eval a X.env) :: starEach [] X.env := by rfl) : PD X δ ω (.Call (.Name "all" p) [a] [] pos) (.bool (bs.all id)) := fun σ H rl Q k =>
  we (pe_callB (cr_all hc) hg hm (by decide +kernel) (pa_cons pe_w pa_nil he) (he := he)) (ha σ H rl _ fun q vs H1 s1 h1 d1 => by
    have ev : vs = bs.map V.bl := dpa_bl d1
    subst ev
    exact ⟨q, bs, rfl, h1, k _ H1 s1 (.bl _)⟩)
/-- isinstance of a built-in class -/
def kindD : PyData → String
  | .none => "NoneType"
  | .bool _ => "bool"
  | .int _ => "int"
  | .str _ => "str"
  | .list _ => "list"
  | .tuple _ => "tuple"
  | .dict _ => "dict"
theorem tyx_of {K : PySem.W.Frag} {H : Hp} {v : V} (h : Dp K H v d) : TyX K H v (.type (kindD d)) := by
  cases h with
  | non => exact .base .non
  | bl b => exact .base (.bl b)
  | int i => exact .base (.int i)
  | str x => exact .base (.str x)
  | lst h _ =>
    rcases h with (h | ⟨o, h⟩) | ⟨o, its, n, h, c, _⟩
    · exact .base (.lst h)
    · exact .base (.frz h)
    · exact .kList h c
  | tup h _ =>
    rcases h with (h | ⟨o, h⟩) | ⟨o, its, n, h, c, _⟩
    · exact .base (.tup h)
    · exact .fTuple h
    · exact .kTuple h c
theorem pd_isi {p p2 : Pos} {t : String} {x : Str} (hm : X.mg "isinstance" = none) (hmx : X.mg x = none) (hbx : bootBuiltins x = some (.type t)) (ha : PD X δ ω a d) (hk : kitB (kindD d) t = some k) (hg : Gl X "isinstance" := by rfl) (hgx : Gl X x := by rfl)
    (hnx : x ≠ "__name__" := by decide) (hdx : (x == ("__debug__" : Str)) = false := by decide)
    (he : starEach [a, .Name x p2] X.env = (false, eval a X.env) :: starEach [.Name x p2] X.env := by rfl) (he2 : starEach [.Name x p2] X.env = (false, eval (.Name x p2) X.env) :: starEach [] X.env := by rfl) (hpl : (backTo pos (starEach [.Name x p2] X.env)).any (·.1) = false := by rfl) :
    PD X δ ω (.Call (.Name "isinstance" p) [a, .Name x p2] [] pos) (.bool k) := fun σ H rl Q q =>
  we (pe_callB call_isi hg hm (by decide +kernel) (pa_cons pe_w (pa_cons (pe_bltn (v := .ty t) hgx hmx hbx rfl hnx hdx) pa_nil he2) he) (he := he) (hpl := hpl)) (ha σ H rl _ fun v H1 s1 d1 =>
    ⟨v, .ty t, _, _, k, rfl, .ty t, tyx_of (dpm hid_sub d1), kit_ty hk, q _ H1 s1 (.bl _)⟩)
end
end FP

namespace FP
open PySem PySem.Spec PyProof.Rows L2
inductive Rs where
  | ok (d : PyData)
  | er (C : Addr)
def RsQ (K : PySem.W.Frag) (ps : List Addr) (H : Hp) (Q : VK) (E : XK) : Rs → Prop
  | .ok d => ∀ v H', Same H H' → Dp K (hid ps H') v d → Q v H'
  | .er C => ∀ H', Same H H' → E (.ref C) none H'
def spD (K : PySem.W.Frag) (fr : List PyData → Rs → Prop) : Sp := fun vs H Q E => ∃ ps ds r, (∀ a ∈ ps, H a ≠ none) ∧ DpAll K (hid ps H) vs ds ∧ fr ds r ∧ RsQ K ps H Q E r
structure DefOk (P : Program) (w : World) (K : PySem.W.Frag) (mg : Str → Option Value) (base : Heap) (k : Nat) (x : Str) (fr : List PyData → Rs → Prop) : Prop where
  ex : ∃ f fd ps, FnOk P w K mg base (L2N.CX P w) k f fd ps (spD K fr) ∧ mg x = some (.ref f) ∧ PySem.W.keepIn K (.ref f) = true ∧ L2.Binds K fd ps []
theorem DefOk.mono {P : Program} {w : World} {K : PySem.W.Frag} {mg : Str → Option Value} {base : Heap} {j k : Nat} {x : Str} {fr : List PyData → Rs → Prop} (G : DefOk P w K mg base j x fr) (h : j ≤ k) : DefOk P w K mg base k x fr := by
  obtain ⟨f, fd, ps, F, m, kp, b⟩ := G.ex
  exact ⟨f, fd, ps, F.mono h, m, kp, b⟩
theorem passN {X : Cx} : Passes (L2N.CX X.prog X.w) X E0 := fun _ _ _ _ _ _ _ h => by
  obtain ⟨_, _, _, _, _, _, _, _, _, _, _, _, z⟩ := h
  cases z
section
variable {X : Cx} {δ : De} {ω : Om} {a b c e : Expr} {es r : List Expr} {d da db dc dz : PyData} {ds : List PyData} {pos p : Pos} {k : Nat} {x : Str} {fr : List PyData → Rs → Prop}
theorem pd_call (G : DefOk X.prog X.w X.K X.mg X.base k x fr) (hr : Room k X.A) (ha : PDs X δ ω (a :: es) ds) (hf : fr ds (.ok d)) (hg : Gl X x := by rfl) (hdb : (x == ("__debug__" : Str)) = false := by decide)
    (he : starEach (a :: es) X.env = (false, eval a X.env) :: starEach es X.env := by rfl) (hpl : (backTo pos (starEach es X.env)).any (·.1) = false := by rfl) : PD X δ ω (.Call (.Name x p) (a :: es) [] pos) d := fun σ H rl Q q => by
  obtain ⟨f, fd, ps, F, m, kp, b⟩ := G.ex
  refine we (pe_call F hr hg m kp b .nil passN pa_w hdb he hpl) (ha σ H rl _ fun vs H1 s1 d1 => ?_)
  show spD X.K fr (vs ++ []) H1 Q E0
  rw [List.append_nil]
  exact ⟨ads ω, ds, .ok d, there_mono rl.ro.there s1, d1, hf, fun v H' s' d' => q v H' (s1.trans s') d'⟩
end

/-- what stays in a loop -/
def Pt (T : List (Addr × Str)) (o : HO) : Prop := T = [] ∨ ∀ ps, o ≠ .tbl ps
def Ke (T : List (Addr × Str)) (G H : Hp) : Prop := ∀ b o, G b = some o → Pt T o → H b = some o
theorem ke_same {T : List (Addr × Str)} {G H : Hp} (h : Same G H) : Ke T G H := fun b o e _ => h b o e
theorem pt_tup {T : List (Addr × Str)} {xs : List V} : Pt T (.tup xs) := .inr fun _ z => by cases z
theorem pt_lst {T : List (Addr × Str)} {xs : List V} : Pt T (.lst xs) := .inr fun _ z => by cases z
theorem pt_frz {T : List (Addr × Str)} {o : Obj} {u : HO} : Pt T (.frz o u) := .inr fun _ z => by cases z
theorem ke_sqt {T : List (Addr × Str)} {K : PySem.W.Frag} {G H : Hp} {a : Addr} {xs : List V} (e : Ke T G H) (h : SqT K G a xs) : SqT K H a xs := by
  rcases h with (h | ⟨o, h⟩) | h
  · exact .inl (.inl (e _ _ h pt_tup))
  · exact .inl (.inr ⟨o, e _ _ h pt_frz⟩)
  · exact .inr h
theorem ke_sql {T : List (Addr × Str)} {K : PySem.W.Frag} {G H : Hp} {a : Addr} {xs : List V} (e : Ke T G H) (h : SqL K G a xs) : SqL K H a xs := by
  rcases h with (h | ⟨o, h⟩) | h
  · exact .inl (.inl (e _ _ h pt_lst))
  · exact .inl (.inr ⟨o, e _ _ h pt_frz⟩)
  · exact .inr h
mutual
theorem dp_ke {T : List (Addr × Str)} {K : PySem.W.Frag} {H H' : Hp} (e : Ke T H H') : ∀ (d : PyData) (v : V), Dp K H v d → Dp K H' v d
  | .none, _, h => by
    cases h
    exact .non
  | .bool b, _, h => by
    cases h
    exact .bl b
  | .int i, _, h => by
    cases h
    exact .int i
  | .str x, _, h => by
    cases h
    exact .str x
  | .list ds, _, h => by
    cases h with
    | lst hs ha => exact .lst (ke_sql e hs) (dpa_ke e ds _ ha)
  | .tuple ds, _, h => by
    cases h with
    | tup hs ha => exact .tup (ke_sqt e hs) (dpa_ke e ds _ ha)
  | .dict kvs, _, h => by cases h
theorem dpa_ke {T : List (Addr × Str)} {K : PySem.W.Frag} {H H' : Hp} (e : Ke T H H') : ∀ (ds : List PyData) (vs : List V), DpAll K H vs ds → DpAll K H' vs ds
  | [], _, h => by
    cases h
    exact .nil
  | d :: ds, _, h => by
    cases h with
    | cons a b => exact .cons (dp_ke e d _ a) (dpa_ke e ds _ b)
end
def Wk (K : PySem.W.Frag) (G : Hp → Prop) (B : Hp) (J : It) (items : List PyData) : Prop :=
  ∀ H', G H' → (∀ i, i < items.length → J.go i H') ∧ J.stop items.length H' ∧ ∀ i x H'', i < items.length → J.yld i H' x H'' → H'' = H' ∧ ∃ d, items[i]? = some d ∧ Dp K B x d
def PWs (X : Cx) (δ : De) (ω : Om) (tg iter : Expr) (items : List PyData) : Prop :=
  ∃ wi, PI X tg iter wi ∧ ∀ σ H, Rl X.K H σ δ ω → ∀ R : It → Hp → Prop, (∀ J H', Same H H' → Wk X.K (Same H') (hid (ads ω) H') J items → R J H') → wi σ H R
def PWk (X : Cx) (δ : De) (ω : Om) (tg iter : Expr) (items : List PyData) : Prop :=
  ∃ wi, PI X tg iter wi ∧ ∀ σ H, Rl X.K H σ δ ω → ∀ R : It → Hp → Prop, (∀ J H', Same H H' → (∀ T, Wk X.K (Ke T (hid (ads ω) H')) (hid (ads ω) H') J items) → R J H') → wi σ H R
section
variable {X : Cx} {δ : De} {ω : Om} {a b c e tg iter : Expr} {es r : List Expr} {d da db dc dz : PyData} {ds : List PyData} {pos p : Pos} {k : Nat} {x : Str}
theorem PWk.ws (h : PWk X δ ω tg iter ds) : PWs X δ ω tg iter ds := by
  obtain ⟨wi, h1, h2⟩ := h
  exact ⟨wi, h1, fun σ H rl R k => h2 σ H rl R fun J H' s w => k J H' s fun H2 s2 => w [] H2 (ke_same ((hid_same s2).trans hid_sub))⟩
def signsD (z : Str) : List PyData := z.cps.toList.map fun c => .str ⟨#[c]⟩
theorem wk_str {z : Str} (h : PD X δ ω iter (.str z)) : PWk X δ ω tg iter (signsD z) := by
  refine ⟨iStr (wpe X iter), pi_str pe_w, fun σ H rl R k => h σ H rl _ fun v H1 s1 d1 => ?_⟩
  cases d1
  have hl : (signsD z).length = z.cps.size := by
    unfold signsD
    rw [List.length_map, Array.length_toList]
  refine ⟨z, rfl, k _ H1 s1 fun T H2 g => ⟨fun i hi => ?_, ?_, fun i y H3 hi w => ?_⟩⟩
  · show i < z.cps.size
    rw [← hl]
    exact hi
  · show z.cps.size ≤ (signsD z).length
    rw [hl]
    exact Nat.le_refl _
  · obtain ⟨e1, c, e2, e3⟩ := w
    subst e3
    refine ⟨e1, .str ⟨#[c]⟩, ?_, .str _⟩
    unfold signsD
    rw [List.getElem?_map, Array.getElem?_toList, e2]
    rfl
def rangeD (lo : Int) (n : Nat) : List PyData := (List.range n).map fun (i : Nat) => .int (lo + (i : Int))
theorem rangeD_len (lo : Int) (n : Nat) : (rangeD lo n).length = n := by
  unfold rangeD
  rw [List.length_map, List.length_range]
theorem rangeD_get {lo : Int} {n i : Nat} (h : i < n) : (rangeD lo n)[i]? = some (.int (lo + (i : Int))) := by
  unfold rangeD
  rw [List.getElem?_map, List.getElem?_range h]
  rfl
theorem wk_range1 {j : Int} (hm : X.mg "range" = none) (ha : PD X δ ω a (.int j)) (hj : 0 ≤ j ∧ j ≤ 100000) (hg : Gl X "range" := by rfl) (hs : starEach [a] X.env = [(false, eval a X.env)] := by rfl) (he : starEach [a] X.env = (false, eval a X.env) :: starEach [] X.env := by rfl) :
    PWk X δ ω tg (.Call (.Name "range" p) [a] [] pos) (rangeD 0 j.toNat) := by
  refine ⟨_, pi_range1 hg hm (pa_cons pe_w pa_nil he) hs, fun σ H rl R k => ha σ H rl _ fun v H1 s1 d1 => ?_⟩
  cases d1
  refine ⟨j, rfl, by omega, by omega, k _ H1 s1 fun T H2 g => ⟨fun i hi => ?_, ?_, fun i y H3 hi w => ?_⟩⟩
  · rw [rangeD_len] at hi
    exact hi
  · show j.toNat ≤ (rangeD 0 j.toNat).length
    rw [rangeD_len]
    exact Nat.le_refl _
  · obtain ⟨e1, e2⟩ := w
    subst e2
    rw [rangeD_len] at hi
    exact ⟨e1, _, rangeD_get hi, .int _⟩

/-- the list under way, as an object of one's own -/
def omD (ω : Om) (D : Addr) (o : Od) : Om := ⟨ω.ps, (D, o) :: ω.os⟩
theorem ads_omD {ω : Om} {D : Addr} {o : Od} {b : Addr} : b ∈ ads (omD ω D o) ↔ b = D ∨ b ∈ ads ω := by
  show b ∈ ω.ps ++ D :: ω.os.map (·.1) ↔ b = D ∨ b ∈ ω.ps ++ ω.os.map (·.1)
  simp only [List.mem_append, List.mem_cons]
  constructor
  · rintro (h | h | h)
    · exact .inr (.inl h)
    · exact .inl h
    · exact .inr (.inr h)
  · rintro (h | h | h)
    · exact .inr (.inl h)
    · exact .inl h
    · exact .inr (.inr h)
/-- from a heap that has no D to one that has it: what was seen is seen -/
theorem hid_in {ω : Om} {D : Addr} {o : Od} {G H : Hp} (hD : G D = none) (e : Same G H) : Same (hid (ads ω) G) (hid (ads (omD ω D o)) H) := fun b u h => by
  obtain ⟨n, e2⟩ := hid_out h
  refine hid_of (fun z => ?_) (e b u e2)
  rcases ads_omD.mp z with q | q
  · rw [q, hD] at e2
    cases e2
  · exact n q
theorem Rl.omD {K : PySem.W.Frag} {G H : Hp} {σ : L2.St} {δ : De} {D : Addr} {xs : List PyData} {vs : List V} (rl : Rl K G σ δ ω) (hD : G D = none) (e : Same G H) (hv : H D = some (.lst vs)) (hx : DpAll K (hid (ads (omD ω D (.lst (xs.map .im)))) H) vs xs) :
    Rl K H σ δ (omD ω D (.lst (xs.map .im))) := by
  refine ⟨rl.len, fun i r h => ?_, ?_, ?_, there_mono rl.ro.th e⟩
  · obtain ⟨v, h1, h2⟩ := rl.sl i r h
    exact ⟨v, h1, sdv_mono (hid_in hD e) h2⟩
  · intro a o h
    rcases List.mem_cons.mp h with q | q
    · cases q
      exact ⟨vs, hv, im_dpa hx⟩
    · exact odv_mono (hid_in hD e) e (rl.ro.ob a o q)
  · show (D :: ω.os.map (·.1)).Nodup
    refine List.nodup_cons.mpr ⟨fun z => ?_, rl.ro.nd⟩
    exact rl.ro.there D (List.mem_append_right _ z) hD
/-- a write at D leaves what is seen beside it -/
theorem hid_upd {ω : Om} {D : Addr} {o o' : Od} {u : HO} {H : Hp} : Same (hid (ads (FP.omD ω D o)) H) (hid (ads (FP.omD ω D o')) (upd H D u)) := fun b x h => by
  obtain ⟨n, e⟩ := hid_out h
  have nb : b ≠ D := fun z => n (ads_omD.mpr (.inl z))
  refine hid_of (fun z => n ?_) (by rw [upd_ne nb]; exact e)
  rcases ads_omD.mp z with q | q
  · exact ads_omD.mpr (.inl q)
  · exact ads_omD.mpr (.inr q)
theorem same_upd_new {G H : Hp} {D : Addr} {u : HO} (hD : G D = none) (e : Same G H) : Same G (upd H D u) := fun b x h => by
  rw [upd_ne (ne_of_none h hD)]
  exact e b x h
/-- the comprehension's reading: no test -/
theorem lc_data {σ : L2.St} {H : Hp} {Q : VK} {wi : TI} {j : Nat} {te : TE} {items ys : List PyData} (rl : Rl X.K H σ δ ω)
    (hw : ∀ R : It → Hp → Prop, (∀ J H', Same H H' → Wk X.K (Same H') (hid (ads ω) H') J items → R J H') → wi σ H R) (hl : ys.length = items.length) (hz : items.length ≤ 10000)
    (he : ∀ (i : Nat) (d y : PyData), items[i]? = some d → ys[i]? = some y → ∀ D o σ' H', Rl X.K H' σ' (δ.set j (some (.im d))) (omD ω D o) → ∀ Q : VK, (∀ v H2, Same H' H2 → Dp X.K (hid (ads (omD ω D o)) H2) v y → Q v H2) → te σ' H' Q)
    (k : ∀ p vs H', Same H H' → H p = none → H' p = some (.lst vs) → DpAll X.K (hid (p :: ads ω) H') vs ys → Q (.ref p) H') :
    tLc wi (gName j) tYes te [j] σ H Q := by
  refine hw _ fun J H1 s1 w => fun D hD => ?_
  have rl1 := rl.mono s1
  refine ⟨fun i m H2 => m = items.length - i ∧ i ≤ items.length ∧ Same H1 H2 ∧ ∃ vs, H2 D = some (.lst vs) ∧ DpAll X.K (hid (ads (FP.omD ω D (.lst ((ys.take i).map .im)))) H2) vs (ys.take i), ⟨items.length, by omega, Nat.zero_le _, same_new hD, [], upd_same, ?_⟩, ?_⟩
  · rw [List.take_zero]
    exact .nil
  rintro i m H2 ⟨em, hi, s2, vs, hv, dv⟩
  obtain ⟨go, stop, yld⟩ := w H2 s2
  by_cases hlt : i < items.length
  · refine .inr ⟨go i hlt, fun H3 => Same H1 H3 ∧ ∃ vs, H3 D = some (.lst vs) ∧ DpAll X.K (hid (ads (FP.omD ω D (.lst ((ys.take (i + 1)).map .im)))) H3) vs (ys.take (i + 1)), fun H3 ⟨s3, h3⟩ => ⟨items.length - (i + 1), by omega, rfl, hlt, s3, h3⟩, fun x H3 hy => ?_⟩
    obtain ⟨e3, d, ed, dx⟩ := yld i x H3 hlt hy
    subst e3
    have hys : i < ys.length := by omega
    have ey : ys[i]? = some ys[i] := List.getElem?_eq_getElem hys
    show wipe (((wipe σ [j])).set j (some x)) [j] = wipe σ [j] ∧ _
    have ew : wipe σ [j] = σ.set j none := rfl
    refine ⟨?_, ?_⟩
    · show (((σ.set j none).set j (some x)).set j none) = σ.set j none
      rw [List.set_set, List.set_set]
    show te (((wipe σ [j])).set j (some x)) H3 _
    rw [ew, List.set_set]
    have rl3 := (rl1.omD hD s2 hv dv)
    have rl4 := rl3.set (i := j) (x := .im d) (v := x) (dpm (hid_in hD s2) dx)
    refine he i d ys[i] ed ey D _ _ _ rl4 _ fun v H4 s4 d4 => ⟨vs, s4 D _ hv, ?_, same_upd_new hD (s2.trans s4), vs ++ [v], upd_same, ?_⟩
    · rw [dpa_len dv, List.length_take]
      refine Nat.lt_of_le_of_lt (Nat.min_le_left _ _) (Nat.lt_of_lt_of_le hlt (Nat.le_trans hz ?_))
      rw [sizeLine_eq]
      decide
    · rw [List.take_add_one, ey]
      exact dpa_app (dpam hid_upd (dpam (hid_same s4) dv)) (.cons (dpm hid_upd d4) .nil)
  · have e : i = items.length := by omega
    subst e
    refine .inl ⟨stop, ?_⟩
    rw [List.take_of_length_le (by omega)] at dv
    exact k D vs H2 (s1.trans s2) (s1.free hD) hv (dpam (hid_more fun b h => ads_omD.mpr (List.mem_cons.mp h)) dv)
/-- [elt for tg in iter] -/
def tBlk (X : Cx) (scope : Scope) (elt : Expr) : TE := fun σ H Q => ∀ (s : Shared) (H0 : Hp) (C : Addr) (cl : List (Str × Addr)) (fp : List Addr), wpe (X.blk s H0 scope (compEnvC scope cl C X.env) fp) elt σ H Q
theorem pe_blk {scope : Scope} {elt : Expr} (s : Shared) (H0 : Hp) (C : Addr) (cl : List (Str × Addr)) (fp : List Addr) : PE (X.blk s H0 scope (compEnvC scope cl C X.env) fp) elt (tBlk X scope elt) := ⟨fun pins s' σ H Q I h => pe_w.run pins s' σ H Q I (h s H0 C cl fp)⟩
theorem pn_lc {elt : Expr} {scope : Scope} {y : Str} {j : Nat} {items ys : List PyData} (hc : X.calm = true) (hN : X.N.Nodup) (hw : PWs X δ ω tg iter items) (hl : ys.length = items.length) (ok : BlkOk X.N X.env.scope scope [(y, j)])
    (hg : ∀ (s : Shared) (H : Hp) (C : Addr) (cl : List (Str × Addr)) (fp : List Addr), PG (X.blk s H scope (compEnvC scope cl C X.env) fp) tg (gName j))
    (he : ∀ (i : Nat) (d y : PyData), items[i]? = some d → ys[i]? = some y → ∀ D o (s : Shared) (H : Hp) (C : Addr) (cl : List (Str × Addr)) (fp : List Addr), PD (X.blk s H scope (compEnvC scope cl C X.env) fp) (δ.set j (some (.im d))) (omD ω D o) elt y)
    (hz : items.length ≤ 10000) (hs : ∀ x, foldedSetIterable iter X.env x = pure x := by intro _; rfl) : PN X δ ω (.ListComp elt [⟨tg, iter, [], 0⟩] scope pos) ys := fun σ H rl Q k => by
  obtain ⟨wi, h1, h2⟩ := hw
  refine we (pe_lc (own := [(y, j)]) hc hN h1 ok hg (fun _ _ _ _ _ => pts_nil) (fun s H0 C cl fp => pe_blk s H0 C cl fp) hs) ?_
  exact lc_data rl (fun R kk => h2 σ H rl R kk) hl hz (fun i d y hd hy D o σ' H' rl' Q' k' s H0 C cl fp => he i d y hd hy D o s H0 C cl fp σ' H' rl' Q' k') k
end
end FP

namespace FP
open PySem PySem.Spec PyProof.Rows L2
abbrev osA (ω : Om) : List Addr := ω.os.map (·.1)
structure Stp (T : List (Addr × Str)) (ω ω' : Om) (H H' : Hp) : Prop where
  keep : ∀ b o, H b = some o → b ∉ osA ω → Pt T o → H' b = some o
  new : ∀ a, a ∈ osA ω' → a ∈ osA ω ∨ ∀ o, H a = some o → ¬ Pt T o
  ps : ω'.ps = ω.ps
  tab : LamX.Tabs T H → LamX.Tabs T H'
theorem Stp.of {T : List (Addr × Str)} {ω : Om} {H H' : Hp} (s : Same H H') : Stp T ω ω H H' := ⟨fun b o h _ _ => s b o h, fun a h => .inl h, rfl, fun t => t.ext s⟩
theorem Stp.refl {T : List (Addr × Str)} {ω : Om} {H : Hp} : Stp T ω ω H H := .of (Same.refl H)
theorem Stp.trans {T : List (Addr × Str)} {ω ω1 ω2 : Om} {H H1 H2 : Hp} (a : Stp T ω ω1 H H1) (b : Stp T ω1 ω2 H1 H2) : Stp T ω ω2 H H2 := by
  refine ⟨fun c o h n p => ?_, fun c h => ?_, b.ps.trans a.ps, fun t => b.tab (a.tab t)⟩
  · refine b.keep c o (a.keep c o h n p) (fun z => ?_) p
    rcases a.new c z with q | q
    · exact n q
    · exact q o h p
  · rcases b.new c h with q | q
    · exact a.new c q
    · by_cases hc : c ∈ osA ω
      · exact .inl hc
      · exact .inr fun o h p => q o (a.keep c o h hc p) p
/-- what was seen is seen behind a step -/
theorem Stp.seen {T : List (Addr × Str)} {ω ω' : Om} {H H' : Hp} (s : Stp T ω ω' H H') : Ke T (hid (ads ω) H) (hid (ads ω') H') := fun b o h p => by
  obtain ⟨n, e⟩ := hid_out h
  have n2 : b ∉ osA ω := fun z => n (List.mem_append_right _ z)
  refine hid_of (fun z => ?_) (s.keep b o e n2 p)
  rcases List.mem_append.mp z with q | q
  · rw [s.ps] at q
    exact n (List.mem_append_left _ q)
  · rcases s.new b q with q | q
    · exact n2 q
    · exact q o e p
inductive Out where
  | nx (δ : De) (ω : Om)
  | rt (r : Sd) (ω : Om)
  | ex (C : Addr) (ω : Om)
  | bk (δ : De) (ω : Om)
  | ct (δ : De) (ω : Om)
structure Kt (X : Cx) (W : WX) (T : List (Addr × Str)) (ω : Om) (H : Hp) (D : Ends) (R : Out → Prop) : Prop where
  nx : ∀ δ' ω' σ' H', R (.nx δ' ω') → Stp T ω ω' H H' → Rl X.K H' σ' δ' ω' → D.nx σ' H'
  rt : ∀ r ω' v H', R (.rt r ω') → Stp T ω ω' H H' → Ro X.K H' ω' → SdV X.K (hid (ads ω') H') r v → D.rt v H'
  ex : ∀ C ω' σ' H', R (.ex C ω') → Stp T ω ω' H H' → Ro X.K H' ω' → W (.ref C) none σ' H'
  bk : ∀ δ' ω' σ' H', R (.bk δ' ω') → Stp T ω ω' H H' → Rl X.K H' σ' δ' ω' → D.bk σ' H'
  ct : ∀ δ' ω' σ' H', R (.ct δ' ω') → Stp T ω ω' H H' → Rl X.K H' σ' δ' ω' → D.ct σ' H'
theorem Kt.step {X : Cx} {W : WX} {T : List (Addr × Str)} {ω ω1 : Om} {H H1 : Hp} {D : Ends} {R : Out → Prop} (k : Kt X W T ω H D R) (s : Stp T ω ω1 H H1) : Kt X W T ω1 H1 D R :=
  ⟨fun δ' ω' σ' H' r q l => k.nx δ' ω' σ' H' r (s.trans q) l, fun r ω' v H' h q l z => k.rt r ω' v H' h (s.trans q) l z, fun C ω' σ' H' h q l => k.ex C ω' σ' H' h (s.trans q) l, fun δ' ω' σ' H' r q l => k.bk δ' ω' σ' H' r (s.trans q) l, fun δ' ω' σ' H' r q l => k.ct δ' ω' σ' H' r (s.trans q) l⟩
def S1 (X : Cx) (W : WX) (T : List (Addr × Str)) (st : Stmt) (δ : De) (ω : Om) (R : Out → Prop) : Prop := ∀ σ H D, Rl X.K H σ δ ω → LamX.Tabs T H → Kt X W T ω H D R → wps X st D σ H
def SD (X : Cx) (W : WX) (T : List (Addr × Str)) (ss : List Stmt) (δ : De) (ω : Om) (R : Out → Prop) : Prop := ∀ σ H D, Rl X.K H σ δ ω → LamX.Tabs T H → Kt X W T ω H D R → wpss X ss D σ H
/-- an expression that may write, or raise -/
def EX (X : Cx) (W : WX) (T : List (Addr × Str)) (e : Expr) (δ : De) (ω : Om) (R : Out → Prop) : Prop := ∀ σ H, Rl X.K H σ δ ω → LamX.Tabs T H → ∀ Q : VK,
  (∀ r ω' v H', R (.rt r ω') → Stp T ω ω' H H' → Rl X.K H' σ δ ω' → SdV X.K (hid (ads ω') H') r v → Q v H') → (∀ C ω' σ' H', R (.ex C ω') → Stp T ω ω' H H' → Ro X.K H' ω' → W (.ref C) none σ' H') → wpe X e σ H Q
/-- then the rest -/
def Nxt (X : Cx) (W : WX) (T : List (Addr × Str)) (ss : List Stmt) (R : Out → Prop) : Out → Prop
  | .nx δ ω => SD X W T ss δ ω R
  | o => R o
/-- the value goes to what follows -/
def Val1 (V : Sd → Om → Prop) (R : Out → Prop) : Out → Prop
  | .rt r ω => V r ω
  | .ex C ω => R (.ex C ω)
  | _ => False
section
variable {X : Cx} {W : WX} {T : List (Addr × Str)} {δ : De} {ω : Om} {a b c e tg iter : Expr} {es r : List Expr} {d da db dc dz : PyData} {ds : List PyData} {pos p : Pos} {k : Nat} {x : Str} {R : Out → Prop} {st : Stmt} {ss sa sb : List Stmt}
theorem sd_nil (h : R (.nx δ ω)) : SD X W T [] δ ω R := fun σ H D rl t k => wss pss_nil (k.nx δ ω σ H h .refl rl)
theorem sd_cons (h : S1 X W T st δ ω (Nxt X W T ss R)) : SD X W T (st :: ss) δ ω R := fun σ H D rl t k =>
  wss (pss_cons ps_w pss_w) (h σ H _ rl t ⟨fun δ' ω' σ' H' z q l => z σ' H' D l (q.tab t) (k.step q), k.rt, k.ex, k.bk, k.ct⟩)
theorem PD.ex (h : PD X δ ω e d) (hR : R (.rt (.im d) ω)) : EX X W T e δ ω R := fun σ H rl t Q q _ => h σ H rl Q fun v H' s dv => q _ ω v H' hR (.of s) (rl.mono s) dv
theorem s1_set (i : Nat) {x : Str} {pos' : Pos} (he : EX X W T e δ ω (Val1 (fun r ω' => R (.nx (δ.set i (some r)) ω')) R)) (hN : X.N.Nodup) (hi : X.N[i]? = some x := by rfl) (hx : Loc X.env.scope x := by first | exact Or.inl rfl | exact Or.inr rfl) (hs : swapsWith e (some (.Name x pos')) pos.line X.env = pure false := by rfl)
    (hf : X.fn x = true ∨ X.env.scope.names.lookup x = some .local := by first | exact .inl rfl | exact .inr rfl | assumption) : S1 X W T (.Assign [.Name x pos'] e pos) δ ω R := fun σ H D rl t k =>
  ws (ps_set hN hi hx pe_w hs hf) (he σ H rl t _ (fun r ω' v H' z q l dv => k.nx _ ω' _ H' z q (l.set dv)) (fun C ω' σ' H' z q l => k.ex C ω' σ' H' z q l))
theorem sd_set (i : Nat) {x : Str} {pos' : Pos} (he : PD X δ ω e d) (hk : SD X W T ss (δ.set i (some (.im d))) ω R) (hN : X.N.Nodup) (hi : X.N[i]? = some x := by rfl) (hx : Loc X.env.scope x := by first | exact Or.inl rfl | exact Or.inr rfl) (hs : swapsWith e (some (.Name x pos')) pos.line X.env = pure false := by rfl)
    (hf : X.fn x = true ∨ X.env.scope.names.lookup x = some .local := by first | exact .inl rfl | exact .inr rfl | assumption) : SD X W T (.Assign [.Name x pos'] e pos :: ss) δ ω R :=
  sd_cons (s1_set i (he.ex (show Val1 _ _ _ from hk)) hN hi hx hs hf)
theorem sd_ret (he : PD X δ ω e d) (hR : R (.rt (.im d) ω)) : SD X W T (.Return (some e) pos :: ss) δ ω R :=
  sd_cons fun σ H D rl t k => ws (ps_ret pe_w) (he σ H rl _ fun v H' s dv => k.rt _ ω v H' hR (.of s) (rl.ro.mono s) dv)
theorem sd_exprX (he : EX X W T e δ ω (Val1 (fun _ ω' => SD X W T ss δ ω' R) R)) (hs : swapsWith e none pos.line X.env = pure false := by rfl) : SD X W T (.Expr e pos :: ss) δ ω R :=
  sd_cons fun σ H D rl t k => ws (ps_expr pe_w hs) (he σ H rl t _ (fun r ω' v H' z q l dv => k.nx δ ω' σ H' z q l) (fun C ω' σ' H' z q l => k.ex C ω' σ' H' z q l))
theorem sd_if {kk : Bool} (h : PTd X δ ω c kk) (h1 : kk = true → SD X W T sa δ ω (Nxt X W T ss R)) (h2 : kk = false → SD X W T sb δ ω (Nxt X W T ss R)) : SD X W T (.If c sa sb pos :: ss) δ ω R :=
  sd_cons fun σ H D rl t k => ws (ps_if pt_w pss_w pss_w) (h σ H rl _ fun H' s => by
    cases kk with
    | true => exact iteT (h1 rfl σ H' D (rl.mono s) (t.ext s) (k.step (.of s)))
    | false => exact iteF (h2 rfl σ H' D (rl.mono s) (t.ext s) (k.step (.of s))))
theorem sd_ifF (h : PTd X δ ω c false) (h2 : SD X W T ss δ ω R) : SD X W T (.If c sa [] pos :: ss) δ ω R := sd_if h (fun z => by cases z) fun _ => sd_nil h2
theorem sd_ifT (h : PTd X δ ω c true) (h1 : SD X W T sa δ ω (Nxt X W T ss R)) : SD X W T (.If c sa sb pos :: ss) δ ω R := sd_if h (fun _ => h1) fun z => by cases z
theorem SD.imp {R' : Out → Prop} (h : SD X W T ss δ ω R') (hi : ∀ o, R' o → R o) : SD X W T ss δ ω R := fun σ H D rl t k =>
  h σ H D rl t ⟨fun δ' ω' σ' H' z => k.nx δ' ω' σ' H' (hi _ z), fun r ω' v H' z => k.rt r ω' v H' (hi _ z), fun C ω' σ' H' z => k.ex C ω' σ' H' (hi _ z), fun δ' ω' σ' H' z => k.bk δ' ω' σ' H' (hi _ z), fun δ' ω' σ' H' z => k.ct δ' ω' σ' H' (hi _ z)⟩
/-- a, b, .. = a tuple -/
def setAll : De → List Nat → List PyData → De
  | δ, i :: is, d :: ds => setAll (δ.set i (some (.im d))) is ds
  | δ, _, _ => δ
def gAll : List Nat → TGs
  | [] => gNil
  | i :: is => gCons (gName i) (gAll is)
theorem gAll_ok {K : PySem.W.Frag} {H : Hp} {ω : Om} {Q : L2.St → Hp → Prop} : ∀ {is : List Nat} {ds : List PyData} {vs : List V} {σ : L2.St} {δ : De}, Rl K H σ δ ω → DpAll K (hid (ads ω) H) vs ds → is.length = ds.length → (∀ σ', Rl K H σ' (setAll δ is ds) ω → Q σ' H) → gAll is vs σ H Q
  | [], [], _, σ, δ, rl, .nil, _, k => ⟨rfl, k σ rl⟩
  | i :: is, d :: ds, v :: vs, σ, δ, rl, .cons h1 h2, hl, k => ⟨v, vs, rfl, gAll_ok (rl.set (x := .im d) h1) h2 (Nat.succ.inj hl) k⟩
theorem sd_unp (is : List Nat) {ts : List Expr} {n kk : Nat} {p' : Pos} (he : PD X δ ω e (.tuple ds)) (hg : PG X (.Tuple ts kk p') (gTup X.K n (gAll is))) (hn : ds.length = n) (hi : is.length = n) (hk : SD X W T ss (setAll δ is ds) ω R)
    (hs : swapsWithSole [.Tuple ts kk p'] e pos.line X.env = pure false := by rfl) (hw : swappedStores [.Tuple ts kk p'] e X.env = pure none := by rfl) : SD X W T (.Assign [.Tuple ts kk p'] e pos :: ss) δ ω R :=
  sd_cons fun σ H D rl t k => ws (ps_asg pe_w hg hs hw) (he σ H rl _ fun v H' s dv => by
    cases dv with
    | tup h1 h2 => exact ⟨_, _, rfl, same_sqt hid_sub h1, by rw [dpa_len h2]; exact hn, gAll_ok (rl.mono s) h2 (hi.trans hn.symm) fun σ' l => k.nx _ ω σ' H' hk (.of s) l⟩)
/-- what follows a turn -/
def Turn1 (inv : Nat → De → Om → Prop) (i : Nat) (B R : Out → Prop) : Out → Prop
  | .nx δ ω => inv (i + 1) δ ω
  | .ct δ ω => inv (i + 1) δ ω
  | .bk δ ω => B (.nx δ ω)
  | o => R o
def startD (N : List Str) (ds : List PyData) : De := ds.map (fun d => some (.im d)) ++ List.replicate (N.length - ds.length) none
theorem start_rl {K : PySem.W.Frag} {H : Hp} {ps : List Addr} {N : List Str} {vs : List V} (h : DpAll K (hid ps H) vs ds) (hp : ∀ a ∈ ps, H a ≠ none) : Rl K H (L2.start N vs) (startD N ds) ⟨ps, []⟩ := by
  have hl := dpa_len h
  refine ⟨?_, fun i r hi => ?_, Ro.nil hp⟩
  · unfold L2.start startD
    rw [List.length_append, List.length_append, List.length_map, List.length_map, List.length_replicate, List.length_replicate, hl]
  · rw [ads_nil]
    unfold startD at hi
    by_cases hlt : i < ds.length
    · rw [List.getElem?_append_left (by rw [List.length_map]; exact hlt), List.getElem?_map, List.getElem?_eq_getElem hlt] at hi
      cases hi
      obtain ⟨v, h1, h2⟩ := dpa_get h (List.getElem?_eq_getElem hlt)
      refine ⟨v, ?_, h2⟩
      unfold L2.start
      rw [List.getElem?_append_left (by rw [List.length_map, hl]; exact hlt), List.getElem?_map, h1]
      rfl
    · rw [List.getElem?_append_right (by rw [List.length_map]; omega)] at hi
      have := List.getElem?_eq_some_iff.mp hi
      obtain ⟨h1, h2⟩ := this
      rw [List.getElem_replicate] at h2
      cases h2
def Fin (r : Rs) : Out → Prop
  | .rt (.im d) _ => r = .ok d
  | .nx _ _ => r = .ok .none
  | .ex C _ => r = .er C
  | _ => False
abbrev WOf (E : XK) : WX := fun cls d _ H => E cls d H
theorem def_ok {P : Program} {w : World} {K : PySem.W.Frag} {mg : Str → Option Value} {base : Heap} {x qual : Str} {params : Arguments} {body : List Stmt} {scope : Scope} {kws : List (Str × V)} {f : Addr} {fd : FuncData} {N ps : List Str} {k : Nat} {fr : List PyData → Rs → Prop}
    (F : FunD K x qual params body scope [] kws f fd) (hm : mg x = some (.ref f)) (S : FnScope N ps scope) (hb : ∀ (kV doc pm : Value) (an : Option Addr) (cdv ct : Value) (us : List Value), us.length = ps.length → bindArgs (PySem.W.fnOf x qual params body scope .none kV doc pm an cdv ct) ⟨us, []⟩ = pure (ps.zip us))
    (len : ∀ ds r, fr ds r → ds.length = ps.length)
    (hbody : ∀ (cdv : Value) (A : Around) (outer : List Env) (s : Shared) (H : Hp) (E : XK) (qs : List Addr) (ds : List PyData) (r : Rs), Room k (A.deeper (envOfC qual scope s.heap.objs.size f cdv)) → fr ds r →
      SD (cxOf (L2N.CX P w) P w K mg base N qual scope f cdv A outer s H E) (WOf E) [] body (startD N ds) ⟨qs, []⟩ (Fin r)) : DefOk P w K mg base (k + 1) x fr := by
  refine ⟨f, fd, ps, F.ok S (fun vs H Q E h => ?_) (fun cdv A outer s H vs Q E hr h => ?_), hm, F.kp, F.bindsN hb⟩
  · obtain ⟨qs, ds, r, _, h2, h3, _⟩ := h
    rw [dpa_len h2]
    exact len ds r h3
  · obtain ⟨qs, ds, r, h1, h2, h3, h4⟩ := h
    refine ⟨_, pss_w, hbody cdv A outer s H E qs ds r hr h3 _ _ _ (start_rl h2 h1) (fun _ z => nomatch z) ?_⟩
    have same : ∀ {ω' : Om} {H' : Hp}, Stp [] ⟨qs, []⟩ ω' H H' → Same H H' := fun st b o e => st.keep b o e (fun z => nomatch z) (.inl rfl)
    refine ⟨fun δ' ω' σ' H' z st l => ?_, fun r' ω' v H' z st l dv => ?_, fun C ω' σ' H' z st l => ?_, fun _ _ _ _ z => False.elim z, fun _ _ _ _ z => False.elim z⟩
    · have z : r = .ok .none := z
      subst z
      exact h4 .non H' (same st) .non
    · cases r' with
      | im d =>
        have z : r = .ok d := z
        subst z
        exact h4 v H' (same st) (dpm (hid_more fun b hb => List.mem_append_left _ (by rw [st.ps]; exact hb)) dv)
      | ad a => exact False.elim z
    · have z : r = .er C := z
      subst z
      exact h4 H' (same st)
end
end FP

namespace FP
open PySem PySem.Spec PyProof.Rows L2
section
variable {X : Cx}
end
/-- a list that stands by itself -/
def PLt (X : Cx) (δ : De) (ω : Om) (e : Expr) (ds : List PyData) : Prop :=
  ∀ σ H, Rl X.K H σ δ ω → ∀ Q : VK, (∀ p vs H', Same H H' → H' p = some (.lst vs) → DpAll X.K (hid (ads ω) H') vs ds → Q (.ref p) H') → wpe X e σ H Q
section
variable {X : Cx} {δ : De} {ω : Om} {a b c e : Expr} {es : List Expr} {d da db dc dz : PyData} {ds dt : List PyData} {pos p : Pos}
theorem PLt.pl (h : PLt X δ ω e ds) : PL X δ ω e ds := fun σ H r Q k => h σ H r Q fun p vs H' s h1 h2 => k p vs H' s (SqL.of h1) h2
theorem pd_catS {y z : Str} (ha : PD X δ ω a (.str y)) (hb : PD X δ ω b (.str z)) (hz : y.length + z.length ≤ 100000) : PD X δ ω (.BinOp a .Add b pos) (.str (y ++ z)) := pd_op op_add_str (fun ps x w H t hx hy Q q => by
  cases hx
  cases hy
  exact ⟨y, z, rfl, rfl, Nat.le_trans hz (by rw [sizeLine_eq]; decide), q _ H (Same.refl H) (.str _)⟩) ha hb
/-- a part of a slice -/
def PO1 (X : Cx) (δ : De) (ω : Om) : Option Expr → Option Int → Prop
  | none, o => o = none
  | some e, o => ∃ i, o = some i ∧ PD X δ ω e (.int i)
def wpo (X : Cx) : Option Expr → TO
  | none => tNoPart
  | some e => tPart (wpe X e)
theorem po_w {o : Option Expr} : PO X o (wpo X o) := by
  cases o with
  | none => exact po_none
  | some e => exact po_some pe_w
theorem po_run {o : Option Expr} {i : Option Int} (h : PO1 X δ ω o i) : ∀ σ H, Rl X.K H σ δ ω → ∀ Q : Option Int → Hp → Prop, (∀ H', Same H H' → Q i H') → wpo X o σ H Q := fun σ H rl Q k => by
  cases o with
  | none =>
    have e : i = none := h
    subst e
    exact k H (Same.refl H)
  | some e =>
    obtain ⟨j, e1, h1⟩ := h
    subst e1
    exact h1 σ H rl _ fun v H1 s1 d1 => by
      cases d1
      exact ⟨j, rfl, k H1 s1⟩
theorem dpa_strs {K : PySem.W.Frag} {H : Hp} : ∀ {ys : List Str} {vs : List V}, DpAll K H vs (ys.map .str) → vs = ys.map V.str
  | [], _, h => by
    cases h
    rfl
  | b :: bs, _, h => by
    cases h with
    | cons x y =>
      cases x
      rw [List.map_cons, dpa_strs y]
theorem pd_join {z : Str} {ys : List Str} {apos : Pos} (ha : PD X δ ω a (.str z)) (hb : PL X δ ω b (ys.map .str)) (hz : (ys.map (·.length)).sum + ys.length * z.length ≤ 16777216) (hs : starEach [b] X.env = [(false, eval b X.env)] := by rfl)
    (hbase : attributeBase a "join" X.env (eval a X.env) = eval a X.env := by rfl) (hline : (apos.endLine == pos.line) = true := by rfl) : PD X δ ω (.Call (.Attribute a "join" apos) [b] [] pos) (.str (Txt.join z ys)) := fun σ H rl Q k =>
  we (pe_join pe_w pe_w hs hbase hline) (ha σ H rl _ fun v H1 s1 d1 => by
    cases d1
    refine ⟨⟨_, rfl⟩, hb σ H1 (rl.mono s1) _ fun l vs H2 s2 h2 d2 => ?_⟩
    have e := dpa_strs d2
    subst e
    exact ⟨z, l, ys, rfl, rfl, .inl h2, hz, k _ H2 (s1.trans s2) (.str _)⟩)
end
end FP

namespace FP
open PySem PySem.Spec PyProof.Rows L2
def spL (K : PySem.W.Frag) (T : List (Addr × Str)) : Sp := fun vs H Q _ => ∃ (a : Addr) (ns : List Int), vs = [.ref a] ∧ SqL K H a (ns.map V.int) ∧ ns.length ≤ 63 ∧ (∀ z ∈ ns, Builtin.Int.intBits z ≤ 1048576) ∧ LamX.Tabs T H ∧ ∀ H', Q (.bl true) H'
theorem dpa_ints {K : PySem.W.Frag} {H : Hp} : ∀ ns : List Int, DpAll K H (ns.map V.int) (ns.map .int)
  | [] => .nil
  | n :: ns => .cons (.int n) (dpa_ints ns)
def FinT : Out → Prop
  | .rt (.im d) _ => d = .bool true
  | _ => False
/-- what the told rule asks of the maker's def -/
structure LamT (X : Cx) (T : List (Addr × Str)) : Prop where
  ex : ∃ c P, LamX.TabB X.base X.mg c P ∧ X.env.code = .ref c ∧ (P, X.env.qual ++ "<lambda>") ∈ T ∧ ∀ p ∈ T, p.1 = P → p.2 = X.env.qual ++ "<lambda>"
/-- the def that calls what it gets -/
structure Told (K : PySem.W.Frag) (mg : Str → Option Value) (x : Str) (st : Stmt) : Prop where
  ex : ∃ g fd, FunD K x x (defArgs st) (defBody st) (defScope st) [] [] g fd ∧ mg x = some (.ref g)
theorem rl_ext {K : PySem.W.Frag} {T : List (Addr × Str)} {H H' : Hp} {σ : L2.St} {δ : De} {ω : Om} (e : LamX.ExtN H H') (hps : ω.ps = []) (rl : Rl K H σ δ ω) : Rl K H' σ δ ω := by
  have hh : LamX.ExtN (hid (ads ω) H) (hid (ads ω) H') := fun b o z n => hid_of (hid_out z).1 (e b o (hid_out z).2 n)
  have hk : Ke [(0, Str.ofString "")] (hid (ads ω) H) (hid (ads ω) H') := fun b o z p => hh b o z (p.resolve_left (by simp))
  have hsd : ∀ {r : Sd} {v : V}, SdV K (hid (ads ω) H) r v → SdV K (hid (ads ω) H') r v := fun {r v} z => by
    cases r with
    | im d => exact dp_ke hk d v z
    | ad a => exact z
  refine ⟨rl.len, fun i r h => ?_, fun a o h => ?_, rl.ro.nd, fun a h => ?_⟩
  · obtain ⟨v, h1, h2⟩ := rl.sl i r h
    exact ⟨v, h1, hsd h2⟩
  · have g := rl.ro.ob a o h
    exact odv_keep (fun w => hsd w) (fun u nt g1 => e a _ g1 nt) g
  · rw [hps] at h
    cases h
section
variable {X : Cx} {W : WX} {T : List (Addr × Str)} {δ : De} {ω : Om} {d : PyData} {pos p : Pos} {k : Nat} {R : Out → Prop}
end
end FP

namespace FP
open PySem PySem.Spec PyProof.Rows L2
structure ExcF (K : PySem.W.Frag) (mg : Str → Option Value) (x : Str) (C : Addr) : Prop where
  xP : PySem.W.excIn K C He.veBase "ValueError.__new__" = true
  gP : mg x = some (.ref C)
  kP : PySem.W.keepIn K (.ref C) = true
  bP : PySem.W.subIn K (.ref C) (.type "BaseException") = some true
  tP : PySem.W.typeIn K (.ref C) = some (.type "type")
section
variable {X : Cx} {W : WX} {T : List (Addr × Str)} {δ : De} {ω : Om} {pos p : Pos} {R : Out → Prop} {ss : List Stmt}
theorem sd_raise {x m : Str} {C : Addr} {j : Nat} {p2 pos2 : Pos} (F : ExcF X.K X.mg x C) (tk : L2N.Takes X W) (hR : R (.ex C ω)) (hc : X.calm = true) (hg : Gl X x := by rfl) (hdb : (x == ("__debug__" : Str)) = false := by decide) :
    SD X W T (.Raise (some (.Call (.Name x p) [.Constant (.str m) j p2] [] pos)) none pos2 :: ss) δ ω R :=
  sd_cons fun σ H D rl t k => ws (L2N.ps_raise hc tk (L2N.pmk_own PySem.F.excBase_ValueError F.xP F.gP F.kP (raises_own F.bP F.tP) hg hdb)) (k.ex C ω σ H hR .refl rl.ro)
end
end FP

namespace FP
open PySem PySem.Spec PyProof.Rows L2
def Shp (n : Nat) (d : PyData) : Prop := d.canLay0 = true ∧ d.depth ≤ n
theorem shp_all {n : Nat} : ∀ {ds : List PyData}, (∀ x ∈ ds, Shp n x) → PyData.canLayAll0 ds = true ∧ PyData.depthAll ds ≤ n
  | [], _ => ⟨rfl, Nat.zero_le _⟩
  | x :: xs, h => by
    obtain ⟨a, b⟩ := shp_all (ds := xs) fun y hy => h y (List.mem_cons_of_mem _ hy)
    obtain ⟨c, d⟩ := h x List.mem_cons_self
    constructor
    · show (x.canLay0 && PyData.canLayAll0 xs) = true
      rw [c, a]
      rfl
    · show max x.depth (PyData.depthAll xs) ≤ n
      omega
theorem Shp.tup {n : Nat} {ds : List PyData} (h : ∀ x ∈ ds, Shp n x) : Shp (n + 1) (.tuple ds) := ⟨(shp_all h).1, by
  show PyData.depthAll ds + 1 ≤ n + 1
  have := (shp_all h).2
  omega⟩
theorem Shp.lst {n : Nat} {ds : List PyData} (h : ∀ x ∈ ds, Shp n x) : Shp (n + 1) (.list ds) := ⟨(shp_all h).1, by
  show PyData.depthAll ds + 1 ≤ n + 1
  have := (shp_all h).2
  omega⟩
theorem Shp.int {n : Nat} (i : Int) : Shp n (.int i) := ⟨rfl, Nat.zero_le _⟩
theorem Shp.non {n : Nat} : Shp n .none := ⟨rfl, Nat.zero_le _⟩
theorem Shp.bl {n : Nat} (b : Bool) : Shp n (.bool b) := ⟨rfl, Nat.zero_le _⟩
theorem Shp.str {n : Nat} {z : Str} (h : PyData.strOk z = true) : Shp n (.str z) := ⟨h, Nat.zero_le _⟩
theorem Shp.ok {n : Nat} {d : PyData} (h : Shp n d) (hn : n ≤ 64 := by decide) : SeqAt.shaped d = true := by
  unfold SeqAt.shaped
  rw [h.1, decide_eq_true (Nat.le_trans h.2 hn)]
  rfl
theorem Shp.refl {n : Nat} {d : PyData} (h : Shp n d) : PyData.eqv d d = true := SeqAt.eqv_refl d h.1
end FP

namespace FP
open PySem PySem.Spec PyProof.Rows L2
section
variable {X : Cx} {W : WX} {T : List (Addr × Str)} {δ : De} {ω : Om} {a b c e : Expr} {es r : List Expr} {d da db dz : PyData} {ds : List PyData} {pos p : Pos} {k x y : Bool} {R : Out → Prop} {ss sa sb : List Stmt}
end
section
variable {X : Cx} {T : List (Addr × Str)} {δ : De} {ω : Om} {d : PyData} {pos p : Pos} {k : Nat}
end
end FP

namespace FP
open PySem PySem.Spec PyProof.Rows L2
theorem cx_none {P : Program} {w : World} {H : Hp} {s : Shared} {e : Value} {s' : Shared} (h : L2N.CX P w [] H s (fun _ _ _ => False) e s') : False := by
  obtain ⟨_, _, _, _, _, _, _, _, _, _, _, _, z⟩ := h
  exact z.elim
theorem exc_of {K : PySem.W.Frag} {mg : Str → Option Value} {h : Heap} (KX : K.In h) (G : h.Ns mainGlobals mg) {x : Str} (c1 : (He.Fa.glo x).ok K = true) (c2 : (He.Fa.exc x).ok K = true) : ExcF K mg x (He.ga K x) := by
  obtain ⟨a, b, c, d⟩ := He.exc_ok c2
  exact ⟨a, He.glo_ok KX G c1, b, c, d⟩
theorem gld_int {K : PySem.W.Frag} {mg : Str → Option Value} {h : Heap} (KX : K.In h) (G : h.Ns mainGlobals mg) {x : Str} {i : Int} (c : (He.Fa.int x i).ok K = true) : GlD K mg x (.int i) := by
  obtain ⟨t, e⟩ := He.int_ok KX G c
  exact ⟨.int i, _, e, ⟨t, rfl⟩, fun _ => .int i⟩
end FP

namespace FP
open PySem PySem.Spec PyProof.Rows L2 HotX L2H
section
variable {prog : Program} {w : World} {A : Around} {E : Value → Shared → Prop} {s : Shared}
end
end FP

namespace FP
open PySem PySem.Spec PyProof.Rows L2 HotX L2H
theorem preSum_take {f : Nat → Int} {ns : List Int} (h : ∀ i, i < ns.length → f i = ns.getD i 0) : ∀ j, j ≤ ns.length → preSum f j = (ns.take j).sum
  | 0, _ => by simp [preSum]
  | j + 1, hj => by
    have e : ns.take (j + 1) = ns.take j ++ [ns.getD j 0] := by
      rw [List.take_add_one]
      simp [List.getElem?_eq_getElem (show j < ns.length by omega)]
    rw [preSum, preSum_take h j (by omega), h j (by omega), e, List.sum_append]
    simp
end FP

namespace FP
open PySem PySem.Spec PyProof.Rows L2 HotX L2H
/-- [elt for name in a list], while an exception is handled; what comes out lies on no heap -/
def tLh (K : PySem.W.Frag) (j : Nat) (tl te : TE) : TE := fun σ H Q => tl σ H fun v G => ∃ (a : Addr) (xs ys : List V), v = .ref a ∧ SqL K G a xs ∧ ys.length = xs.length ∧ xs.length ≤ 1000 ∧
  (∀ (i : Nat) (x y : V), xs[i]? = some x → ys[i]? = some y → ∀ G1, Same G G1 → ∀ R : VK, (∀ G2, Same G1 G2 → R y G2) → te (σ.set j (some x)) G1 R) ∧
  ∀ D G1, G D = none → Same G G1 → G1 D = some (.lst ys) → Q (.ref D) G1
section
variable {X : Cx}
end
end FP

namespace FP
open PySem PySem.Spec PyProof.Rows L2 HotX L2H
theorem call_isP {X : Cx} {q : Addr × Obj} {D : Addr} (hq : q ∈ X.pn) (C : ExcC X.K D) (z1 : q.2.cls = .ref D) (z2 : q.2.dict = none) (hf : ∃ vs, q.2.data = .fields vs) : CallR X (.builtin "isinstance") (rIsE X.K D q.1) := by
  intro pins s σ H xs us Q I r h
  obtain ⟨c, cv, b, rfl, hcv, e, k⟩ := h
  cases r with
  | cons r1 r2 =>
    cases r2 with
    | cons r3 r4 =>
      cases r4
      cases r1
      have e3 := hcv _ r3
      subst e3
      have got := (I.pin q (List.mem_append_left _ hq)).1
      obtain ⟨vs, hv⟩ := hf
      have J : PySem.W.InstAt s.heap q.1 q.2 D none := by
        obtain ⟨qa, oc, od, oda, osl⟩ := q
        dsimp only at z1 z2 hv got ⊢
        subst z1 z2 hv
        exact ⟨got, rfl, rfl, trivial⟩
      exact PySem.W.kia_one (PySem.W.handS_kitx_exc C.hg C.hk C.hs C.hd C.ha C.hn C.ht C.hm) I.kIn J e (fun z => nomatch z) fun t => ⟨.bl b, H, I.kept (t' := t) fun _ _ z => z, rfl, k⟩
/-- what the head says of a class whose instances are asked -/
def excB (K : PySem.W.Frag) (D : Addr) : Bool :=
  He.eqO (PySem.W.findIn K (.ref D) "__getattribute__") (some (some (.builtin "BaseException.__getattribute__"))) && (He.eqO (PySem.W.findIn K (.ref D) "__getattr__") (some none) && (decide (PySem.W.subIn K (.ref D) (.type "BaseException") = some true) && (PySem.W.hasDictIn K D &&
  (He.eqO (PySem.W.findIn K (.ref D) "__class__") (some (some (.builtin "object.__class__"))) && (He.eqO (PySem.W.specialIn K (.builtin "object.__class__") "__get__") (some (some (.builtin "getset_descriptor.__get__"))) && (decide (PySem.W.takesIn K (.builtin "object.__class__") = some true) && decide (PySem.W.mroIn K D (.type "object") = some true)))))))
theorem excB_ok {K : PySem.W.Frag} {D : Addr} (h : excB K D = true) : ExcC K D := by
  obtain ⟨h1, h⟩ := He.ba h
  obtain ⟨h2, h⟩ := He.ba h
  obtain ⟨h3, h⟩ := He.ba h
  obtain ⟨h4, h⟩ := He.ba h
  obtain ⟨h5, h⟩ := He.ba h
  obtain ⟨h6, h⟩ := He.ba h
  obtain ⟨h7, h⟩ := He.ba h
  exact ⟨He.eqO_ok h1, He.eqO_ok h2, of_decide_eq_true h3, h4, He.eqO_ok h5, He.eqO_ok h6, of_decide_eq_true h7, of_decide_eq_true h⟩
/-- what a word about exceptions of class D finds: the classes asked, the answers -/
def wordB (K : PySem.W.Frag) (D : Str) (cs : List (Str × Bool)) : Bool :=
  excB K (He.ga K D) && (cs.all (fun c => decide (PySem.W.kitOne K (.ref (He.ga K D)) (.ref (He.ga K c.1)) = some c.2)) && decide (PySem.W.kitOne K (.ref (He.ga K D)) (.type "ValueError") = some true))
theorem wordB_ok {K : PySem.W.Frag} {D : Str} {cs : List (Str × Bool)} (h : wordB K D cs = true) : ExcC K (He.ga K D) ∧ (∀ c ∈ cs, PySem.W.kitOne K (.ref (He.ga K D)) (.ref (He.ga K c.1)) = some c.2) ∧ PySem.W.kitOne K (.ref (He.ga K D)) (.type "ValueError") = some true := by
  obtain ⟨h1, h⟩ := He.ba h
  obtain ⟨h2, h3⟩ := He.ba h
  exact ⟨excB_ok h1, fun c hc => of_decide_eq_true (List.all_eq_true.mp h2 c hc), of_decide_eq_true h3⟩
/-- the pinned exception of class D -/
structure Pin (X : Cx) (q : Addr × Obj) (D : Addr) : Prop where
  m : q ∈ X.pn
  C : ExcC X.K D
  z1 : q.2.cls = .ref D
  z2 : q.2.dict = none
  hf : ∃ vs, q.2.data = .fields vs
section
variable {X : Cx} {δ : De} {ω : Om} {a b c e : Expr} {es : List Expr} {d : PyData} {ds : List PyData} {pos p p1 p2 : Pos} {q : Addr × Obj} {D : Addr} {k : Bool}
theorem pd_isP (i : Nat) {y x : Str} {cv : V} {u : Value} (Z : Pin X q D) (hn : PE X (.Name x p2) (tC cv)) (hu : ∀ v, RelV cv v → v = u) (hk : PySem.W.kitOne X.K (.ref D) u = some k) (hm : X.mg "isinstance" = none) (hd : δ[i]? = some (some (.ad q.1)) := by rfl) (hN : X.N[i]? = some y := by rfl)
    (hv : Vis X.env.scope y := by first | exact Or.inl rfl | exact Or.inr (Or.inl rfl) | exact Or.inr (Or.inr rfl)) (h1 : (y == ("__debug__" : Str)) = false := by decide) (h2 : (y == ("__classdict__" : Str)) = false := by decide) (hg : Gl X "isinstance" := by rfl)
    (he : starEach [.Name y p1, .Name x p2] X.env = (false, eval (.Name y p1) X.env) :: starEach [.Name x p2] X.env := by rfl) (he2 : starEach [.Name x p2] X.env = (false, eval (.Name x p2) X.env) :: starEach [] X.env := by rfl) (hpl : (backTo pos (starEach [.Name x p2] X.env)).any (·.1) = false := by rfl) :
    PD X δ ω (.Call (.Name "isinstance" p) [.Name y p1, .Name x p2] [] pos) (.bool k) := fun σ H rl Q r => by
  obtain ⟨v, e1, e2⟩ := rl.sl i _ hd
  have e2 : v = .ref q.1 := e2
  subst e2
  exact we (pe_callB (call_isP Z.m Z.C Z.z1 Z.z2 Z.hf) hg hm (by decide +kernel) (pa_cons (pe_var hN hv h1 h2) (pa_cons hn pa_nil he2) he) (he := he) (hpl := hpl)) ⟨_, e1, cv, u, k, rfl, hu, hk, r _ H (Same.refl H) (.bl _)⟩
theorem pd_intB (hm : X.mg "int" = none) (ha : PD X δ ω a (.bool k)) (hg : Gl X "int" := by rfl) (he : starEach [a] X.env = (false, eval a X.env) :: starEach [] X.env := by rfl) : PD X δ ω (.Call (.Name "int" p) [a] [] pos) (.int (if k then 1 else 0)) :=
  pd_callTy call_int1 (fun ps vs H _ h Q r => by
    cases h with
    | cons h1 h2 =>
      cases h2
      cases h1
      exact .inr ⟨k, rfl, r _ H (Same.refl H) (.int _)⟩) hm (by decide +kernel) (pds_cons ha pds_nil he) hg (by decide) (by decide) he (by rfl)
/-- l.index(True) of a list of truths -/
theorem pd_idxT {l : Expr} {apos : Pos} {bs : List Bool} {j m : Nat} (hl : PL X δ ω l (bs.map .bool)) (hj : bs[j]? = some true) (hn : ∀ i, i < j → bs[i]? = some false)
    (hbase : attributeBase l "index" X.env (eval l X.env) = eval l X.env := by rfl)
    (hfew : ((backTo pos (starEach [.Constant (.bool true) m p1] X.env)).all (fun x => !x.1) && (backToKw pos (keywordEach [] X.env)).all (fun x => x.1.isSome)
      && decide (([.Constant (.bool true) m p1] : List Expr).length + ([] : List Keyword).length + (if ([] : List Keyword).isEmpty then 0 else 1) < 30)) = true := by rfl)
    (hline : (apos.endLine == pos.line) = true := by rfl) (hs : starEach [.Constant (.bool true) m p1] X.env = (false, eval (.Constant (.bool true) m p1) X.env) :: starEach [] X.env := by rfl) :
    PD X δ ω (.Call (.Attribute l "index" apos) [.Constant (.bool true) m p1] [] pos) (.int (j : Nat)) := fun σ H rl Q r =>
  we (pe_bm PySem.F.plainAttrs_list PySem.F.slot_list_index (by first | rfl | kernel_rfl | decide +kernel) mt_index pe_w (pa_cons pe_bl pa_nil hs) hbase hfew hline hs) (hl σ H rl _ fun a vs G s1 h1 h2 => by
    have ev : vs = bs.map V.bl := dpa_bl h2
    subst ev
    refine ⟨.inl ⟨rfl, _, h1⟩, a, _, _, j, .bl true, rfl, rfl, h1, rfl, ?_, ?_, rfl, fun m z lt e => ?_, r _ G s1 (.int _)⟩
    · rw [List.all_map]
      exact List.all_eq_true.mpr fun _ _ => rfl
    · rw [List.getElem?_map, hj]
      rfl
    · rw [List.getElem?_map, hn m lt] at e
      cases e
      rfl)
end
end FP

namespace FP
open PySem PySem.Spec PyProof.Rows L2 HotX L2H
structure WordOk (P : Program) (w : World) (K : PySem.W.Frag) (mg : Str → Option Value) (base : Heap) (k : Nat) (wd : Str) (fw : Addr → PyData → Prop) : Prop where
  ex : ∃ g, mg wd = some (.ref g) ∧ PySem.W.keepIn K (.ref g) = true ∧ ∀ (A : Around) (outer : List Env) (s : Shared) (H : Hp) (q : Addr × Obj) (C : Addr) (d : PyData) (ps : List Addr) (Q : VK), fw C d → RoomH k A → Hot1 A q → PinOk outer H s q → q.2.cls = .ref C → q.2.dict = none →
    Env0 P w K mg base A outer s H → (∀ a ∈ ps, H a ≠ none) → (∀ v H', Same H H' → Dp K (hid ps H') v d → Q v H') → codeAny (model P w) A (.call (.ref g) ⟨[.ref q.1], []⟩) (CR C8.CX0 outer P w H s Q C8.E0) s
theorem start1 {K : PySem.W.Frag} {H : Hp} {ps : List Addr} {N : List Str} {a : Addr} {n : Nat} (hn : N.length = n + 1) (hp : ∀ a ∈ ps, H a ≠ none) : Rl K H (L2.start N [.ref a]) (some (.ad a) :: List.replicate n none) ⟨ps, []⟩ := by
  refine ⟨?_, fun i r h => ?_, Ro.nil hp⟩
  · unfold L2.start
    simp [hn]
  · cases i with
    | zero =>
      cases h
      exact ⟨.ref a, rfl, rfl⟩
    | succ i =>
      rw [List.getElem?_cons_succ, List.getElem?_replicate] at h
      split at h
      · cases h
      · cases h
/-- such a def, by its body -/
theorem word_ok {P : Program} {w : World} {K : PySem.W.Frag} {mg : Str → Option Value} {base : Heap} {x : Str} {params : Arguments} {body : List Stmt} {scope : Scope} {kws : List (Str × V)} {f : Addr} {fd : FuncData} {N : List Str} {y : Str} {k n : Nat} {fw : Addr → PyData → Prop}
    (F : FunD K x x params body scope [] kws f fd) (hm : mg x = some (.ref f)) (S : FnScope N [y] scope) (hn : N.length = n + 1)
    (hb : ∀ (kV doc pm : Value) (an : Option Addr) (cdv ct : Value) (us : List Value), us.length = [y].length → bindArgs (PySem.W.fnOf x x params body scope .none kV doc pm an cdv ct) ⟨us, []⟩ = pure ([y].zip us))
    (hbody : ∀ (cdv : Value) (A : Around) (outer : List Env) (s : Shared) (H : Hp) (q : Addr × Obj) (C : Addr) (d : PyData) (ps : List Addr), fw C d → Hot1 A q → q.2.cls = .ref C → q.2.dict = none → RoomH k (A.deeper (envOfC x scope s.heap.objs.size f cdv)) →
      SD (cxH C8.CX0 P w K mg base N x scope f cdv A outer s H C8.E0 q) (fun _ _ _ _ => False) [] body (some (.ad q.1) :: List.replicate n none) ⟨ps, []⟩ (Fin (.ok d))) : WordOk P w K mg base (k + 1) x fw := by
  have hbs := FunD.bindsN (ps := [y]) F hb
  have kp := F.kp
  obtain ⟨oc, od, dV, kV, doc, pm, an, cdv, ct, osl, rfl, lk, hcd, hD, hK⟩ := F.ex
  refine ⟨f, hm, kp, fun A outer s H q C d ps Q hf hr hot pin c1 c2 e0 hp hQ => ?_⟩
  have old : ∀ b o, base.get? b = some o → s.heap.get? b = some o := fun b o e => (e0.bs b o e).1
  have inK : K.In s.heap := e0.mod.kin.keeps old
  have bnd := hbs s [.ref q.1] inK rfl
  refine codeAny_call_function hr.depth (inK _ _ lk) rfl S.co S.gen rfl (PySem.W.codeRec_of inK hcd) (bnd _ _ _ _ (wpAny_newFunctionEnv_cells S.kind (fun z hz => ?_) fun env he s1 x1 => ?_))
  · rcases S.par z.1 (List.of_mem_zip hz).1 with t | t
    · exact .inl t
    · exact .inr ⟨t, PySem.W.cellsFrom_some _ _ _ (.inl t)⟩
  subst he
  refine ⟨(e0.mod.nolimit.keeps old).keeps x1.toInCall.keep, codeAny_func ?_⟩
  have I : Inv (cxH C8.CX0 P w K mg base N x scope f cdv A outer s H C8.E0 q) [] (L2.start N [.ref q.1]) H s1 := inv_startH (us := [.ref q.1]) S pin e0 rfl (.cons rfl .nil) x1
  have go := hbody cdv A outer s H q C d ps hf hot c1 c2 (hr.deeper _) (L2.start N [.ref q.1]) H { nx := fun _ H' => Q .non H', rt := Q } (start1 hn hp) (fun _ z => nomatch z) ?_
  · refine wpAny_mono (pss_w.run [] s1 _ H _ I go) (fun fl s2 hs => ?_) fun _ _ z => z
    cases fl with
    | ret u =>
      obtain ⟨v, σ', H', J, rv, z⟩ := hs
      exact ⟨v, H', J.os, J.bare, J.base, J.hok, rv, z⟩
    | next =>
      obtain ⟨σ', H', J, z⟩ := hs
      exact ⟨.non, H', J.os, J.bare, J.base, J.hok, rfl, z⟩
    | brk =>
      obtain ⟨_, _, _, z⟩ := hs
      exact z.elim
    | cont =>
      obtain ⟨_, _, _, z⟩ := hs
      exact z.elim
  · have same : ∀ {ω' : Om} {H' : Hp}, Stp [] ⟨ps, []⟩ ω' H H' → Same H H' := fun st b o e => st.keep b o e (fun z => nomatch z) (.inl rfl)
    refine ⟨fun δ' ω' σ' H' z st l => ?_, fun r' ω' v H' z st l dv => ?_, fun _ _ _ _ z => (nomatch z), fun _ _ _ _ z => False.elim z, fun _ _ _ _ z => False.elim z⟩
    · cases z
      exact hQ .non H' (same st) .non
    · cases r' with
      | im d' =>
        cases z
        exact hQ v H' (same st) (dpm (hid_more fun b hb => List.mem_append_left _ (by rw [st.ps]; exact hb)) dv)
      | ad a => exact False.elim z
/-- the word is called, in the suite -/
theorem pe_word {X : Cx} {q : Addr × Obj} {k i : Nat} {wd n : Str} {fw : Addr → PyData → Prop} {C : Addr} {d : PyData} {p5 p6 p7 : Pos} (G : WordOk X.prog X.w X.K X.mg X.base k wd fw) (hr : RoomH k X.A) (hot : Hot1 X.A q) (hq : q ∈ X.pn) (c1 : q.2.cls = .ref C) (c2 : q.2.dict = none) (hf : fw C d)
    (hg : Gl X wd) (hN : X.N[i]? = some n) (hv : Vis X.env.scope n) (hdb : (wd == ("__debug__" : Str)) = false := by decide) (h1 : (n == ("__debug__" : Str)) = false := by decide) (h2 : (n == ("__classdict__" : Str)) = false := by decide)
    (he : starEach [.Name n p6] X.env = (false, eval (.Name n p6) X.env) :: starEach [] X.env := by rfl) :
    PE X (.Call (.Name wd p5) [.Name n p6] [] p7) (fun σ H Q => σ[i]? = some (some (.ref q.1)) ∧ ∃ ps, (∀ a ∈ ps, H a ≠ none) ∧ ∀ v H', Same H H' → Dp X.K (hid ps H') v d → Q v H') := by
  obtain ⟨g, m, kp, run⟩ := G.ex
  refine ⟨fun pins s σ H Q I h => ?_⟩
  obtain ⟨hs, ps, hp, hQ⟩ := h
  have ha : PA X [.Name n p6] (tCons (fun σ H Q => ∃ v, σ[i]? = some (some v) ∧ Q v H) tNil) := pa_cons (pe_var hN hv h1 h2) pa_nil he
  refine wpAny_Call_Name_kw (ld_glob I hg m (PySem.W.callWith_K (h₀ := X.base) I.ok.mod.kin kp (thn (ha.run p7 pins s σ H (fun vs H1 => vs = [V.ref q.1] ∧ H1 = H) I ⟨_, hs, rfl, rfl⟩) fun us s1 w => ?_) he (by rfl)) hdb)
  obtain ⟨vs, H1, J, rv, ev, eH⟩ := w
  subst ev
  subst eH
  refine ⟨J.kIn, ?_⟩
  rw [Vals.ref1 rv]
  have P1 := J.pin q (List.mem_append_left _ hq)
  have pin : PinOk X.stack H1 s1 q := ⟨P1.1, P1.2.1, fun z => (List.mem_cons.mp (J.stkSub q.1 z)).elim P1.2.2.1 P1.2.2.2.1, P1.2.2.2.2⟩
  refine wpAny_call (codeAny_mono (run X.A X.stack s1 H1 q C d ps Q hf hr hot pin c1 c2 J.env0 hp hQ) fun r s2 z => ?_)
  cases r with
  | error e => exact False.elim z
  | ok fl =>
    cases fl with
    | ret u => exact J.after z
    | next => exact False.elim z
    | brk => exact False.elim z
    | cont => exact False.elim z
end FP

namespace FP
open PySem PySem.Spec PyProof.Rows L2 HotX L2H
def PR (X : Cx) (W : WX) (δ : De) (ω : Om) (e : Expr) (r : Rs) : Prop := ∀ σ H, Rl X.K H σ δ ω → ∀ Q : VK, RsQ X.K (ads ω) H Q (fun cls d H' => W cls d σ H') r → wpe X e σ H Q
section
variable {X : Cx} {W : WX} {δ : De} {ω : Om} {a e : Expr} {es : List Expr} {d : PyData} {ds : List PyData} {pos p : Pos} {k : Nat} {x : Str}
theorem PD.pr (h : PD X δ ω e d) : PR X W δ ω e (.ok d) := fun σ H rl Q q => h σ H rl Q q
end
end FP

namespace FP
open PySem PySem.Spec PyProof.Rows L2 HotX L2H
theorem takesF {X : Cx} : L2N.Takes X (fun _ _ _ _ => False) := fun _ _ x => by
  obtain ⟨_, _, _, _, _, _, _, _, _, _, _, _, _, _, _, _, z⟩ := x
  cases z
section
variable {X : Cx} {T : List (Addr × Str)} {δ : De} {ω : Om} {d : PyData} {pos p : Pos} {k : Nat}
end
end FP

namespace FP
open PySem PySem.Spec PyProof.Rows L2
section
variable {X : Cx} {W : WX} {T : List (Addr × Str)} {δ : De} {ω : Om} {a b c e : Expr} {es : List Expr} {d da db dz : PyData} {ds dt : List PyData} {pos p : Pos} {k : Bool} {x : Str} {R : Out → Prop} {ss : List Stmt}
/-- is not None -/
theorem rd_notN {K : PySem.W.Frag} (hd : da ≠ .none) : RD K (fun x y H Q => y = .non ∧ Q (.bl (!decide (x = .non))) H) da .none (.bool true) := fun ps x y H _ hx hy Q q => by
  cases hy
  refine ⟨rfl, ?_⟩
  have e : decide (x = .non) = false := decide_eq_false fun z => by
    subst z
    cases hx
    exact hd rfl
  rw [e]
  exact q _ H (Same.refl H) (.bl _)
theorem rd_notN0 {K : PySem.W.Frag} : RD K (fun x y H Q => y = .non ∧ Q (.bl (!decide (x = .non))) H) .none .none (.bool false) := fun ps x y H _ hx hy Q q => by
  cases hx
  cases hy
  exact ⟨rfl, q _ H (Same.refl H) (.bl _)⟩
/-- a list of one's own that is compared -/
theorem pt_neL (hu : X.A.units + 64 < cLine) (h1 : SeqAt.shaped (.list ds) = true) (h2 : SeqAt.shaped db = true) (ha : PL X δ ω a ds) (hb : PD X δ ω b db) : PTd X δ ω (.Compare a [.NotEq] [b] pos) (!PyData.eqv (.list ds) db) := fun σ H rl Q q =>
  wt (pt_cmpR (op_neD hu) pe_w pe_w (nomark _)) (ha σ H rl _ fun p vs H1 s1 h3 d1 => hb σ H1 (rl.mono s1) _ fun y H2 s2 d2 =>
    ⟨.list ds, db, .lst (s2.seq h3) (dpam hid_sub (dpam (hid_same s2) d1)), dpm hid_sub d2, h1, h2, _, rfl, q H2 (s1.trans s2)⟩)
end
end FP

namespace FP
open PySem PySem.Spec PyProof.Rows L2
section
variable {X : Cx} {W : WX} {T : List (Addr × Str)} {δ : De} {ω : Om} {iter : Expr} {pos : Pos} {R : Out → Prop} {ss sa : List Stmt}
end
end FP

namespace FP
open PySem PySem.Spec PyProof.Rows L2
@[irreducible] def wpm (X : Cx) (cs : List MatchCase) (x : V) (first : Bool) : TS := fun D σ H => ∀ pins s u, Inv X pins σ H s → RelV x u → wpAny (model X.prog X.w) X.A (matchCases cs X.env u first) (SP X pins D) X.xe s
/-- the cases, asked of data -/
def MC (X : Cx) (W : WX) (T : List (Addr × Str)) (cs : List MatchCase) (d : PyData) (δ : De) (ω : Om) (R : Out → Prop) : Prop :=
  ∀ (first : Bool) (x : V) σ H D, Rl X.K H σ δ ω → LamX.Tabs T H → Dp X.K (hid (ads ω) H) x d → Kt X W T ω H D R → wpm X cs x first D σ H
section
variable {X : Cx} {W : WX} {T : List (Addr × Str)} {δ : De} {ω : Om} {e : Expr} {d : PyData} {ds : List PyData} {pos p1 p2 p3 : Pos} {R : Out → Prop} {ss body : List Stmt} {cs : List MatchCase} {ps : List Pattern} {z : Str} {k : Nat}
end
end FP

namespace FP
open PySem PySem.Spec PyProof.Rows L2
section
variable {X : Cx} {W : WX} {T : List (Addr × Str)} {δ : De} {ω : Om} {d : PyData} {ds : List PyData} {p1 p2 p3 : Pos} {R : Out → Prop} {body : List Stmt} {cs : List MatchCase} {ps : List Pattern} {y z : Str} {k : Nat}
end
end FP

namespace FP
open PySem PySem.Spec PyProof.Rows L2
abbrev Fs := List (Str × PyData)
def imF (fs : Fs) : List (Str × Sd) := fs.map fun p => (p.1, .im p.2)
def putD (f : Str) (d : PyData) : Fs → Fs
  | [] => [(f, d)]
  | (g, x) :: r => if g = f then (g, d) :: r else (g, x) :: putD f d r
/-- fields as they lie -/
inductive FV (K : PySem.W.Frag) (H : Hp) : Fs → List (Str × V) → Prop
  | nil : FV K H [] []
  | cons {g : Str} {d : PyData} {v : V} {fs : Fs} {vs : List (Str × V)} (h : Dp K H v d) (r : FV K H fs vs) : FV K H ((g, d) :: fs) ((g, v) :: vs)
theorem fv_mono {K : PySem.W.Frag} {H H' : Hp} (e : Same H H') : ∀ {fs : Fs} {vs : List (Str × V)}, FV K H fs vs → FV K H' fs vs
  | _, _, .nil => .nil
  | _, _, .cons h r => .cons (dpm e h) (fv_mono e r)
theorem fv_of {K : PySem.W.Frag} {H : Hp} : ∀ {fs : Fs} {vs : List (Str × V)}, Paired (fun (p : Str × Sd) (q : Str × V) => p.1 = q.1 ∧ SdV K H p.2 q.2) (imF fs) vs → FV K H fs vs
  | [], _, h => by
    cases h
    exact .nil
  | (g, d) :: fs, _, h => by
    cases h with
    | cons a b =>
      rename_i q vs
      obtain ⟨g', v⟩ := q
      obtain ⟨e, a⟩ := a
      cases e
      exact .cons a (fv_of b)
theorem of_fv {K : PySem.W.Frag} {H : Hp} : ∀ {fs : Fs} {vs : List (Str × V)}, FV K H fs vs → Paired (fun (p : Str × Sd) (q : Str × V) => p.1 = q.1 ∧ SdV K H p.2 q.2) (imF fs) vs
  | _, _, .nil => .nil
  | _, _, .cons h r => .cons ⟨rfl, h⟩ (of_fv r)
theorem fv_put {K : PySem.W.Frag} {H : Hp} {f : Str} {d : PyData} {y : V} (h : Dp K H y d) : ∀ {fs : Fs} {vs : List (Str × V)}, FV K H fs vs → FV K H (putD f d fs) (putF f y vs)
  | _, _, .nil => .cons h .nil
  | (g, _) :: _, _, .cons a r => by
    unfold putD putF
    by_cases e : g = f
    · rw [if_pos e, if_pos e]
      exact .cons h r
    · rw [if_neg e, if_neg e]
      exact .cons a (fv_put h r)
theorem fv_len {K : PySem.W.Frag} {H : Hp} : ∀ {fs : Fs} {vs : List (Str × V)}, FV K H fs vs → vs.length = fs.length
  | _, _, .nil => rfl
  | _, _, .cons _ r => by rw [List.length_cons, List.length_cons, fv_len r]
/-- an object of one's own is written -/
theorem own_step {T : List (Addr × Str)} {K : PySem.W.Frag} {H : Hp} {σ : L2.St} {δ : De} {ω : Om} {D : Addr} {o o' : Od} {u0 u : HO} (rl : Rl K H σ δ (omD ω D o)) (e0 : H D = some u0) (nt : ∀ ps, u0 ≠ .tbl ps) (nc : ∀ c q, u0 ≠ LamX.CodeO c q)
    (new : OdV K (hid (ads (omD ω D o')) (upd H D u)) (upd H D u) D o') : Stp T (omD ω D o) (omD ω D o') H (upd H D u) ∧ Rl K (upd H D u) σ δ (omD ω D o') := by
  have hh : Same (hid (ads (omD ω D o)) H) (hid (ads (omD ω D o')) (upd H D u)) := hid_upd
  refine ⟨⟨fun b x h n _ => ?_, fun a h => .inl h, rfl, fun t => ?_⟩, ⟨rl.len, fun j r h => ?_, fun z x h => ?_, rl.ro.nd, fun z h hz => ?_⟩⟩
  · have nb : b ≠ D := fun z => n (by rw [z]; exact List.mem_cons_self)
    rw [upd_ne nb]
    exact h
  · intro q hq
    obtain ⟨ps, a1, a2, a3⟩ := t q hq
    refine ⟨ps, by rw [upd_ne (fun z => nt ps (by rw [z, e0] at a1; exact Option.some.inj a1))]; exact a1, a2, fun p' cv hc => ?_⟩
    obtain ⟨c0, b1, b2⟩ := a3 p' cv hc
    exact ⟨c0, b1, by rw [upd_ne (fun z => nc _ _ (by rw [z, e0] at b2; exact Option.some.inj b2))]; exact b2⟩
  · obtain ⟨v, h1, h2⟩ := rl.sl j r h
    exact ⟨v, h1, sdv_mono hh h2⟩
  · rcases List.mem_cons.mp h with q | q
    · cases q
      exact new
    · have nd2 : (D :: ω.os.map (·.1)).Nodup := rl.ro.nd
      have na : z ≠ D := fun zz => (List.nodup_cons.mp nd2).1 (List.mem_map.mpr ⟨(z, x), q, zz⟩)
      have g := rl.ro.ob z x (List.mem_cons_of_mem _ q)
      exact odv_keep (fun w => sdv_mono hh w) (fun u _ g1 => by rw [upd_ne na]; exact g1) g
  · have hn := rl.ro.th z h
    by_cases za : z = D
    · rw [za, upd_same] at hz
      cases hz
    · rw [upd_ne za] at hz
      exact hn hz
theorem fld_step {T : List (Addr × Str)} {K : PySem.W.Frag} {H : Hp} {σ : L2.St} {δ : De} {ω : Om} {a C dx : Addr} {fs : Fs} {vs : List (Str × V)} {f : Str} {y : V} {d : PyData} (rl : Rl K H σ δ (omD ω a (.ins C (imF fs)))) (e0 : H a = some (.ins C dx vs)) (fv : FV K (hid (ads (omD ω a (.ins C (imF fs)))) H) fs vs)
    (dy : Dp K (hid (ads (omD ω a (.ins C (imF fs)))) H) y d) : Stp T (omD ω a (.ins C (imF fs))) (omD ω a (.ins C (imF (putD f d fs)))) H (upd H a (.ins C dx (putF f y vs))) ∧ Rl K (upd H a (.ins C dx (putF f y vs))) σ δ (omD ω a (.ins C (imF (putD f d fs)))) :=
  own_step rl e0 (fun _ z => by cases z) (fun _ _ z => by unfold LamX.CodeO at z; cases z) ⟨dx, _, upd_same, of_fv (fv_put (dpm hid_upd dy) (fv_mono hid_upd fv))⟩
section
variable {X : Cx} {W : WX} {T : List (Addr × Str)} {δ : De} {ω : Om} {e : Expr} {d : PyData} {ds : List PyData} {pos p p1 : Pos} {R : Out → Prop} {ss : List Stmt} {a C : Addr} {fs : Fs} {f x : Str}
theorem rl_ins {H : Hp} {σ : L2.St} (rl : Rl X.K H σ δ ω) (hm : (a, Od.ins C (imF fs)) ∈ ω.os) : ∃ dx vs, H a = some (.ins C dx vs) ∧ FV X.K (hid (ads ω) H) fs vs := by
  obtain ⟨dx, vs, h1, h2⟩ := rl.ro.ob a _ hm
  exact ⟨dx, vs, h1, fv_of h2⟩
/-- x.f = e -/
theorem sd_fld (i : Nat) {pos' : Pos} (Cl : Cls X.K C) (Na : NoAttr X.K C f) (he : PD X δ (omD ω a (.ins C (imF fs))) e d) (hk : SD X W T ss δ (omD ω a (.ins C (imF (putD f d fs)))) R) (hz : fs.length < 1000) (hd : δ[i]? = some (some (.ad a)) := by rfl) (hN : X.N[i]? = some x := by rfl)
    (hv : Vis X.env.scope x := by first | exact Or.inl rfl | exact Or.inr (Or.inl rfl) | exact Or.inr (Or.inr rfl)) (h1 : (x == ("__debug__" : Str)) = false := by decide) (h2 : (x == ("__classdict__" : Str)) = false := by decide)
    (hs : swapsWith e (some (.Attribute (.Name x p1) f pos')) pos.line X.env = pure false := by rfl) : SD X W T (.Assign [.Attribute (.Name x p1) f pos'] e pos :: ss) δ (omD ω a (.ins C (imF fs))) R :=
  sd_cons fun σ H D rl t k => ws (ps_fld (pe_var hN hv h1 h2) pe_w hs) (he σ H rl _ fun y H1 s1 d1 => by
    have rl1 := rl.mono s1
    obtain ⟨v, e1, e2⟩ := rl1.sl i _ hd
    have e2 : v = .ref a := e2
    subst e2
    obtain ⟨dx, vs, g1, g2⟩ := rl_ins rl1 List.mem_cons_self
    obtain ⟨st, l2⟩ := fld_step (T := T) (f := f) rl1 g1 g2 d1
    exact ⟨_, e1, a, C, dx, vs, rfl, g1, Cl, Na, by rw [fv_len g2]; exact hz, k.nx δ _ σ _ hk ((Stp.of s1).trans st) l2⟩)
end
end FP

namespace FP
open PySem PySem.Spec PyProof.Rows L2
section
variable {X : Cx} {W : WX} {T : List (Addr × Str)} {δ : De} {ω : Om} {e : Expr} {d : PyData} {ds : List PyData} {pos p p1 : Pos} {R : Out → Prop} {ss : List Stmt} {a C : Addr} {fs : Fs} {f x : Str}
end
theorem hid_self {a C : Addr} {ps : List Addr} {o : Od} {H : Hp} : hid (ads ⟨ps, [(a, o)]⟩) H = hid (a :: ps) H := by
  funext b
  unfold hid
  have e : b ∈ ads ⟨ps, [(a, o)]⟩ ↔ b ∈ a :: ps := by
    show b ∈ ps ++ [a] ↔ b ∈ a :: ps
    simp [or_comm]
  by_cases h : b ∈ a :: ps
  · rw [if_pos h, if_pos (e.mpr h)]
  · rw [if_neg h, if_neg (fun z => h (e.mp z))]
/-- self and what is handed to a method -/
structure MIn (K : PySem.W.Frag) (C : Addr) (vs : List V) (H : Hp) (ps : List Addr) (a : Addr) (fs : Fs) (ds : List PyData) : Prop where
  ex : ∃ dx fvs vs', vs = .ref a :: vs' ∧ (∀ b ∈ ps, H b ≠ none) ∧ H a = some (.ins C dx fvs) ∧ FV K (hid (a :: ps) H) fs fvs ∧ DpAll K (hid (a :: ps) H) vs' ds
/-- one that only reads -/
def spR (K : PySem.W.Frag) (C : Addr) (fr : Fs → List PyData → PyData → Prop) : Sp := fun vs H Q _ => ∃ ps a fs ds d, MIn K C vs H ps a fs ds ∧ fr fs ds d ∧ ∀ v H', Same H H' → Dp K (hid (a :: ps) H') v d → Q v H'
/-- one that writes self, or raises -/
def spW (K : PySem.W.Frag) (C : Addr) (fr : Fs → List PyData → Rs → Fs → Prop) : Sp := fun vs H Q E => ∃ ps a fs ds r fs', MIn K C vs H ps a fs ds ∧ fr fs ds r fs' ∧ ∀ H' dx fvs, (∀ b o, b ≠ a → H b = some o → H' b = some o) → H' a = some (.ins C dx fvs) → FV K (hid (a :: ps) H') fs' fvs →
  (match r with | .ok d => ∀ v, Dp K (hid (a :: ps) H') v d → Q v H' | .er Z => E (.ref Z) none H')
structure RdOk (P : Program) (w : World) (K : PySem.W.Frag) (mg : Str → Option Value) (base : Heap) (k : Nat) (C : Addr) (m : Str) (fr : Fs → List PyData → PyData → Prop) : Prop where
  ex : ∃ f fd ps, FnOk P w K mg base (L2N.CX P w) k f fd ps (spR K C fr) ∧ Meth K C m f ∧ L2.Binds K fd ps []
structure WrOk (P : Program) (w : World) (K : PySem.W.Frag) (mg : Str → Option Value) (base : Heap) (k : Nat) (C : Addr) (m : Str) (fr : Fs → List PyData → Rs → Fs → Prop) : Prop where
  ex : ∃ f fd ps, FnOk P w K mg base (L2N.CX P w) k f fd ps (spW K C fr) ∧ Meth K C m f ∧ L2.Binds K fd ps []
/-- the slots at the start -/
def startM (N : List Str) (a : Addr) (ds : List PyData) : De := some (.ad a) :: (ds.map (fun d => some (.im d)) ++ List.replicate (N.length - (ds.length + 1)) none)
theorem startM_rl {K : PySem.W.Frag} {C : Addr} {vs : List V} {H : Hp} {ps : List Addr} {a : Addr} {fs : Fs} {ds : List PyData} {N : List Str} (h : MIn K C vs H ps a fs ds) : Rl K H (L2.start N vs) (startM N a ds) ⟨ps, [(a, .ins C (imF fs))]⟩ := by
  obtain ⟨dx, fvs, vs', rfl, h1, h2, h3, h4⟩ := h.ex
  have hl := dpa_len h4
  refine ⟨?_, fun i r hi => ?_, fun z o hz => ?_, by show [a].Nodup; simp, h1⟩
  · unfold L2.start startM
    simp [hl]
  · rw [hid_self (C := C)]
    unfold startM at hi
    cases i with
    | zero =>
      cases hi
      exact ⟨.ref a, rfl, rfl⟩
    | succ i =>
      rw [List.getElem?_cons_succ] at hi
      by_cases hlt : i < ds.length
      · rw [List.getElem?_append_left (by rw [List.length_map]; exact hlt), List.getElem?_map, List.getElem?_eq_getElem hlt] at hi
        cases hi
        obtain ⟨v, g1, g2⟩ := dpa_get h4 (List.getElem?_eq_getElem hlt)
        refine ⟨v, ?_, g2⟩
        unfold L2.start
        rw [List.map_cons, List.cons_append, List.getElem?_cons_succ, List.getElem?_append_left (by rw [List.length_map, hl]; exact hlt), List.getElem?_map, g1]
        rfl
      · rw [List.getElem?_append_right (by rw [List.length_map]; omega)] at hi
        obtain ⟨q1, q2⟩ := List.getElem?_eq_some_iff.mp hi
        rw [List.getElem_replicate] at q2
        cases q2
  · rcases List.mem_cons.mp hz with q | q
    · cases q
      rw [hid_self (C := C)]
      exact ⟨dx, fvs, h2, of_fv h3⟩
    · cases q
section
variable {P : Program} {w : World} {K : PySem.W.Frag} {mg : Str → Option Value} {base : Heap} {x qual : Str} {params : Arguments} {body : List Stmt} {scope : Scope} {kws : List (Str × V)} {f C : Addr} {fd : FuncData} {N ps : List Str} {k : Nat}
/-- how such a def may end: self's fields -/
def FinW (C a : Addr) (r : Rs) (fs' : Fs) : Out → Prop
  | .nx _ ω => r = .ok .none ∧ (a, Od.ins C (imF fs')) ∈ ω.os
  | .rt (.im d) ω => r = .ok d ∧ (a, Od.ins C (imF fs')) ∈ ω.os
  | .ex Z ω => r = .er Z ∧ (a, Od.ins C (imF fs')) ∈ ω.os
  | _ => False
theorem wr_ok {fr : Fs → List PyData → Rs → Fs → Prop} (F : FunD K x qual params body scope [] kws f fd) (hm : Meth K C x f) (S : FnScope N ps scope) (hb : ∀ (kV doc pm : Value) (an : Option Addr) (cdv ct : Value) (us : List Value), us.length = ps.length → bindArgs (PySem.W.fnOf x qual params body scope .none kV doc pm an cdv ct) ⟨us, []⟩ = pure (ps.zip us))
    (len : ∀ fs ds r fs', fr fs ds r fs' → ds.length + 1 = ps.length)
    (hbody : ∀ (cdv : Value) (A : Around) (outer : List Env) (s : Shared) (H : Hp) (E : XK) (qs : List Addr) (a : Addr) (fs : Fs) (ds : List PyData) (r : Rs) (fs' : Fs), Room k (A.deeper (envOfC qual scope s.heap.objs.size f cdv)) → fr fs ds r fs' →
      SD (cxOf (L2N.CX P w) P w K mg base N qual scope f cdv A outer s H E) (WOf E) [] body (startM N a ds) ⟨qs, [(a, .ins C (imF fs))]⟩ (FinW C a r fs')) : WrOk P w K mg base (k + 1) C x fr := by
  refine ⟨f, fd, ps, F.ok S (fun vs H Q E h => ?_) (fun cdv A outer s H vs Q E hr h => ?_), hm, F.bindsN hb⟩
  · obtain ⟨qs, a, fs, ds, r, fs', h1, h2, _⟩ := h
    obtain ⟨dx, fvs, vs', rfl, _, _, _, h4⟩ := h1.ex
    rw [List.length_cons, dpa_len h4]
    exact len fs ds r fs' h2
  · obtain ⟨qs, a, fs, ds, r, fs', h1, h2, h3⟩ := h
    refine ⟨_, pss_w, hbody cdv A outer s H E qs a fs ds r fs' hr h2 _ _ _ (startM_rl h1) (fun _ z => nomatch z) ?_⟩
    have kept : ∀ {ω' : Om} {H' : Hp}, Stp [] ⟨qs, [(a, .ins C (imF fs))]⟩ ω' H H' → ∀ b o, b ≠ a → H b = some o → H' b = some o := fun {ω' H'} st b o nb e => st.keep b o e (fun z => nb (List.mem_singleton.mp z)) (.inl rfl)
    have more : ∀ {ω' : Om} {H' : Hp}, Stp [] ⟨qs, [(a, .ins C (imF fs))]⟩ ω' H H' → (a, Od.ins C (imF fs')) ∈ ω'.os → Same (hid (ads ω') H') (hid (a :: qs) H') := fun {ω' H'} st hm => hid_more fun b hb => by
      rcases List.mem_cons.mp hb with q | q
      · subst q
        exact List.mem_append_right _ (List.mem_map.mpr ⟨_, hm, rfl⟩)
      · exact List.mem_append_left _ (by rw [st.ps]; exact q)
    refine ⟨fun δ' ω' σ' H' z st l => ?_, fun r' ω' v H' z st l dv => ?_, fun Z ω' σ' H' z st l => ?_, fun _ _ _ _ z => False.elim z, fun _ _ _ _ z => False.elim z⟩
    · obtain ⟨rfl, hm⟩ := z
      obtain ⟨dx, vs1, g1, g2⟩ := l.ro.ob a _ hm
      exact h3 H' dx vs1 (kept st) g1 (fv_mono (more st hm) (fv_of g2)) .non .non
    · cases r' with
      | im d =>
        obtain ⟨rfl, hm⟩ := z
        obtain ⟨dx, vs1, g1, g2⟩ := l.ob a _ hm
        exact h3 H' dx vs1 (kept st) g1 (fv_mono (more st hm) (fv_of g2)) v (dpm (more st hm) dv)
      | ad a => exact False.elim z
    · obtain ⟨rfl, hm⟩ := z
      obtain ⟨dx, vs1, g1, g2⟩ := l.ob a _ hm
      exact h3 H' dx vs1 (kept st) g1 (fv_mono (more st hm) (fv_of g2))
end
end FP

namespace FP
open PySem PySem.Spec PyProof.Rows L2
section
variable {X : Cx} {W : WX} {T : List (Addr × Str)} {δ : De} {ω : Om} {e : Expr} {es : List Expr} {d : PyData} {ds : List PyData} {pos p p1 apos : Pos} {R : Out → Prop} {ss : List Stmt} {a C : Addr} {fs fs' : Fs} {f x m : Str} {k : Nat}
end
end FP

namespace FP
open PySem PySem.Spec PyProof.Rows L2
mutual
def kdIs (K : PySem.W.Frag) : PyData → Value → Bool
  | .none, .none => true
  | .bool b, .bool c => decide (b = c)
  | .int i, .int j _ => decide (i = j)
  | .str x, .str y _ => decide (x = y)
  | .tuple ds, .ref a => match K.lookup a with
    | some ⟨.type c, _, .seq its _, _⟩ => decide (c = "tuple") && (decide (its.size ≤ sizeLine) && kdAll K ds its.toList)
    | _ => false
  | _, _ => false
def kdAll (K : PySem.W.Frag) : List PyData → List Value → Bool
  | [], [] => true
  | d :: ds, u :: us => kdIs K d u && kdAll K ds us
  | _, _ => false
end
mutual
theorem kdIs_ok {K : PySem.W.Frag} : ∀ {d : PyData} {u : Value}, kdIs K d u = true → ∃ v, RelV v u ∧ ∀ H, Dp K H v d
  | .none, .none, _ => ⟨.non, rfl, fun _ => .non⟩
  | .bool b, .bool c, h => by
    have e := of_decide_eq_true (show decide (b = c) = true from by unfold kdIs at h; exact h)
    subst e
    exact ⟨.bl b, rfl, fun _ => .bl b⟩
  | .int i, .int j t, h => by
    have e := of_decide_eq_true (show decide (i = j) = true from by unfold kdIs at h; exact h)
    subst e
    exact ⟨.int i, ⟨t, rfl⟩, fun _ => .int i⟩
  | .str x, .str y t, h => by
    have e := of_decide_eq_true (show decide (x = y) = true from by unfold kdIs at h; exact h)
    subst e
    exact ⟨.str x, ⟨t, rfl⟩, fun _ => .str x⟩
  | .tuple ds, .ref a, h => by
    unfold kdIs at h
    cases q : K.lookup a with
    | none =>
      rw [q] at h
      cases h
    | some o =>
      obtain ⟨oc, od, dt, osl⟩ := o
      rw [q] at h
      cases oc with
      | type c =>
        cases dt with
        | seq its n =>
          obtain ⟨h1, h2⟩ := He.ba (show (decide (c = "tuple") && (decide (its.size ≤ sizeLine) && kdAll K ds its.toList)) = true from h)
          obtain ⟨h3, h4⟩ := He.ba h2
          obtain ⟨vs, g1, g2⟩ := kdAll_ok h4
          exact ⟨.ref a, rfl, fun H => .tup (.inr ⟨_, its, n, q, congrArg Value.type (of_decide_eq_true h1), rfl, of_decide_eq_true h3, g1⟩) (g2 H)⟩
        | _ => cases h
      | _ => cases dt <;> cases h
theorem kdAll_ok {K : PySem.W.Frag} : ∀ {ds : List PyData} {us : List Value}, kdAll K ds us = true → ∃ vs, Vals vs us ∧ ∀ H, DpAll K H vs ds
  | [], [], _ => ⟨[], .nil, fun _ => .nil⟩
  | d :: ds, u :: us, h => by
    unfold kdAll at h
    obtain ⟨h1, h2⟩ := He.ba h
    obtain ⟨v, a1, a2⟩ := kdIs_ok h1
    obtain ⟨vs, b1, b2⟩ := kdAll_ok h2
    exact ⟨v :: vs, .cons a1 b1, fun H => .cons (a2 H) (b2 H)⟩
  | [], _ :: _, h => by
    unfold kdAll at h
    cases h
  | _ :: _, [], h => by
    unfold kdAll at h
    cases h
end
end FP

namespace FP
open PySem PySem.Spec PyProof.Rows L2
/-- a dict of the module -/
structure KTab (w : World) (K : PySem.W.Frag) (mg : Str → Option Value) (n : Str) (A : Addr) : Prop where
  ex : ∃ es c, KDict K w A es c
  mg : mg n = some (.ref A)
section
variable {X : Cx} {W : WX} {T : List (Addr × Str)} {δ : De} {ω : Om} {a b e : Expr} {es : List Expr} {d da db : PyData} {ds : List PyData} {pos p p2 : Pos} {k : Bool} {R : Out → Prop} {ss : List Stmt} {n : Str} {A : Addr} {z : Str}
end
section
variable {X : Cx} {δ : De} {ω : Om} {a b elt : Expr} {pos p : Pos} {xs ys zs : List PyData}
end
end FP

namespace FP
open PySem PySem.Spec PyProof.Rows L2
section
variable {X : Cx} {W : WX} {T : List (Addr × Str)} {δ : De} {ω : Om} {e tg iter b : Expr} {d : PyData} {ds : List PyData} {pos p p1 : Pos} {R : Out → Prop} {ss : List Stmt} {x : Str}
end
end FP

namespace FP
open PySem PySem.Spec PyProof.Rows L2
def rCatQ (K : PySem.W.Frag) : R2 := fun x y H Q => ∃ l b xs zs, x = .ref l ∧ y = .ref b ∧ SqL K H l xs ∧ SqL K H b zs ∧ xs.length + zs.length ≤ sizeLine ∧ ∀ p, H p = none → Q (.ref p) (upd H p (.lst (xs ++ zs)))
theorem op_catQ {X : Cx} : OpR X (binaryOp .Add) (rCatQ X.K) := by
  intro pins s σ H x y v u Q I rx ry h
  obtain ⟨l, b, xs, zs, rfl, rfl, hl, hb, hz, q⟩ := h
  cases rx
  cases ry
  obtain ⟨is1, r1, p1, _⟩ := I.list hl
  obtain ⟨is2, r2, p2, _⟩ := I.list hb
  obtain ⟨⟨c1, dd1, da1, sl1⟩, g1, e1, n1, f1⟩ := p1.isList
  obtain ⟨⟨c2, dd2, da2, sl2⟩, g2, e2, n2, f2⟩ := p2.isList
  simp only at e1 f1 e2 f2
  subst e1 f1 e2 f2
  have le : is1.length + is2.length ≤ sizeLine := by rw [← r1.length, ← r2.length]; exact hz
  have ea : is1.toArray ++ is2.toArray = (is1 ++ is2).toArray := by simp
  refine concat_meets ⟨_, g1, rfl⟩ ⟨_, g2, rfl⟩ noFill_list_add seq_list_add PySem.F.slot_list_add PySem.F.entry_list_add (PySem.F.args_list_add_2 _ _) (list_addW l b is1.toArray is2.toArray n1 n2 dd1 dd2 sl1 sl2 (by simpa using le)) ⟨g1, g2, ?_⟩
  rw [ea]
  exact ⟨.ref _, _, I.lnew (t' := s.toks) (r1.append r2) (by rw [List.length_append]; exact hz), rfl, q _ I.fresh⟩
/-- a + b, lists -/
theorem pn_catL {X : Cx} {δ : De} {ω : Om} {a b : Expr} {ds dt : List PyData} {pos : Pos} (ha : PL X δ ω a ds) (hb : PL X δ ω b dt) (hz : ds.length + dt.length ≤ 10000) : PN X δ ω (.BinOp a .Add b pos) (ds ++ dt) := fun σ H rl Q k =>
  we (pe_op op_catQ pe_w pe_w) (ha σ H rl _ fun q vs H1 s1 h1 d1 => hb σ H1 (rl.mono s1) _ fun r us H2 s2 h2 d2 =>
    ⟨q, r, vs, us, rfl, rfl, s2.seq h1, h2, by rw [dpa_len d1, dpa_len d2, sizeLine_eq]; omega, fun p hp => k p _ _ ((s1.trans s2).trans (same_new hp)) ((s1.trans s2).free hp) upd_same (dpam (hid_new hp (same_new hp)) (dpa_app (dpam (hid_same s2) d1) d2))⟩)
end FP

namespace FP
open PySem PySem.Spec PyProof.Rows L2 HotX L2H
section
variable (as : List Addr) (fa : List He.Fa) (fn : List He.DefD) (ts : List He.Tab) (tf : List He.Defn) (ex : PySem.W.Frag → Bool)
/-- the tables that stand empty -/
def bareL (g : Addr → Option Obj) (K : PySem.W.Frag) : Bool := tf.all fun p => PySem.W.codeHdIn K (He.cT K p).1 (He.cT K p).2 && (g (He.cT K p).2).any He.emptyTab
def seenL (g : Addr → Option Obj) : He.AlX := (fun K => (He.obsT fa fn ts K, ex K && bareL tf g K)) (He.frT g as)
variable {as fa fn ts tf ex}
theorem seenL_says {w : World} {h : Heap} (e : seenL as fa fn ts tf ex h.get? = He.valX fn ts w) : He.SaysX fa fn ts tf ex w h (He.frT h.get? as) := by
  have b : (ex (He.frT h.get? as) && bareL tf h.get? (He.frT h.get? as)) = true := congrArg Prod.snd e
  rw [Bool.and_eq_true] at b
  have all_ : ∀ p ∈ tf, _ := fun p hp => Bool.and_eq_true _ _ ▸ (List.all_eq_true.mp b.2 p hp)
  have bare : ∀ p ∈ tf, ∃ o, h.get? (He.cT (He.frT h.get? as) p).2 = some o ∧ He.emptyTab o = true := fun p hp => by
    have q := (all_ p hp).2
    cases e : h.get? (He.cT (He.frT h.get? as) p).2 with
    | none =>
      rw [e] at q
      cases q
    | some o =>
      rw [e] at q
      exact ⟨o, rfl, q⟩
  refine { t := congrArg Prod.fst e, more := b.1, hd := fun p hp => (all_ p hp).1, out := fun p hp => ?_, empty := fun p hp => ?_ }
  · obtain ⟨o, h1, h2⟩ := bare p hp
    exact He.frT_none h1 h2
  · obtain ⟨o, h1, h2⟩ := bare p hp
    exact h1.trans (congrArg some (He.emptyTab_eq h2))
end
/-- a Hook that looks at these addresses -/
def hookL (as : List Addr) (fa : List He.Fa) (fn : List He.DefD) (ts : List He.Tab) (tf : List He.Defn) (ex : PySem.W.Frag → Bool) : PySem.W.Hook :=
  { He.hookX 0 fa fn ts tf ex with obs := fun s => seenL as fa fn ts tf ex s.heap.get?, of := fun _ _ e => ⟨_, He.frT_in, seenL_says e⟩ }
end FP

namespace FP
open PySem PySem.Spec PyProof.Rows L2 HotX L2H
def faB : He.Fa → He.Fa → Bool
  | .glo x, .glo y => decide (x = y)
  | .free x, .free y => decide (x = y)
  | .int x i, .int y j => decide (x = y) && decide (i = j)
  | .cls x, .cls y => decide (x = y)
  | .noat x f, .noat y g => decide (x = y) && decide (f = g)
  | .meth x f, .meth y g => decide (x = y) && decide (f = g)
  | .mkr x, .mkr y => decide (x = y)
  | .exc x, .exc y => decide (x = y)
  | _, _ => false
theorem faB_ok {a b : He.Fa} (h : faB a b = true) : a = b := by
  unfold faB at h
  split at h <;> first | (cases h; done) | (rw [Bool.and_eq_true, decide_eq_true_eq, decide_eq_true_eq] at h; rw [h.1, h.2]) | (rw [decide_eq_true_eq] at h; rw [h])
theorem fam {l : List He.Fa} {x : He.Fa} (h : (l.any (faB x)) = true) : x ∈ l := by
  obtain ⟨y, hy, e⟩ := List.any_eq_true.mp h
  rw [faB_ok e]
  exact hy
theorem fnm {α : Type} {l : List α} {x : α} (i : Nat) (h : l[i]? = some x) : x ∈ l := List.mem_of_getElem? h
end FP

namespace FP
open PySem PySem.Spec PyProof.Rows L2 HotX L2H
/-- the module's name x holds this text, of a token below θ -/
def tokB (K : PySem.W.Frag) (x z : Str) (θ : Nat) : Bool := match PySem.W.nsIn K mainGlobals x with
  | some (some (.str y t)) => decide (y = z) && (!decide (t = 0) && decide (t < θ))
  | _ => false
section
variable (θ : Nat) (as : List Addr) (fa : List He.Fa) (fn : List He.DefD) (ts : List He.Tab) (tf : List He.Defn) (ex : PySem.W.Frag → Bool)
def seenT (g : Addr → Option Obj) (toks : Nat) : He.AlX := ((seenL as fa fn ts tf ex g).1, (seenL as fa fn ts tf ex g).2 && decide (θ ≤ toks))
variable {θ as fa fn ts tf ex}
theorem seenT_ok {g : Addr → Option Obj} {toks : Nat} {w : World} (e : seenT θ as fa fn ts tf ex g toks = He.valX fn ts w) : seenL as fa fn ts tf ex g = He.valX fn ts w ∧ θ ≤ toks := by
  have e1 := congrArg Prod.fst e
  have e2 : ((seenL as fa fn ts tf ex g).2 && decide (θ ≤ toks)) = true := congrArg Prod.snd e
  rw [Bool.and_eq_true] at e2
  exact ⟨Prod.ext e1 e2.1, of_decide_eq_true e2.2⟩
end
/-- a Hook that looks at these addresses and at the tokens -/
def hookT (θ : Nat) (as : List Addr) (fa : List He.Fa) (fn : List He.DefD) (ts : List He.Tab) (tf : List He.Defn) (ex : PySem.W.Frag → Bool) : PySem.W.Hook :=
  { hookL as fa fn ts tf ex with obs := fun s => seenT θ as fa fn ts tf ex s.heap.get? s.toks, of := fun w s e => (hookL as fa fn ts tf ex).of w s (seenT_ok e).1 }
theorem hookT_tok {θ : Nat} {as : List Addr} {fa : List He.Fa} {fn : List He.DefD} {ts : List He.Tab} {tf : List He.Defn} {ex : PySem.W.Frag → Bool} (w : World) (s : Shared) (e : (hookT θ as fa fn ts tf ex).obs s = (hookT θ as fa fn ts tf ex).val w) : θ ≤ s.toks := (seenT_ok e).2
theorem seenT_eq {θ : Nat} {as : List Addr} {fa : List He.Fa} {fn : List He.DefD} {ts : List He.Tab} {tf : List He.Defn} {ex : PySem.W.Frag → Bool} {g : Addr → Option Obj} {s : Shared} (h : ∀ a, g a = s.heap.get? a) : seenT θ as fa fn ts tf ex g s.toks = (hookT θ as fa fn ts tf ex).obs s := by
  rw [show g = s.heap.get? from funext h]
  rfl
end FP

namespace K72
open PySem PySem.Spec PyProof.Rows L2 FP
def top (i : Nat) : Stmt := PySem.Challenge.pw_farpanes_k72_whole_keys_lost.main.body.getD i (.Pass ⟨0, 0, 0, 0⟩)
abbrev s_is_whole : Stmt := top 13
abbrev s_is_within : Stmt := top 14
abbrev s_is_tuple_of : Stmt := top 15
abbrev s_are_signs : Stmt := top 16
abbrev s_are_keys : Stmt := top 20
abbrev s_need_keys_packet : Stmt := top 21
abbrev s__law_cell : Stmt := top 25
abbrev s__law_drawn : Stmt := top 26
abbrev s__law_word : Stmt := top 27
abbrev s__law_told : Stmt := top 28
abbrev s_law : Stmt := top 29
abbrev dOf (x : Str) (st : Stmt) : He.DefD := ⟨(x, none), x, x, defArgs st, defBody st, defScope st, [], []⟩
abbrev s_Typer___init__ : Stmt := inClass (top 22) 0
abbrev s_Typer_press : Stmt := inClass (top 22) 1
abbrev s_Typer_tick : Stmt := inClass (top 22) 2
abbrev s_Typer_heard : Stmt := inClass (top 22) 3
abbrev s_Typer_pressed : Stmt := inClass (top 22) 4
abbrev s_Board___init__ : Stmt := inClass (top 23) 0
abbrev s_Board_took : Stmt := inClass (top 23) 1
def fn : List He.DefD := [dOf "is_whole" s_is_whole, dOf "is_within" s_is_within, dOf "is_tuple_of" s_is_tuple_of, dOf "are_signs" s_are_signs, dOf "are_keys" s_are_keys, dOf "need_keys_packet" s_need_keys_packet, dOf "_law_cell" s__law_cell, dOf "_law_drawn" s__law_drawn, dOf "_law_word" s__law_word, dOf "_law_told" s__law_told, dOf "law" s_law, ⟨("Typer", some "__init__"), "__init__", "Typer.__init__", defArgs s_Typer___init__, defBody s_Typer___init__, defScope s_Typer___init__, [], []⟩, ⟨("Typer", some "press"), "press", "Typer.press", defArgs s_Typer_press, defBody s_Typer_press, defScope s_Typer_press, [], []⟩, ⟨("Typer", some "tick"), "tick", "Typer.tick", defArgs s_Typer_tick, defBody s_Typer_tick, defScope s_Typer_tick, [], []⟩, ⟨("Typer", some "heard"), "heard", "Typer.heard", defArgs s_Typer_heard, defBody s_Typer_heard, defScope s_Typer_heard, [], []⟩, ⟨("Typer", some "pressed"), "pressed", "Typer.pressed", defArgs s_Typer_pressed, defBody s_Typer_pressed, defScope s_Typer_pressed, [], []⟩, ⟨("Board", some "__init__"), "__init__", "Board.__init__", defArgs s_Board___init__, defBody s_Board___init__, defScope s_Board___init__, [], []⟩, ⟨("Board", some "took"), "took", "Board.took", defArgs s_Board_took, defBody s_Board_took, defScope s_Board_took, [], []⟩]
def fa : List He.Fa := [.glo "is_whole", .glo "is_within", .glo "is_tuple_of", .glo "are_signs", .glo "are_keys", .glo "need_keys_packet", .glo "_law_cell", .glo "_law_drawn", .glo "_law_word", .glo "_law_told", .glo "law", .glo "ScreenError", .glo "BadFace", .glo "BadDeed", .glo "BadTalk", .glo "BadChange", .glo "BadPacket", .glo "BadLayout", .glo "BadName", .glo "BadFilm", .glo "Nothing", .glo "Typer", .glo "Board", .free "all", .free "bool", .free "int", .free "isinstance", .free "len", .free "max", .free "min", .free "ord", .free "range", .free "str", .free "sum", .free "tuple", .free "ValueError", .int "PERCENT" 37, .int "MOST_KEYS_SENT" 10, .exc "BadPacket", .cls "Typer", .mkr "Typer", .noat "Typer" "typed", .noat "Typer" "known", .meth "Typer" "press", .meth "Typer" "tick", .meth "Typer" "heard", .meth "Typer" "pressed", .cls "Board", .mkr "Board", .noat "Board" "total", .meth "Board" "took"]
def ex (K : PySem.W.Frag) : Bool := tokB K "LINE_END" "\n" 388 && (wordB K "BadPacket" [("BadChange", false), ("BadDeed", false), ("BadFace", false), ("BadFilm", false), ("BadLayout", false), ("BadName", false), ("BadPacket", true), ("BadTalk", false), ("Nothing", false)] && (decide (PySem.W.exmOne K (.ref (He.ga K "BadPacket")) (.ref (He.ga K "ScreenError")) = some true)))
def tf : List He.Defn := [("law", none)]
abbrev R : PySem.W.OpenRow := PySem.W.OpenLaw.row PySem.Challenge.rw_farpanes_k72_whole_keys_lost
def ts : List He.Tab := []
def AS : List Addr := [0, 3, 6, 23, 36, 48, 60, 72, 84, 96, 108, 120, 132, 219, 247, 140, 142, 147, 149, 154, 156, 159, 161, 166, 168, 173, 175, 189, 196, 203, 210, 217, 238, 245, 257, 259, 264, 266, 269, 271, 276, 278, 281, 283, 25, 137, 141, 144, 148, 151, 155, 158, 160, 163, 167, 170, 174, 188, 195, 202, 209, 216, 221, 222, 237, 244, 249, 250, 254, 258, 261, 265, 268, 270, 273, 277, 280, 282, 4, 24, 37, 49, 61, 73, 85, 97, 109, 121, 133, 220, 248, 22, 35, 47, 59, 71, 83, 95, 107, 119, 131, 136, 138, 139, 143, 145, 146, 150, 152, 153, 157, 162, 164, 165, 169, 171, 172, 218, 246, 253, 255, 256, 260, 262, 263, 267, 272, 274, 275, 279]
abbrev hk : PySem.W.Hook := hookT 388 AS fa fn ts tf ex
def ob (s : PySem.W.SharedT) : He.AlX := seenT 388 AS fa fn ts tf ex (HandSHeadRun.getT s) s.toks
theorem ob_eq (s : PySem.W.SharedT) : ob s = hk.obs s.abs := seenT_eq (s := s.abs) (HandSHeadRun.getT_eq s)
def loose0 : List Str := ["ScreenError", "BadFace", "BadDeed", "BadTalk", "BadChange", "BadPacket", "BadLayout", "BadName", "BadFilm", "Nothing", "PERCENT", "is_whole", "is_within", "is_tuple_of", "are_signs", "LINE_END", "MOST_KEYS_SENT", "are_keys", "need_keys_packet", "Typer", "Board", "_law_cell", "_law_drawn", "_law_word", "_law_told"]
def loose : List Str := loose0
set_option maxHeartbeats 0 in
theorem runF (w : World) : HandSHeadRun.RunEq R (PySem.W.view R.prog [29]) hk ob 8000 loose (w.withFollow "special-get-raises" false) := by
  intro os
  kernel_rfl
set_option maxHeartbeats 0 in
theorem runT (w : World) : HandSHeadRun.RunEq R (PySem.W.view R.prog [29]) hk ob 8000 loose (w.withFollow "special-get-raises" true) := by
  intro os
  kernel_rfl
theorem run (w : World) : HandSHeadRun.RunEq R (PySem.W.view R.prog [29]) hk ob 8000 loose w :=
  PySem.W.byRow2 "special-get-raises" (P := fun w => HandSHeadRun.RunEq R (PySem.W.view R.prog [29]) hk ob 8000 loose w) runF runT w

end K72

namespace FP
open PySem PySem.Spec PyProof.Rows L2 HotX L2H
def putO (ω : Om) (j : Nat) (p : Addr × Od) : Om := ⟨ω.ps, ω.os.set j p⟩
theorem map_put {os : List (Addr × Od)} {j : Nat} {D : Addr} {o o' : Od} (h : os[j]? = some (D, o)) : (os.set j (D, o')).map (·.1) = os.map (·.1) := by
  rw [List.map_set]
  obtain ⟨hl, e⟩ := List.getElem?_eq_some_iff.mp h
  have e2 : (os.map (·.1))[j]'(by rw [List.length_map]; exact hl) = D := by
    rw [List.getElem_map, e]
  show (os.map (·.1)).set j D = os.map (·.1)
  rw [← e2, List.set_getElem_self]
theorem osA_put {ω : Om} {j : Nat} {D : Addr} {o o' : Od} (h : ω.os[j]? = some (D, o)) : osA (putO ω j (D, o')) = osA ω := map_put h
theorem ads_put {ω : Om} {j : Nat} {D : Addr} {o o' : Od} (h : ω.os[j]? = some (D, o)) : ads (putO ω j (D, o')) = ads ω := by
  show ω.ps ++ (ω.os.set j (D, o')).map (·.1) = ω.ps ++ ω.os.map (·.1)
  rw [map_put h]
/-- an object of one's own was written -/
theorem own_at {T : List (Addr × Str)} {K : PySem.W.Frag} {H H' : Hp} {σ : L2.St} {δ : De} {ω : Om} {D : Addr} {o o' : Od} {u0 : HO} {j : Nat} (rl : Rl K H σ δ ω) (ho : ω.os[j]? = some (D, o)) (e0 : H D = some u0) (nt : ∀ ps, u0 ≠ .tbl ps) (nc : ∀ c q, u0 ≠ LamX.CodeO c q)
    (kept : ∀ b x, b ≠ D → H b = some x → H' b = some x) (new : OdV K (hid (ads ω) H') H' D o') : Stp T ω (putO ω j (D, o')) H H' ∧ Rl K H' σ δ (putO ω j (D, o')) := by
  have am : D ∈ osA ω := List.mem_map.mpr ⟨_, List.mem_of_getElem? ho, rfl⟩
  have aw : ads (putO ω j (D, o')) = ads ω := ads_put ho
  have hh : Same (hid (ads ω) H) (hid (ads ω) H') := fun b x h => by
    obtain ⟨n, e⟩ := hid_out h
    exact hid_of n (kept b x (fun z => n (by rw [z]; exact List.mem_append_right _ am)) e)
  refine ⟨⟨fun b x h n _ => kept b x (fun z => n (by rw [z]; exact am)) h, fun a h => .inl (by rw [osA_put ho] at h; exact h), rfl, fun t => ?_⟩, ⟨rl.len, fun i r h => ?_, fun z x h => ?_, ?_, fun z h hz => ?_⟩⟩
  · intro q hq
    obtain ⟨ps, a1, a2, a3⟩ := t q hq
    refine ⟨ps, kept _ _ (fun z => nt ps (by rw [z, e0] at a1; exact Option.some.inj a1)) a1, a2, fun p' cv hc => ?_⟩
    obtain ⟨c0, b1, b2⟩ := a3 p' cv hc
    exact ⟨c0, b1, kept _ _ (fun z => nc _ _ (by rw [z, e0] at b2; exact Option.some.inj b2)) b2⟩
  · obtain ⟨v, h1, h2⟩ := rl.sl i r h
    rw [aw]
    exact ⟨v, h1, sdv_mono hh h2⟩
  · rw [aw]
    obtain ⟨i, hi⟩ := List.mem_iff_getElem?.mp h
    replace hi : (ω.os.set j (D, o'))[i]? = some (z, x) := hi
    by_cases e : j = i
    · subst e
      rw [List.getElem?_set_self (List.getElem?_eq_some_iff.mp ho).1] at hi
      cases hi
      exact new
    · rw [List.getElem?_set_ne e] at hi
      have na : z ≠ D := fun zz => by
        subst zz
        refine e ((List.getElem?_inj (l := ω.os.map (·.1)) (by rw [List.length_map]; exact (List.getElem?_eq_some_iff.mp ho).1) rl.ro.nd).mp ?_)
        rw [List.getElem?_map, List.getElem?_map, ho, hi]
        rfl
      have g := rl.ro.ob z x (List.mem_of_getElem? hi)
      exact odv_keep (fun w => sdv_mono hh w) (fun u _ g1 => kept _ _ na g1) g
  · show (osA (putO ω j (D, o'))).Nodup
    rw [osA_put ho]
    exact rl.ro.nd
  · have hn := rl.ro.th z h
    by_cases za : z = D
    · have g := odv_some new
      rw [za] at hz
      exact g hz
    · cases e : H z with
      | none => exact hn e
      | some u =>
        rw [kept z u za e] at hz
        cases hz
def YE (X : Cx) (T : List (Addr × Str)) (δ : De) (ω : Om) (e : Expr) (d : PyData) (ω' : Om) : Prop := ∀ σ H, Rl X.K H σ δ ω → LamX.Tabs T H → ∀ Q : VK, (∀ v H', Stp T ω ω' H H' → Rl X.K H' σ δ ω' → Dp X.K (hid (ads ω') H') v d → Q v H') → wpe X e σ H Q
def YT (X : Cx) (T : List (Addr × Str)) (δ : De) (ω : Om) (e : Expr) (k : Bool) (ω' : Om) : Prop := ∀ σ H, Rl X.K H σ δ ω → LamX.Tabs T H → ∀ Q : Bool → Hp → Prop, (∀ H', Stp T ω ω' H H' → Rl X.K H' σ δ ω' → Q k H') → wpt X e σ H Q
section
variable {X : Cx} {W : WX} {T : List (Addr × Str)} {δ : De} {ω ω1 ω2 : Om} {a b c e : Expr} {es r : List Expr} {d da db dz : PyData} {ds : List PyData} {pos p : Pos} {k x y : Bool} {R : Out → Prop} {ss sa sb : List Stmt}
theorem YE.eq (h : YE X T δ ω e d ω1) (q : d = dz) : YE X T δ ω e dz ω1 := q ▸ h
theorem PTd.x2 (h : PTd X δ ω e k) : YT X T δ ω e k ω := fun σ H rl t Q q => h σ H rl Q fun H' s => q H' (.of s) (rl.mono s)
end
section
variable {X : Cx} {CX : CXT} {k : Nat} {f C : Addr} {fd : FuncData} {ps : List Str} {sp : Sp} {E : L2.St → XK} {x m : Str} {p pos apos : Pos} {e o : Expr} {es : List Expr} {ta : TE} {t : TA}
def tMethS (C : Addr) (m : Str) (sp : Sp) (E : L2.St → XK) (ta : TE) (t : TA) : TE := fun σ H Q => ta σ H fun v H1 => ∃ a dx fs, v = .ref a ∧ H1 a = some (.ins C dx fs) ∧ fs.lookup m = none ∧ t σ H1 fun vs H2 => sp (.ref a :: vs) H2 Q (E σ)
/-- what x.m(..) is to be evaluated as -/
abbrev MthAs (X : Cx) (o : Expr) (m : Str) (apos pos : Pos) (es : List Expr) (pl : Sem Bool) : Prop :=
  eval (.Call (.Attribute o m apos) es [] pos) X.env = eval o X.env >>= fun ov => standAt apos.atName >>= fun _ => holding [ov] (getMethod ov m pl) >>= fun p =>
    callWith pos p.1 p.2 (backTo pos (starEach es X.env)) (backToKw pos (keywordEach [] X.env))
/-- the method found, its call is left -/
theorem mth_found {pl : Sem Bool} {pins : List (Addr × Obj)} {s : Shared} {σ : L2.St} {H : Hp} {P : Addr → Hp → Prop} {Q : Value → Shared → Prop} (I : Inv X pins σ H s) (he : PE X o ta) (c : Cls X.K C) (hm : Meth X.K C m f) (ht : MthAs X o m apos pos es pl)
    (h : ta σ H fun v H1 => ∃ a dx fs, v = .ref a ∧ H1 a = some (.ins C dx fs) ∧ fs.lookup m = none ∧ P a H1)
    (k : ∀ a s1 H1, Inv X pins σ H1 s1 → P a H1 → wpAny (model X.prog X.w) X.A (callWith pos (.ref f) [.ref a] (backTo pos (starEach es X.env)) (backToKw pos (keywordEach [] X.env))) Q X.xe s1) :
    wpAny (model X.prog X.w) X.A (eval (.Call (.Attribute o m apos) es [] pos) X.env) Q X.xe s := by
  refine PySem.W.methodCall_KW (pl := pl) (thn (he.run pins s σ H _ I h) ?_) ht
  rintro v s1 ⟨_, H1, I1, r, a, dx, fs, rfl, at_, own, p⟩
  cases show v = Value.ref a from r
  exact getmeth_ok I1 at_ c hm own (k a s1 H1 I1 p)
theorem pe_mthS {pl : Sem Bool} (he : PE X o ta) (c : Cls X.K C) (hm : Meth X.K C m f) (F : FnOk X.prog X.w X.K X.mg X.base CX k f fd ps sp) (hr : Room k X.A) (hb : L2.Binds X.K fd ps []) (hx : ∀ σ, PassesAt CX X σ (E σ)) (ha : PA X (e :: es) t)
    (hst : starEach (e :: es) X.env = (false, eval e X.env) :: starEach es X.env := by rfl) (hpl : (backTo pos (starEach es X.env)).any (·.1) = false := by rfl) (ht : MthAs X o m apos pos (e :: es) pl := by rfl) :
    PE X (.Call (.Attribute o m apos) (e :: es) [] pos) (tMethS C m sp E ta t) :=
  ⟨fun pins s σ H Q I h => mth_found I he c hm ht h fun a s1 H1 I1 told =>
    PySem.W.callWith_K (first := [.ref a]) (h₀ := X.base) I1.ok.mod.kin hm.kp (thn (ha.run pos pins s1 σ H1 _ I1 told) fun us _ ⟨vs, _, I2, r, q⟩ => ⟨I2.kIn, run_fnS (us := .ref a :: us) (vs := .ref a :: vs) F hr hb (hx σ) I2 (.cons rfl r) q⟩) hst hpl⟩
theorem pe_mthS0 {pl : Sem Bool} (he : PE X o ta) (c : Cls X.K C) (hm : Meth X.K C m f) (F : FnOk X.prog X.w X.K X.mg X.base CX k f fd ps sp) (hr : Room k X.A) (hb : L2.Binds X.K fd ps []) (hx : ∀ σ, PassesAt CX X σ (E σ)) (ht : MthAs X o m apos pos [] pl := by rfl) :
    PE X (.Call (.Attribute o m apos) [] [] pos) (tMethS C m sp E ta tNil) :=
  ⟨fun _ _ σ _ _ I h => mth_found I he c hm ht h fun a _ _ I1 q => PySem.W.callWith_K0 (first := [.ref a]) I1.kIn hm.kp (run_fnS (us := [.ref a]) (vs := [.ref a]) F hr hb (hx σ) I1 (.cons rfl .nil) q)⟩
end
section
variable {X : Cx} {W : WX} {T : List (Addr × Str)} {δ : De} {ω : Om} {e : Expr} {es : List Expr} {d : PyData} {ds : List PyData} {pos p p1 apos : Pos} {R : Out → Prop} {ss : List Stmt} {a C : Addr} {fs fs' : Fs} {f x m : Str} {k : Nat}
theorem at_mem {os : List (Addr × Od)} {j : Nat} {q : Addr × Od} (h : os[j]? = some q) : q ∈ os := List.mem_of_getElem? h
/-- a new object -/
def NW (X : Cx) (T : List (Addr × Str)) (δ : De) (ω : Om) (e : Expr) (o : Od) : Prop := ∀ σ H, Rl X.K H σ δ ω → LamX.Tabs T H → ∀ Q : VK, (∀ D H', Stp T ω (omD ω D o) H H' → Rl X.K H' σ δ (omD ω D o) → Q (.ref D) H') → wpe X e σ H Q
theorem stp_new {H H' : Hp} {D : Addr} {o : Od} (s : Same H H') (n : H D = none) : Stp T ω (omD ω D o) H H' := ⟨fun b o h _ _ => s b o h, fun a h => by
  rcases List.mem_cons.mp (show a ∈ D :: ω.os.map (·.1) from h) with z | z
  · exact .inr fun o ho => by
      rw [z, n] at ho
      cases ho
  · exact .inl z, rfl, fun t => t.ext s⟩
theorem PN.nw (he : PN X δ ω e ds) : NW X T δ ω e (.lst (ds.map .im)) := fun σ H rl t Q k => he σ H rl _ fun q vs H' s n hv dv =>
  k q H' (stp_new s n) (rl.omD n s hv (dpam (hid_more fun b h => List.mem_cons.mpr (ads_omD.mp h)) dv))
theorem make_end {H1 : Hp} {σ : L2.St} {vs : List V} {fr : Fs → List PyData → Rs → Fs → Prop} {z dx : Addr} {Q : VK} (rl1 : Rl X.K H1 σ δ ω) (nz : H1 z = none) (ndx : H1 dx = none) (d1 : DpAll X.K (hid (ads ω) H1) vs ds) (hf : fr [] ds (.ok .none) fs')
    (q : ∀ H', Stp T ω (omD ω z (.ins C (imF fs'))) H1 H' → Rl X.K H' σ δ (omD ω z (.ins C (imF fs'))) → Q (.ref z) H') :
    spW X.K C fr (V.ref z :: vs) (upd (upd H1 dx (.own z)) z (.ins C dx [])) (fun v H2 => v = .non ∧ Q (.ref z) H2) E0 := by
  have sm : Same H1 (upd (upd H1 dx (.own z)) z (.ins C dx [])) := fun b o h => by
    rw [upd_ne (ne_of_none h nz), upd_ne (ne_of_none h ndx)]
    exact h
  have nin : z ∉ ads ω := new_out rl1.ro.there nz
  refine ⟨ads ω, z, [], ds, .ok .none, fs', ⟨dx, [], vs, rfl, there_mono rl1.ro.there sm, upd_same, .nil, ?_⟩, hf, fun H' dx2 us2 kept l1 l2 v dv => ?_⟩
  · exact dpam (hid_new nz sm) d1
  · cases dv
    refine ⟨rfl, ?_⟩
    have kept1 : Same H1 H' := fun b o h => kept b o (ne_of_none h nz) (sm b o h)
    have l4 : Rl X.K H' σ δ (omD ω z (.ins C (imF fs'))) := by
      refine ⟨rl1.len, fun j r h => ?_, fun b o h => ?_, ?_, there_mono rl1.ro.th kept1⟩
      · obtain ⟨v, q1, q2⟩ := rl1.sl j r h
        exact ⟨v, q1, sdv_mono (hid_in nz kept1) q2⟩
      · rcases List.mem_cons.mp h with q | q
        · cases q
          exact ⟨dx2, us2, l1, of_fv (fv_mono (hid_more fun b hb => List.mem_cons.mpr (ads_omD.mp hb)) l2)⟩
        · exact odv_mono (hid_in nz kept1) kept1 (rl1.ro.ob b o q)
      · show (z :: ω.os.map (·.1)).Nodup
        exact List.nodup_cons.mpr ⟨fun q => nin (List.mem_append_right _ q), rl1.ro.nd⟩
    exact q H' (stp_new kept1 nz) l4
theorem nw_make0 {cn : Str} {g : Addr} {fd : FuncData} {ps : List Str} {fr : Fs → List PyData → Rs → Fs → Prop} (M : Mk X.K C g) (F : FnOk X.prog X.w X.K X.mg X.base (L2N.CX X.prog X.w) k g fd ps (spW X.K C fr)) (hb : L2.Binds X.K fd ps []) (hr : Room (k + 1) X.A) (hmC : X.mg cn = some (.ref C))
    (hf : fr [] [] (.ok .none) fs') (hg : Gl X cn := by rfl) (hdb : (cn == ("__debug__" : Str)) = false := by decide) :
    NW X T δ ω (.Call (.Name cn p) [] [] pos) (.ins C (imF fs')) := fun σ H rl t Q q =>
  we (pe_make0 M F hr hg hmC hb .nil passN hdb) (fun z dx nz ndx ne => make_end (T := T) rl nz ndx .nil hf fun H' st l => q z H' st l)
def AX (X : Cx) (T : List (Addr × Str)) (δ : De) (ω : Om) (es : List Expr) (R : List Sd → Om → Prop) : Prop := ∀ σ H, Rl X.K H σ δ ω → LamX.Tabs T H → ∀ Q : List V → Hp → Prop,
  (∀ rs ω' vs H', R rs ω' → Stp T ω ω' H H' → Rl X.K H' σ δ ω' → Paired (SdV X.K (hid (ads ω') H')) rs vs → Q vs H') → wpa X es σ H Q
theorem stp_sd {H H' : Hp} {ω1 ω2 : Om} {r : Sd} {v : V} (s : Stp T ω1 ω2 H H') (h : SdV X.K (hid (ads ω1) H) r v) : SdV X.K (hid (ads ω2) H') r v := by
  cases r with
  | im d => exact dp_ke s.seen d v h
  | ad a => exact h
theorem ax_nil {Z : List Sd → Om → Prop} (h : Z [] ω) : AX X T δ ω [] Z := fun σ H rl t Q k => wa pa_nil (k [] ω [] H h .refl rl .nil)
theorem ax_pd {Z : List Sd → Om → Prop} (he : PD X δ ω e d) (hr : AX X T δ ω es (fun rs ω' => Z (.im d :: rs) ω')) (hs : starEach (e :: es) X.env = (false, eval e X.env) :: starEach es X.env := by rfl) : AX X T δ ω (e :: es) Z := fun σ H rl t Q k =>
  wa (pa_cons pe_w pa_w hs) (he σ H rl _ fun v H1 s1 d1 => hr σ H1 (rl.mono s1) (t.ext s1) _ fun rs ω' vs H2 z st l pr => k _ ω' (v :: vs) H2 z ((Stp.of s1).trans st) l (.cons (stp_sd (X := X) (r := .im d) st d1) pr))
theorem ax_nw {Z : List Sd → Om → Prop} {o : Od} (he : NW X T δ ω e o) (hr : ∀ D, AX X T δ (omD ω D o) es (fun rs ω' => Z (.ad D :: rs) ω')) (hs : starEach (e :: es) X.env = (false, eval e X.env) :: starEach es X.env := by rfl) : AX X T δ ω (e :: es) Z := fun σ H rl t Q k =>
  wa (pa_cons pe_w pa_w hs) (he σ H rl t _ fun D H1 s1 l1 => hr D σ H1 l1 (s1.tab t) _ fun rs ω' vs H2 z st l pr => k _ ω' (.ref D :: vs) H2 z (s1.trans st) l (.cons (show V.ref D = V.ref D from rfl) pr))
/-- x, y, .. = a, b, .. by way of a tuple -/
def setS : De → List Nat → List Sd → De
  | δ, i :: is, d :: ds => setS (δ.set i (some d)) is ds
  | δ, _, _ => δ
theorem gAll_sd {K : PySem.W.Frag} {H : Hp} {ω : Om} {Q : L2.St → Hp → Prop} : ∀ {is : List Nat} {rs : List Sd} {vs : List V} {σ : L2.St} {δ : De}, Rl K H σ δ ω → Paired (SdV K (hid (ads ω) H)) rs vs → is.length = rs.length → (∀ σ', Rl K H σ' (setS δ is rs) ω → Q σ' H) → gAll is vs σ H Q
  | [], [], _, σ, δ, rl, .nil, _, k => ⟨rfl, k σ rl⟩
  | i :: is, d :: ds, v :: vs, σ, δ, rl, .cons h1 h2, hl, k => ⟨v, vs, rfl, gAll_sd (rl.set (x := d) h1) h2 (Nat.succ.inj hl) k⟩
theorem paired_len {α β : Type} {R : α → β → Prop} : ∀ {xs : List α} {ys : List β}, Paired R xs ys → ys.length = xs.length
  | _, _, .nil => rfl
  | _, _, .cons _ r => by rw [List.length_cons, List.length_cons, paired_len r]
theorem paired_mono {K : PySem.W.Frag} {H H' : Hp} (e : Same H H') : ∀ {xs : List Sd} {ys : List V}, Paired (SdV K H) xs ys → Paired (SdV K H') xs ys
  | _, _, .nil => .nil
  | _, _, .cons h r => .cons (sdv_mono e h) (paired_mono e r)
theorem sd_unpX (is : List Nat) {ts : List Expr} {n kk k2 : Nat} {p' pt2 : Pos} (ha : AX X T δ ω es (fun rs ω' => rs.length = n ∧ SD X W T ss (setS δ is rs) ω' R)) (hg : PG X (.Tuple ts kk p') (gTup X.K n (gAll is))) (hi : is.length = n) (hn : n ≤ 1000 := by decide)
    (hs : swapsWithSole [.Tuple ts kk p'] (.Tuple es k2 pt2) pos.line X.env = pure false := by rfl) (hw : swappedStores [.Tuple ts kk p'] (.Tuple es k2 pt2) X.env = pure none := by rfl) : SD X W T (.Assign [.Tuple ts kk p'] (.Tuple es k2 pt2) pos :: ss) δ ω R :=
  sd_cons fun σ H D rl t k => ws (ps_asg (pe_tup pa_w) hg hs hw) (ha σ H rl t _ fun rs ω' vs H1 z st l pr => by
    obtain ⟨hl, z⟩ := z
    have lv := paired_len pr
    refine ⟨Nat.le_of_lt (small1000 (by omega)), fun q hq => ?_⟩
    have sm : Same H1 (upd H1 q (.tup vs)) := same_new hq
    exact ⟨q, vs, rfl, SqT.of upd_same, by omega, gAll_sd (l.mono sm) (paired_mono (hid_same sm) pr) (by omega) fun σ' l' => k.nx _ ω' σ' _ z (st.trans (.of sm)) l'⟩)
end
end FP

namespace FP
open PySem PySem.Spec PyProof.Rows L2 HotX L2H
section
variable {X : Cx} {T : List (Addr × Str)} {δ : De} {ω : Om} {d : PyData} {pos p : Pos} {k : Nat}
end
end FP

namespace FP
open PySem PySem.Spec PyProof.Rows L2
section
variable {X : Cx} {δ : De} {ω : Om} {a b e : Expr} {d : PyData} {ds : List PyData} {pos p : Pos} {j k : Bool}
theorem PTd.eq (h : PTd X δ ω e k) (q : k = j) : PTd X δ ω e j := q ▸ h
theorem PWd.eq (h : PWd X δ ω e k) (q : k = j) : PWd X δ ω e j := q ▸ h
end
section
variable {X : Cx} {W : WX} {T : List (Addr × Str)} {δ : De} {ω : Om} {pos : Pos} {R : Out → Prop} {ss : List Stmt}
end
end FP

namespace FP
open PySem PySem.Spec PyProof.Rows L2
section
variable {X : Cx} {δ : De} {ω : Om} {a b e : Expr} {d : PyData} {ds : List PyData} {pos p : Pos} {j k : Bool} {y z : Str}
/-- a sign of a text -/
theorem pd_ixS {i : Int} {c : Nat} (ha : PD X δ ω a (.str z)) (hb : PD X δ ω b (.int i)) (hz : z.length ≤ 100000) (hi : atI z.cps.toList i = some c) (hs : PlainIx b := by exact fun _ _ => rfl) : PD X δ ω (.Subscript a b pos) (.str ⟨#[c]⟩) := fun σ H rl Q k =>
  we (pe_ix ix_str pe_w pe_w hs) (ha σ H rl _ fun x H1 s1 d1 => hb σ H1 (rl.mono s1) _ fun y H2 s2 d2 => by
    cases d1
    cases d2
    exact ⟨z, i, c, rfl, rfl, Nat.le_trans hz (by rw [sizeLine_eq]; decide), hi, k _ H2 (s1.trans s2) (.str _)⟩)
/-- a text's part -/
theorem pd_slS {lo hi : Option Expr} {i j : Option Int} {p2 : Pos} (ha : PD X δ ω a (.str z)) (hl : PO1 X δ ω lo i) (hh : PO1 X δ ω hi j) (hz : z.length ≤ 100000) : PD X δ ω (.Subscript a (.Slice lo hi none p2) pos) (.str (cutS z i j)) := fun σ H rl Q k =>
  we (pe_slice sl_str pe_w po_w po_w) (ha σ H rl _ fun v H1 s1 d1 => po_run hl σ H1 (rl.mono s1) _ fun H2 s2 => po_run hh σ H2 (rl.mono (s1.trans s2)) _ fun H3 s3 => by
    cases d1
    exact ⟨z, rfl, Nat.le_trans hz (by rw [sizeLine_eq]; decide), k _ H3 ((s1.trans s2).trans s3) (.str _)⟩)
theorem join_ones : ∀ cs : List Nat, Str.join (Str.ofString "") (cs.map fun c => (⟨#[c]⟩ : Str)) = ⟨cs.toArray⟩
  | [] => rfl
  | [c] => rfl
  | c :: e :: r => by
    have ih := join_ones (e :: r)
    show (⟨#[c]⟩ : Str) ++ Str.ofString "" ++ Str.join (Str.ofString "") ((e :: r).map fun c => (⟨#[c]⟩ : Str)) = _
    rw [ih]
    refine TL.ext_tl ?_
    rw [TL.tl_append, TL.tl_append]
    have e0 : TL.tl (Str.ofString "") = [] := by decide +kernel
    rw [e0]
    show [c] ++ [] ++ ((e :: r).toArray).toList = ((c :: e :: r).toArray).toList
    simp
theorem glued_ones (cs : List Nat) : Txt.join (Str.ofString "") (cs.map fun c => (⟨#[c]⟩ : Str)) = ⟨cs.toArray⟩ := by
  rw [TL.join_eq, join_ones]
end
end FP

namespace FP
open PySem PySem.Spec PyProof.Rows L2
section
variable {X : Cx} {δ : De} {ω : Om} {a b e tg : Expr} {d : PyData} {ds : List PyData} {pos p : Pos} {j k : Bool} {y z : Str}
theorem PN.eq {dt : List PyData} (h : PN X δ ω e ds) (q : ds = dt) : PN X δ ω e dt := q ▸ h
end
end FP

namespace FP
open PySem PySem.Spec PyProof.Rows L2
abbrev Os := List (Addr × Od)
inductive Rg where
  | ok (r : Sd)
  | er (C : Addr)
abbrev FrG := Os → List Sd → (Rg → Os → Prop) → Prop
def RgQ (K : PySem.W.Frag) (ps : List Addr) (os' : Os) (H' : Hp) (Q : VK) (E : XK) : Rg → Prop
  | .ok r => ∀ v, SdV K (hid (ads ⟨ps, os'⟩) H') r v → Q v H'
  | .er Z => E (.ref Z) none H'
def spG (K : PySem.W.Frag) (fr : FrG) : Sp := fun vs H Q E => ∃ (ps : List Addr) (os : Os) (as : List Sd) (R : Rg → Os → Prop), Ro K H ⟨ps, os⟩ ∧ Paired (SdV K (hid (ads ⟨ps, os⟩) H)) as vs ∧ fr os as R ∧
  ∀ r os' H', R r os' → (∀ b o, H b = some o → b ∉ os.map (·.1) → H' b = some o) → (∀ a ∈ os'.map (·.1), a ∈ os.map (·.1) ∨ H a = none) → Ro K H' ⟨ps, os'⟩ → RgQ K ps os' H' Q E r
structure GOk (P : Program) (w : World) (K : PySem.W.Frag) (mg : Str → Option Value) (base : Heap) (k : Nat) (x : Str) (fr : FrG) : Prop where
  ex : ∃ f fd ps, FnOk P w K mg base (L2N.CX P w) k f fd ps (spG K fr) ∧ mg x = some (.ref f) ∧ PySem.W.keepIn K (.ref f) = true ∧ L2.Binds K fd ps []
/-- a method -/
structure GMOk (P : Program) (w : World) (K : PySem.W.Frag) (mg : Str → Option Value) (base : Heap) (k : Nat) (C : Addr) (m : Str) (fr : FrG) : Prop where
  ex : ∃ f fd ps, FnOk P w K mg base (L2N.CX P w) k f fd ps (spG K fr) ∧ Meth K C m f ∧ L2.Binds K fd ps []
theorem GOk.mono {P : Program} {w : World} {K : PySem.W.Frag} {mg : Str → Option Value} {base : Heap} {j k : Nat} {x : Str} {fr : FrG} (G : GOk P w K mg base j x fr) (h : j ≤ k) : GOk P w K mg base k x fr := by
  obtain ⟨f, fd, ps, F, m, kp, b⟩ := G.ex
  exact ⟨f, fd, ps, F.mono h, m, kp, b⟩
theorem GMOk.mono {P : Program} {w : World} {K : PySem.W.Frag} {mg : Str → Option Value} {base : Heap} {j k : Nat} {C : Addr} {m : Str} {fr : FrG} (G : GMOk P w K mg base j C m fr) (h : j ≤ k) : GMOk P w K mg base k C m fr := by
  obtain ⟨f, fd, ps, F, m, b⟩ := G.ex
  exact ⟨f, fd, ps, F.mono h, m, b⟩
def startG (N : List Str) (as : List Sd) : De := as.map some ++ List.replicate (N.length - as.length) none
theorem paired_get {α β : Type} {R : α → β → Prop} : ∀ {xs : List α} {ys : List β} {i : Nat} {x : α}, Paired R xs ys → xs[i]? = some x → ∃ y, ys[i]? = some y ∧ R x y
  | _, _, _, _, .nil, h => by simp at h
  | _, _, 0, _, .cons a r, h => by
    simp at h
    subst h
    exact ⟨_, rfl, a⟩
  | _, _, i + 1, x, .cons a r, h => by
    obtain ⟨y, h1, h2⟩ := paired_get (i := i) (x := x) r (by simpa using h)
    exact ⟨y, by simpa using h1, h2⟩
theorem startG_rl {K : PySem.W.Frag} {H : Hp} {ω : Om} {N : List Str} {as : List Sd} {vs : List V} (ro : Ro K H ω) (h : Paired (SdV K (hid (ads ω) H)) as vs) : Rl K H (L2.start N vs) (startG N as) ω := by
  have hl := paired_len h
  refine ⟨?_, fun i r hi => ?_, ro⟩
  · unfold L2.start startG
    rw [List.length_append, List.length_append, List.length_map, List.length_map, List.length_replicate, List.length_replicate, hl]
  · unfold startG at hi
    by_cases hlt : i < as.length
    · rw [List.getElem?_append_left (by rw [List.length_map]; exact hlt), List.getElem?_map, List.getElem?_eq_getElem hlt] at hi
      cases hi
      obtain ⟨v, h1, h2⟩ := paired_get h (List.getElem?_eq_getElem hlt)
      refine ⟨v, ?_, h2⟩
      unfold L2.start
      rw [List.getElem?_append_left (by rw [List.length_map, hl]; exact hlt), List.getElem?_map, h1]
      rfl
    · rw [List.getElem?_append_right (by rw [List.length_map]; omega)] at hi
      obtain ⟨h1, h2⟩ := List.getElem?_eq_some_iff.mp hi
      rw [List.getElem_replicate] at h2
      cases h2
/-- how such a def may end -/
def FinG (R : Rg → Os → Prop) : Out → Prop
  | .rt r ω => R (.ok r) ω.os
  | .nx _ ω => R (.ok (.im .none)) ω.os
  | .ex Z ω => R (.er Z) ω.os
  | _ => False
section
variable {P : Program} {w : World} {K : PySem.W.Frag} {mg : Str → Option Value} {base : Heap} {x qual : Str} {params : Arguments} {body : List Stmt} {scope : Scope} {kws : List (Str × V)} {f C : Addr} {fd : FuncData} {N ps : List Str} {k : Nat} {fr : FrG}
theorem g_run (F : FunD K x qual params body scope [] kws f fd) (S : FnScope N ps scope)
    (len : ∀ os as R, fr os as R → as.length = ps.length)
    (hbody : ∀ (cdv : Value) (A : Around) (outer : List Env) (s : Shared) (H : Hp) (E : XK) (qs : List Addr) (os : Os) (as : List Sd) (R : Rg → Os → Prop), Room k (A.deeper (envOfC qual scope s.heap.objs.size f cdv)) → fr os as R →
      SD (cxOf (L2N.CX P w) P w K mg base N qual scope f cdv A outer s H E) (WOf E) [] body (startG N as) ⟨qs, os⟩ (FinG R)) : FnOk P w K mg base (L2N.CX P w) (k + 1) f fd ps (spG K fr) := by
  refine F.ok S (fun vs H Q E h => ?_) (fun cdv A outer s H vs Q E hr h => ?_)
  · obtain ⟨qs, os, as, R, h1, h2, h3, _⟩ := h
    rw [paired_len h2]
    exact len os as R h3
  · obtain ⟨qs, os, as, R, h1, h2, h3, h4⟩ := h
    refine ⟨_, pss_w, hbody cdv A outer s H E qs os as R hr h3 _ _ _ (startG_rl h1 h2) (fun _ z => nomatch z) ?_⟩
    have kept : ∀ {ω' : Om} {H' : Hp}, Stp [] ⟨qs, os⟩ ω' H H' → ∀ b o, H b = some o → b ∉ os.map (·.1) → H' b = some o := fun {ω' H'} st b o e nb => st.keep b o e nb (.inl rfl)
    have newA : ∀ {ω' : Om} {H' : Hp}, Stp [] ⟨qs, os⟩ ω' H H' → ∀ a ∈ ω'.os.map (·.1), a ∈ os.map (·.1) ∨ H a = none := fun {ω' H'} st a ha => by
      rcases st.new a ha with q | q
      · exact .inl q
      · cases e : H a with
        | none => exact .inr rfl
        | some o => exact absurd (.inl rfl) (q o e)
    have eqo : ∀ {ω' : Om} {H' : Hp}, Stp [] ⟨qs, os⟩ ω' H H' → (⟨qs, ω'.os⟩ : Om) = ω' := fun {ω' H'} st => by
      obtain ⟨a, b⟩ := ω'
      have := st.ps
      simp only at this
      subst this
      rfl
    refine ⟨fun δ' ω' σ' H' z st l => ?_, fun r' ω' v H' z st l dv => ?_, fun Z ω' σ' H' z st l => ?_, fun _ _ _ _ z => False.elim z, fun _ _ _ _ z => False.elim z⟩
    · exact h4 _ _ H' z (kept st) (newA st) (by rw [eqo st]; exact l.ro) .non .non
    · exact h4 _ _ H' z (kept st) (newA st) (by rw [eqo st]; exact l) v (by rw [eqo st]; exact dv)
    · exact h4 _ _ H' z (kept st) (newA st) (by rw [eqo st]; exact l)
theorem gm_ok (F : FunD K x qual params body scope [] kws f fd) (hm : Meth K C x f) (S : FnScope N ps scope) (hb : ∀ (kV doc pm : Value) (an : Option Addr) (cdv ct : Value) (us : List Value), us.length = ps.length → bindArgs (PySem.W.fnOf x qual params body scope .none kV doc pm an cdv ct) ⟨us, []⟩ = pure (ps.zip us))
    (len : ∀ os as R, fr os as R → as.length = ps.length)
    (hbody : ∀ (cdv : Value) (A : Around) (outer : List Env) (s : Shared) (H : Hp) (E : XK) (qs : List Addr) (os : Os) (as : List Sd) (R : Rg → Os → Prop), Room k (A.deeper (envOfC qual scope s.heap.objs.size f cdv)) → fr os as R →
      SD (cxOf (L2N.CX P w) P w K mg base N qual scope f cdv A outer s H E) (WOf E) [] body (startG N as) ⟨qs, os⟩ (FinG R)) : GMOk P w K mg base (k + 1) C x fr := ⟨f, fd, ps, g_run F S len hbody, hm, F.bindsN hb⟩
end
def PS1 (X : Cx) (δ : De) (ω : Om) (e : Expr) (r : Sd) : Prop := ∀ σ H, Rl X.K H σ δ ω → ∀ Q : VK, (∀ v H', Same H H' → SdV X.K (hid (ads ω) H') r v → Q v H') → wpe X e σ H Q
def PSs (X : Cx) (δ : De) (ω : Om) (es : List Expr) (rs : List Sd) : Prop := ∀ σ H, Rl X.K H σ δ ω → ∀ Q : List V → Hp → Prop, (∀ vs H', Same H H' → Paired (SdV X.K (hid (ads ω) H')) rs vs → Q vs H') → wpa X es σ H Q
section
variable {X : Cx} {W : WX} {T : List (Addr × Str)} {δ : De} {ω : Om} {e : Expr} {es : List Expr} {d : PyData} {r : Sd} {rs : List Sd} {pos p p1 apos : Pos} {R : Out → Prop} {ss : List Stmt} {a C : Addr} {x m : Str} {k : Nat} {fr : FrG}
theorem PD.ps1 (h : PD X δ ω e d) : PS1 X δ ω e (.im d) := h
theorem ps1_var (i : Nat) {a : Addr} (hd : δ[i]? = some (some (.ad a)) := by rfl) (hN : X.N[i]? = some x := by rfl) (hv : Vis X.env.scope x := by first | exact Or.inl rfl | exact Or.inr (Or.inl rfl) | exact Or.inr (Or.inr rfl))
    (h1 : (x == ("__debug__" : Str)) = false := by decide) (h2 : (x == ("__classdict__" : Str)) = false := by decide) : PS1 X δ ω (.Name x pos) (.ad a) := fun σ H rl Q k => by
  obtain ⟨v, e1, e2⟩ := rl.sl i _ hd
  exact we (pe_var hN hv h1 h2) ⟨v, e1, k v H (Same.refl H) e2⟩
theorem pss1_nil : PSs X δ ω [] [] := fun σ H _ Q k => wa pa_nil (k [] H (Same.refl H) .nil)
theorem pss1_cons (ha : PS1 X δ ω e r) (hr : PSs X δ ω es rs) (hs : starEach (e :: es) X.env = (false, eval e X.env) :: starEach es X.env := by rfl) : PSs X δ ω (e :: es) (r :: rs) := fun σ H rl Q k =>
  wa (pa_cons pe_w pa_w hs) (ha σ H rl _ fun v H1 s1 d1 => hr σ H1 (rl.mono s1) _ fun vs H2 s2 d2 => k (v :: vs) H2 (s1.trans s2) (.cons (sdv_mono (hid_same s2) d1) d2))
/-- the rest is kept aside -/
theorem ads_part {ps : List Addr} {os rest : Os} {H : Hp} : hid (ads ⟨ps ++ rest.map (·.1), os⟩) H = hid (ads ⟨ps, os ++ rest⟩) H := by
  funext b
  unfold hid
  have e : b ∈ ads ⟨ps ++ rest.map (·.1), os⟩ ↔ b ∈ ads ⟨ps, os ++ rest⟩ := by
    show b ∈ (ps ++ rest.map (·.1)) ++ os.map (·.1) ↔ b ∈ ps ++ (os ++ rest).map (·.1)
    simp only [List.map_append, List.mem_append]
    constructor
    · rintro ((h | h) | h)
      · exact .inl h
      · exact .inr (.inr h)
      · exact .inr (.inl h)
    · rintro (h | h | h)
      · exact .inl (.inl h)
      · exact .inr h
      · exact .inl (.inr h)
  by_cases h : b ∈ ads ⟨ps ++ rest.map (·.1), os⟩
  · rw [if_pos h, if_pos (e.mp h)]
  · rw [if_neg h, if_neg (fun z => h (e.mpr z))]
theorem ro_part {K : PySem.W.Frag} {H : Hp} {ps : List Addr} {os rest : Os} (ro : Ro K H ⟨ps, os ++ rest⟩) : Ro K H ⟨ps ++ rest.map (·.1), os⟩ := by
  refine ⟨fun a o h => ?_, ?_, fun a h => ?_⟩
  · rw [ads_part]
    exact ro.ob a o (List.mem_append_left _ h)
  · have nd : ((os ++ rest).map (·.1)).Nodup := ro.nd
    rw [List.map_append] at nd
    exact (List.nodup_append.mp nd).1
  · rcases List.mem_append.mp h with h | h
    · exact ro.th a h
    · obtain ⟨q, hq, rfl⟩ := List.mem_map.mp h
      exact odv_some (ro.ob q.1 q.2 (List.mem_append_right _ hq))
theorem callG_end {H : Hp} {σ : L2.St} {vs : List V} {Q : VK} {Rr : Rg → Os → Prop} {ps : List Addr} {os rest : Os} (rl : Rl X.K H σ δ ⟨ps, os ++ rest⟩) (d1 : Paired (SdV X.K (hid (ads ⟨ps, os ++ rest⟩) H)) rs vs) (hf : fr os rs Rr)
    (hk : ∀ r os' H', Rr r os' → Stp T ⟨ps, os ++ rest⟩ ⟨ps, os' ++ rest⟩ H H' → Rl X.K H' σ δ ⟨ps, os' ++ rest⟩ → match r with | .ok r => ∀ v, SdV X.K (hid (ads ⟨ps, os' ++ rest⟩) H') r v → Q v H' | .er Z => W (.ref Z) none σ H') : spG X.K fr vs H Q (WE W σ) := by
  refine ⟨ps ++ rest.map (·.1), os, rs, Rr, ro_part rl.ro, ?_, hf, fun r os' H' hR kept new ro' => ?_⟩
  · rw [ads_part]
    exact d1
  · have nd : (os.map (·.1) ++ rest.map (·.1)).Nodup := by
      have z : ((os ++ rest).map (·.1)).Nodup := rl.ro.nd
      rw [List.map_append] at z
      exact z
    have dis : ∀ b, b ∈ rest.map (·.1) → b ∉ os.map (·.1) := fun b hb hz => (List.nodup_append.mp nd).2.2 b hz b hb rfl
    have seen : Same (hid (ads ⟨ps, os ++ rest⟩) H) (hid (ads ⟨ps, os' ++ rest⟩) H') := fun b o h => by
      obtain ⟨n, e⟩ := hid_out h
      have nos : b ∉ os.map (·.1) := fun z => n (List.mem_append_right _ (by rw [List.map_append]; exact List.mem_append_left _ z))
      refine hid_of (fun z => ?_) (kept b o e nos)
      rcases List.mem_append.mp z with z | z
      · exact n (List.mem_append_left _ z)
      · have z : b ∈ (os' ++ rest).map (·.1) := z
        rw [List.map_append] at z
        rcases List.mem_append.mp z with z | z
        · rcases new b z with q | q
          · exact nos q
          · rw [q] at e
            cases e
        · exact n (List.mem_append_right _ (by rw [List.map_append]; exact List.mem_append_right _ z))
    have noT : ∀ b u, b ∈ os.map (·.1) → H b = some u → (∀ ps, u ≠ .tbl ps) ∧ ∀ c q, u ≠ LamX.CodeO c q := fun b u hb hu => by
      obtain ⟨q, hq, rfl⟩ := List.mem_map.mp hb
      obtain ⟨u', e', n1, n2⟩ := odv_at (rl.ro.ob q.1 q.2 (List.mem_append_left _ hq))
      rw [e'] at hu
      cases hu
      exact ⟨n1, n2⟩
    have st : Stp T ⟨ps, os ++ rest⟩ ⟨ps, os' ++ rest⟩ H H' := by
      refine ⟨fun b o e n _ => kept b o e (fun z => n (by show b ∈ (os ++ rest).map (·.1); rw [List.map_append]; exact List.mem_append_left _ z)), fun a ha => ?_, rfl, fun t => ?_⟩
      · have ha : a ∈ (os' ++ rest).map (·.1) := ha
        rw [List.map_append] at ha
        rcases List.mem_append.mp ha with z | z
        · rcases new a z with q | q
          · exact .inl (by show a ∈ (os ++ rest).map (·.1); rw [List.map_append]; exact List.mem_append_left _ q)
          · exact .inr fun o ho => by
              rw [q] at ho
              cases ho
        · exact .inl (by show a ∈ (os ++ rest).map (·.1); rw [List.map_append]; exact List.mem_append_right _ z)
      · intro q hq
        obtain ⟨qs, a1, a2, a3⟩ := t q hq
        refine ⟨qs, kept _ _ a1 (fun z => (noT _ _ z a1).1 qs rfl), a2, fun p' cv hc => ?_⟩
        obtain ⟨c0, b1, b2⟩ := a3 p' cv hc
        exact ⟨c0, b1, kept _ _ b2 (fun z => (noT _ _ z b2).2 _ _ rfl)⟩
    have l3 : Rl X.K H' σ δ ⟨ps, os' ++ rest⟩ := by
      refine ⟨rl.len, fun i r h => ?_, fun a o h => ?_, ?_, fun a ha => ?_⟩
      · obtain ⟨v, h1, h2⟩ := rl.sl i r h
        exact ⟨v, h1, sdv_mono seen h2⟩
      · rcases List.mem_append.mp (show (a, o) ∈ os' ++ rest from h) with q | q
        · have g := ro'.ob a o q
          rw [ads_part] at g
          exact g
        · have na : a ∉ os.map (·.1) := dis a (List.mem_map.mpr ⟨_, q, rfl⟩)
          exact odv_keep (fun w => sdv_mono seen w) (fun u _ g1 => kept a u g1 na) (rl.ro.ob a o (List.mem_append_right _ q))
      · show ((os' ++ rest).map (·.1)).Nodup
        rw [List.map_append]
        refine List.nodup_append.mpr ⟨ro'.nd, (List.nodup_append.mp nd).2.1, fun b hb c hc e => ?_⟩
        subst e
        rcases new b hb with q | q
        · exact dis b hc q
        · obtain ⟨z, hz, rfl⟩ := List.mem_map.mp hc
          exact odv_some (rl.ro.ob z.1 z.2 (List.mem_append_right _ hz)) q
      · exact ro'.th a (List.mem_append_left _ ha)
    have fin := hk r os' H' hR st l3
    cases r with
    | ok r =>
      intro v hv
      rw [ads_part] at hv
      exact fin v hv
    | er Z => exact fin
/-- another order of what is one's own -/
theorem sd_perm {ps : List Addr} {os os' : Os} (hp : os.Perm os') (h : SD X W T ss δ ⟨ps, os'⟩ R) : SD X W T ss δ ⟨ps, os⟩ R := fun σ H D rl t k => by
  have hm : ∀ q, q ∈ os ↔ q ∈ os' := fun q => hp.mem_iff
  have hma : ∀ b, b ∈ os.map (·.1) ↔ b ∈ os'.map (·.1) := fun b => (hp.map _).mem_iff
  have hh : hid (ads ⟨ps, os⟩) H = hid (ads ⟨ps, os'⟩) H := by
    funext b
    unfold hid
    have e : b ∈ ads ⟨ps, os⟩ ↔ b ∈ ads ⟨ps, os'⟩ := by
      show b ∈ ps ++ os.map (·.1) ↔ b ∈ ps ++ os'.map (·.1)
      rw [List.mem_append, List.mem_append, hma]
    by_cases h : b ∈ ads ⟨ps, os⟩
    · rw [if_pos h, if_pos (e.mp h)]
    · rw [if_neg h, if_neg (fun z => h (e.mpr z))]
  refine h σ H D ⟨rl.len, fun i r hi => ?_, fun z o hz => ?_, ?_, rl.ro.th⟩ t (k.step ⟨fun b o e _ _ => e, fun a ha => .inl ((hma a).mpr ha), rfl, fun t => t⟩)
  · obtain ⟨v, h1, h2⟩ := rl.sl i r hi
    rw [hh] at h2
    exact ⟨v, h1, h2⟩
  · have g := rl.ro.ob z o ((hm _).mpr hz)
    rw [hh] at g
    exact g
  · exact (hp.map _).nodup rl.ro.nd
end
end FP

namespace FP
open PySem PySem.Spec PyProof.Rows L2
abbrev KvP (K : PySem.W.Frag) (H : Hp) : List (Key × Sd) → List (Key × V) → Prop := Paired (fun (p : Key × Sd) (q : Key × V) => p.1 = q.1 ∧ SdV K H p.2 q.2)
section
variable {K : PySem.W.Frag} {H H' : Hp}
theorem paired_snoc {α β : Type} {R : α → β → Prop} {x : α} {y : β} (h : R x y) : ∀ {xs : List α} {ys : List β}, Paired R xs ys → Paired R (xs ++ [x]) (ys ++ [y])
  | _, _, .nil => .cons h .nil
  | _, _, .cons a b => .cons a (paired_snoc h b)
end
section
variable {X : Cx} {W : WX} {T : List (Addr × Str)} {δ : De} {ω : Om} {b e o : Expr} {es : List Expr} {d : PyData} {ds : List PyData} {r : Sd} {pos p p1 sp : Pos} {R : Out → Prop} {ss : List Stmt} {a c : Addr} {x : Str} {kvs : List (Key × Sd)} {z : Str}
theorem PS1.ex (h : PS1 X δ ω e r) (hR : R (.rt r ω)) : EX X W T e δ ω R := fun σ H rl t Q q _ => h σ H rl Q fun v H' s dv => q _ ω v H' hR (.of s) (rl.mono s) dv
theorem NW.ex {ob : Od} (h : NW X T δ ω e ob) (hR : ∀ D, R (.rt (.ad D) (omD ω D ob))) : EX X W T e δ ω R := fun σ H rl t Q q _ => h σ H rl t Q fun D H' st l => q _ _ _ H' (hR D) st l rfl
variable {trs : List (TE × TE)} {Z : List (Key × Sd) → Om → Prop} {jk : Nat} {kp : Pos}
end
end FP

namespace FP
open PySem PySem.Spec PyProof.Rows L2
section
variable {X : Cx} {W : WX} {T : List (Addr × Str)} {δ : De} {ω : Om} {a b e o : Expr} {es : List Expr} {d : PyData} {ds : List PyData} {r : Sd} {pos p p1 sp : Pos} {R : Out → Prop} {ss : List Stmt} {x : Str}
/-- int of a truth -/
theorem PS1.pd (h : PS1 X δ ω e (.im d)) : PD X δ ω e d := h
end
end FP

namespace FP
open PySem PySem.Spec PyProof.Rows L2
section
variable {X : Cx} {W : WX} {T : List (Addr × Str)} {δ : De} {ω : Om} {a b c e o : Expr} {es : List Expr} {d : PyData} {ds : List PyData} {r : Sd} {pos p p1 sp : Pos} {R : Out → Prop} {ss : List Stmt} {x : Str}
end
end FP

namespace FP
open PySem PySem.Spec PyProof.Rows L2 HotX L2H
section
variable {X : Cx} {W : WX} {T : List (Addr × Str)} {δ : De} {ω ω1 ω2 : Om} {a b c e : Expr} {es r : List Expr} {d da db dz : PyData} {ds : List PyData} {pos p : Pos} {k : Nat} {R : Out → Prop} {ss sa sb : List Stmt} {C : Addr} {fs' : Fs}
end
end FP

namespace FP
open PySem PySem.Spec PyProof.Rows L2 HotX L2H
section
variable {X : Cx} {W : WX} {T : List (Addr × Str)} {δ : De} {ω : Om} {a e : Expr} {d : PyData} {pos p : Pos} {R : Out → Prop}
theorem PR.ex {rr : Rs} (h : PR X W δ ω e rr) (h1 : ∀ d, rr = .ok d → R (.rt (.im d) ω)) (h2 : ∀ Z, rr = .er Z → R (.ex Z ω)) : EX X W T e δ ω R := fun σ H rl t Q q q2 => h σ H rl Q (by
  cases rr with
  | ok d => exact fun v H' s dv => q _ ω v H' (h1 d rfl) (.of s) (rl.mono s) dv
  | er Z => exact fun H' s => q2 Z ω σ H' (h2 Z rfl) (.of s) (rl.mono s).ro)
end
end FP

namespace FP
open PySem PySem.Spec PyProof.Rows L2 HotX L2H
section
variable {X : Cx} {δ : De} {ω : Om} {k f : Expr} {pos dp apos cpos : Pos}
end
end FP

namespace FP
open PySem PySem.Spec PyProof.Rows L2 HotX L2H
section
variable {X : Cx} {W : WX} {T : List (Addr × Str)} {δ : De} {R : Out → Prop} {ss : List Stmt}
end
end FP

namespace FP
open PySem PySem.Spec PyProof.Rows L2 HotX L2H
section
variable {X : Cx} {δ : De} {ω : Om}
variable {W : WX} {T : List (Addr × Str)} {tg iter : Expr} {pos : Pos} {R : Out → Prop} {ss : List Stmt} {x : Str}
end
end FP

namespace FP
open PySem PySem.Spec PyProof.Rows L2 HotX L2H
structure EsSt (e it : Addr) (x : Str) (t : Tok) (i : Nat) (h : Heap) : Prop where
  en : ∃ old, IsEnum h e it (i : Int) old
  wk : h.IsStrIter it (strIterType x) x t i
section
variable {X : Cx} {W : WX} {T : List (Addr × Str)} {δ : De} {ω : Om} {a b e o iter : Expr} {pos p tpos : Pos} {R : Out → Prop} {ss sa : List Stmt} {elts : List Expr} {kk : Nat} {c : Addr} {r : Sd}
end
end FP

namespace FP
open PySem PySem.Spec PyProof.Rows L2 HotX L2H
abbrev Fo := List (Str × Sd)
abbrev FvP (K : PySem.W.Frag) (H : Hp) : Fo → List (Str × V) → Prop := Paired (fun (p : Str × Sd) (q : Str × V) => p.1 = q.1 ∧ SdV K H p.2 q.2)
def putFs (f : Str) (r : Sd) : Fo → Fo
  | [] => [(f, r)]
  | (g, x) :: t => if g = f then (g, r) :: t else (g, x) :: putFs f r t
theorem sfv_get {K : PySem.W.Frag} {H : Hp} {f : Str} {r : Sd} : ∀ {fs : Fo} {vs : List (Str × V)}, FvP K H fs vs → fs.lookup f = some r → ∃ v, vs.lookup f = some v ∧ SdV K H r v
  | _, _, .nil, h => by cases h
  | (g, x) :: fs, (g2, v) :: vs, .cons a t, h => by
    obtain ⟨e1, a⟩ := a
    simp only at e1
    subst e1
    rw [List.lookup_cons] at h ⊢
    cases e : f == g with
    | true =>
      rw [e] at h
      cases h
      exact ⟨v, rfl, a⟩
    | false =>
      rw [e] at h
      exact sfv_get t h
theorem sfv_none {K : PySem.W.Frag} {H : Hp} {f : Str} : ∀ {fs : Fo} {vs : List (Str × V)}, FvP K H fs vs → (fs.map (·.1)).contains f = false → vs.lookup f = none
  | _, _, .nil, _ => rfl
  | (g, x) :: fs, (g2, v) :: vs, .cons a t, h => by
    obtain ⟨e1, a⟩ := a
    simp only at e1
    subst e1
    simp only [List.map_cons, List.contains_cons, Bool.or_eq_false_iff] at h
    rw [List.lookup_cons, h.1]
    exact sfv_none t h.2
theorem sfv_put {K : PySem.W.Frag} {H : Hp} {f : Str} {r : Sd} {y : V} (h : SdV K H r y) : ∀ {fs : Fo} {vs : List (Str × V)}, FvP K H fs vs → FvP K H (putFs f r fs) (putF f y vs)
  | _, _, .nil => .cons ⟨rfl, h⟩ .nil
  | (g, _) :: _, (g2, _) :: _, .cons a t => by
    obtain ⟨e1, a⟩ := a
    simp only at e1
    subst e1
    unfold putFs putF
    by_cases e : g = f
    · rw [if_pos e, if_pos e]
      exact .cons ⟨rfl, h⟩ t
    · rw [if_neg e, if_neg e]
      exact .cons ⟨rfl, a⟩ (sfv_put h t)
theorem sfv_mono {K : PySem.W.Frag} {H H' : Hp} (e : Same H H') {fs : Fo} {vs : List (Str × V)} (h : FvP K H fs vs) : FvP K H' fs vs := L2.Paired.mapP h fun _ _ q => ⟨q.1, sdv_mono e q.2⟩
section
variable {X : Cx} {W : WX} {T : List (Addr × Str)} {δ : De} {ω ω1 : Om} {a b c e o iter tg : Expr} {es : List Expr} {d : PyData} {ds : List PyData} {r : Sd} {rs : List Sd} {pos p p1 apos : Pos} {R : Out → Prop} {ss sa sb : List Stmt} {z C : Addr} {fs : Fo} {f x m : Str} {k : Nat} {fr : FrG}
/-- x.f -/
theorem ps1_fld (i : Nat) (Cl : Cls X.K C) (Na : NoAttr X.K C f) (hm : (z, Od.ins C fs) ∈ ω.os) (hl : fs.lookup f = some r) (hd : δ[i]? = some (some (.ad z)) := by rfl) (hN : X.N[i]? = some x := by rfl) (hv : Vis X.env.scope x := by first | exact Or.inl rfl | exact Or.inr (Or.inl rfl) | exact Or.inr (Or.inr rfl))
    (h1 : (x == ("__debug__" : Str)) = false := by decide) (h2 : (x == ("__classdict__" : Str)) = false := by decide) (hb : attributeBase (.Name x p1) f X.env (eval (.Name x p1) X.env) = eval (.Name x p1) X.env := by rfl) : PS1 X δ ω (.Attribute (.Name x p1) f pos) r := fun σ H rl Q q => by
  obtain ⟨v, e1, e2⟩ := rl.sl i _ hd
  have e2 : v = .ref z := e2
  subst e2
  obtain ⟨dx, vs, g1, g2⟩ := rl.ro.ob z _ hm
  obtain ⟨y, g3, g4⟩ := sfv_get g2 hl
  exact we (pe_fld (pe_var hN hv h1 h2) hb) ⟨_, e1, z, C, dx, vs, y, rfl, g1, Cl, Na, g3, q y H (Same.refl H) g4⟩
theorem fld_at {H : Hp} {σ : L2.St} {j : Nat} {v : V} {dx : Addr} {vs : List (Str × V)} (l : Rl X.K H σ δ ω) (ho : ω.os[j]? = some (z, .ins C fs)) (g1 : H z = some (.ins C dx vs)) (g2 : FvP X.K (hid (ads ω) H) fs vs) (dv : SdV X.K (hid (ads ω) H) r v) :
    Stp T ω (putO ω j (z, .ins C (putFs f r fs))) H (upd H z (.ins C dx (putF f v vs))) ∧ Rl X.K (upd H z (.ins C dx (putF f v vs))) σ δ (putO ω j (z, .ins C (putFs f r fs))) := by
  have am : z ∈ ads ω := List.mem_append_right _ (List.mem_map.mpr ⟨_, at_mem ho, rfl⟩)
  have hh : Same (hid (ads ω) H) (hid (ads ω) (upd H z (.ins C dx (putF f v vs)))) := fun bb o h => by
    obtain ⟨n, e⟩ := hid_out h
    exact hid_of n (by rw [upd_ne (fun q => n (by rw [q]; exact am))]; exact e)
  exact own_at (T := T) (o' := .ins C (putFs f r fs)) (H' := upd H z (.ins C dx (putF f v vs))) l ho g1 (fun _ q => by cases q) (fun _ _ q => by unfold LamX.CodeO at q; cases q) (fun bb o nb h => by rw [upd_ne nb]; exact h) ⟨dx, _, upd_same, sfv_put (sdv_mono hh dv) (sfv_mono hh g2)⟩
/-- x.f += e, whole numbers -/
theorem sd_fldaddS (i j : Nat) {tpos : Pos} {m n : Int} (Cl : Cls X.K C) (Na : NoAttr X.K C f) (ho : ω.os[j]? = some (z, .ins C fs)) (hl : fs.lookup f = some (.im (.int m))) (he : PD X δ ω e (.int n)) (hk : SD X W T ss δ (putO ω j (z, .ins C (putFs f (.im (.int (m + n))) fs))) R) (hz : fs.length < 1000) (hd : δ[i]? = some (some (.ad z)) := by rfl) (hN : X.N[i]? = some x := by rfl)
    (hv : Vis X.env.scope x := by first | exact Or.inl rfl | exact Or.inr (Or.inl rfl) | exact Or.inr (Or.inr rfl)) (h1 : (x == ("__debug__" : Str)) = false := by decide) (h2 : (x == ("__classdict__" : Str)) = false := by decide) :
    SD X W T (.AugAssign (.Attribute (.Name x p1) f tpos) .Add e pos :: ss) δ ω R :=
  sd_cons fun σ H D rl t kt => ws (ps_fldaug (pe_var hN hv h1 h2) pe_w in_add) (by
    obtain ⟨v, e1, e2⟩ := rl.sl i _ hd
    have e2 : v = .ref z := e2
    subst e2
    obtain ⟨dx, vs, g1, g2⟩ := rl.ro.ob z _ (at_mem ho)
    obtain ⟨y, g3, g4⟩ := sfv_get g2 hl
    cases g4
    refine ⟨_, e1, z, C, dx, vs, _, rfl, g1, Cl, Na, g3, he σ H rl _ fun w H1 s1 d1 => ?_⟩
    cases d1
    have rl1 := rl.mono s1
    obtain ⟨dx1, vs1, k1, k2⟩ := rl1.ro.ob z _ (at_mem ho)
    obtain ⟨st, l2⟩ := fld_at (T := T) (f := f) (r := .im (.int (m + n))) (v := .int (m + n)) rl1 ho k1 k2 (Dp.int (m + n))
    exact ⟨m, n, rfl, rfl, dx1, vs1, k1, by rw [paired_len k2]; exact hz, kt.nx δ _ σ _ hk ((Stp.of s1).trans st) l2⟩)
def YX (X : Cx) (W : WX) (T : List (Addr × Str)) (δ : De) (ω : Om) (e : Expr) (R : Rg → Om → Prop) : Prop := ∀ σ H, Rl X.K H σ δ ω → LamX.Tabs T H → ∀ Q : VK,
  (∀ r ω' v H', R (.ok r) ω' → Stp T ω ω' H H' → Rl X.K H' σ δ ω' → SdV X.K (hid (ads ω') H') r v → Q v H') → (∀ Z ω' H', R (.er Z) ω' → Stp T ω ω' H H' → Rl X.K H' σ δ ω' → W (.ref Z) none σ H') → wpe X e σ H Q
def ZE (X : Cx) (T : List (Addr × Str)) (δ : De) (ω : Om) (e : Expr) (R : PyData → Om → Prop) : Prop := ∀ σ H, Rl X.K H σ δ ω → LamX.Tabs T H → ∀ Q : VK, (∀ d ω' v H', R d ω' → Stp T ω ω' H H' → Rl X.K H' σ δ ω' → Dp X.K (hid (ads ω') H') v d → Q v H') → wpe X e σ H Q
def ZT (X : Cx) (T : List (Addr × Str)) (δ : De) (ω : Om) (e : Expr) (R : Bool → Om → Prop) : Prop := ∀ σ H, Rl X.K H σ δ ω → LamX.Tabs T H → ∀ Q : Bool → Hp → Prop, (∀ k ω' H', R k ω' → Stp T ω ω' H H' → Rl X.K H' σ δ ω' → Q k H') → wpt X e σ H Q
def ZW (X : Cx) (T : List (Addr × Str)) (δ : De) (ω : Om) (e : Expr) (R : Bool → Om → Prop) : Prop := ∀ σ H, Rl X.K H σ δ ω → LamX.Tabs T H → ∀ Q : Bool → Hp → Prop, (∀ k ω' H', R k ω' → Stp T ω ω' H H' → Rl X.K H' σ δ ω' → Q k H') → wpw X e σ H Q
theorem ZE.imp {R1 R2 : PyData → Om → Prop} (h : ZE X T δ ω e R1) (q : ∀ d ω', R1 d ω' → R2 d ω') : ZE X T δ ω e R2 := fun σ H rl t Q k => h σ H rl t Q fun d ω' v H' z => k d ω' v H' (q d ω' z)
theorem PD.ze {Z : PyData → Om → Prop} (h : PD X δ ω e d) (q : Z d ω) : ZE X T δ ω e Z := fun σ H rl t Q k => h σ H rl Q fun v H' s dv => k d ω v H' q (.of s) (rl.mono s) dv
theorem YE.ze {Z : PyData → Om → Prop} (h : YE X T δ ω e d ω1) (q : Z d ω1) : ZE X T δ ω e Z := fun σ H rl t Q k => h σ H rl t Q fun v H' s l dv => k d ω1 v H' q s l dv
theorem YX.ze {Z : PyData → Om → Prop} (h : YX X (fun _ _ _ _ => False) T δ ω e (fun r ω' => match r with | .ok (.im d) => Z d ω' | _ => False)) : ZE X T δ ω e Z := fun σ H rl t Q k => h σ H rl t Q (fun r ω' v H' z s l dv => by
    cases r with
    | im d => exact k d ω' v H' z s l dv
    | ad a => exact False.elim z) (fun Z ω' H' z _ _ => False.elim z)
theorem YX.ex {Rr : Rg → Om → Prop} (h : YX X W T δ ω e Rr) (q : ∀ r ω', Rr r ω' → match r with | .ok r => R (.rt r ω') | .er Z => R (.ex Z ω')) : EX X W T e δ ω R := fun σ H rl t Q k1 k2 => h σ H rl t Q (fun r ω' v H' z s l dv => k1 r ω' v H' (q _ _ z) s l dv) (fun Z ω' H' z s l => k2 Z ω' σ H' (q _ _ z) s l.ro)
theorem YX.imp {R1 R2 : Rg → Om → Prop} (h : YX X W T δ ω e R1) (q : ∀ r ω', R1 r ω' → R2 r ω') : YX X W T δ ω e R2 := fun σ H rl t Q k1 k2 => h σ H rl t Q (fun r ω' v H' z => k1 r ω' v H' (q _ _ z)) (fun Z ω' H' z => k2 Z ω' H' (q _ _ z))
theorem PTd.zt {k : Bool} {Z : Bool → Om → Prop} (h : PTd X δ ω e k) (q : Z k ω) : ZT X T δ ω e Z := fun σ H rl t Q kk => h σ H rl Q fun H' s => kk k ω H' q (.of s) (rl.mono s)
theorem ZW.zt {Z : Bool → Om → Prop} (h : ZW X T δ ω e Z) : ZT X T δ ω e Z := fun σ H rl t Q q => wt (PW.pt pw_w) (h σ H rl t Q q)
theorem zt_cmp {op : CmpOp} {r : R2} {Z : Bool → Om → Prop} (ho : OpR X (compareOp op) r) (ha : ZE X T δ ω a (fun da ω1 => ZE X T δ ω1 b (fun db ω2 => ∃ k, RD X.K r da db (.bool k) ∧ Z k ω2))) (hm : behindInMarks op b = false) : ZT X T δ ω (.Compare a [op] [b] pos) Z := fun σ H rl t Q q =>
  wt (pt_cmpR ho pe_w pe_w hm) (ha σ H rl t _ fun da ω1 x H1 hb s1 l1 d1 => hb σ H1 l1 (s1.tab t) _ fun db ω2 y H2 hr s2 l2 d2 => by
    obtain ⟨k, hr, z⟩ := hr
    exact hr _ x y H2 l2.ro.there (stp_sd (X := X) (r := .im da) s2 d1) d2 _ fun w H3 s3 d3 => by
      cases d3
      exact ⟨_, rfl, q k ω2 H3 z ((s1.trans s2).trans (.of s3)) (l2.mono s3)⟩)
theorem zt_not {Z : Bool → Om → Prop} (h : ZT X T δ ω e (fun k ω' => Z (!k) ω')) : ZT X T δ ω (.UnaryOp .Not e pos) Z := fun σ H rl t Q q => wt (pt_not pt_w) (h σ H rl t _ fun k ω' H1 z s1 l1 => q (!k) ω' H1 z s1 l1)
theorem zw_or1 {Z : Bool → Om → Prop} (h : ZT X T δ ω a Z) : ZW X T δ ω (.BoolOp .Or [a] pos) Z := fun σ H rl t Q q => ww (pw_or1 pt_w) (h σ H rl t Q q)
theorem zw_or {rr : List Expr} {Z : Bool → Om → Prop} (h : ZT X T δ ω a (fun k ω1 => (k = true → Z true ω1) ∧ (k = false → ZW X T δ ω1 (.BoolOp .Or (b :: rr) pos) Z))) : ZW X T δ ω (.BoolOp .Or (a :: b :: rr) pos) Z := fun σ H rl t Q q =>
  ww (pw_or pt_w pw_w) (h σ H rl t _ fun k ω1 H1 z s1 l1 => by
    cases k with
    | true => exact iteT (q true ω1 H1 (z.1 rfl) s1 l1)
    | false => exact iteF (z.2 rfl σ H1 l1 (s1.tab t) Q fun k2 ω2 H2 z2 s2 l2 => q k2 ω2 H2 z2 (s1.trans s2) l2))
theorem sd_ifZ (h : ZT X T δ ω c (fun k ω1 => (k = true → SD X W T sa δ ω1 (Nxt X W T ss R)) ∧ (k = false → SD X W T sb δ ω1 (Nxt X W T ss R)))) : SD X W T (.If c sa sb pos :: ss) δ ω R :=
  sd_cons fun σ H D rl t k => ws (ps_if pt_w pss_w pss_w) (h σ H rl t _ fun kk ω1 H' z s l => by
    cases kk with
    | true => exact iteT (z.1 rfl σ H' D l (s.tab t) (k.step s))
    | false => exact iteF (z.2 rfl σ H' D l (s.tab t) (k.step s)))
/-- if that is not so -/
theorem sd_ifZF (h : ZT X T δ ω c (fun k ω1 => k = false ∧ SD X W T ss δ ω1 R)) : SD X W T (.If c sa [] pos :: ss) δ ω R := sd_ifZ (fun σ H rl t Q q => h σ H rl t Q fun k ω' H' z => q k ω' H' ⟨fun e => (by rw [z.1] at e; cases e), fun _ => sd_nil z.2⟩)
theorem sd_setZ (i : Nat) {pos' : Pos} (he : ZE X T δ ω e (fun d ω1 => SD X W T ss (δ.set i (some (.im d))) ω1 R)) (hN : X.N.Nodup) (hi : X.N[i]? = some x := by rfl) (hx : Loc X.env.scope x := by first | exact Or.inl rfl | exact Or.inr rfl) (hs : swapsWith e (some (.Name x pos')) pos.line X.env = pure false := by rfl)
    (hf : X.fn x = true ∨ X.env.scope.names.lookup x = some .local := by first | exact .inl rfl | exact .inr rfl | assumption) : SD X W T (.Assign [.Name x pos'] e pos :: ss) δ ω R :=
  sd_cons (s1_set i (fun σ H rl t Q q _ => he σ H rl t Q fun d ω1 v H' z s l dv => q (.im d) ω1 v H' z s l dv) hN hi hx hs hf)
/-- y.m(..), a method -/
theorem yx_methG (i : Nat) {Rr : Rg → Os → Prop} {ps : List Addr} (os rest : Os) {Z : Rg → Om → Prop} (G : GMOk X.prog X.w X.K X.mg X.base k C m fr) (hr : Room k X.A) (tk : L2N.Takes X W) (Cl : Cls X.K C) (hm : (z, Od.ins C fs) ∈ os ++ rest) (hl : (fs.map (·.1)).contains m = false) (ha : PSs X δ ⟨ps, os ++ rest⟩ (e :: es) rs) (hf : fr os (.ad z :: rs) Rr)
    (hR : ∀ r os', Rr r os' → Z r ⟨ps, os' ++ rest⟩) (hd : δ[i]? = some (some (.ad z)) := by rfl) (hN : X.N[i]? = some x := by rfl)
    (hv : Vis X.env.scope x := by first | exact Or.inl rfl | exact Or.inr (Or.inl rfl) | exact Or.inr (Or.inr rfl)) (h1 : (x == ("__debug__" : Str)) = false := by decide) (h2 : (x == ("__classdict__" : Str)) = false := by decide) {pl : Sem Bool}
    (hst : starEach (e :: es) X.env = (false, eval e X.env) :: starEach es X.env := by rfl) (hpl : (backTo pos (starEach es X.env)).any (·.1) = false := by rfl)
    (ht : MthAs X (.Name x p1) m apos pos (e :: es) pl := by rfl) : YX X W T δ ⟨ps, os ++ rest⟩ (.Call (.Attribute (.Name x p1) m apos) (e :: es) [] pos) Z := fun σ H rl t Q q q2 => by
  obtain ⟨f, fd, pn, F, M, b⟩ := G.ex
  obtain ⟨v, e1, e2⟩ := rl.sl i _ hd
  have e2 : v = .ref z := e2
  subst e2
  obtain ⟨dx, us, g1, g2⟩ := rl.ro.ob z _ hm
  have nl : us.lookup m = none := sfv_none g2 hl
  refine we (pe_mthS (pl := pl) (E := WE W) (pe_var hN hv h1 h2) Cl M F hr b (fun σ => L2N.passAt tk σ) pa_w hst hpl ht) ⟨_, e1, z, dx, us, rfl, g1, nl, ha σ H rl _ fun vs H1 s1 d1 => ?_⟩
  refine callG_end (T := T) (rs := .ad z :: rs) (rl.mono s1) (.cons rfl d1) hf fun r os' H' hr st l => ?_
  have w := hR r os' hr
  cases r with
  | ok r => exact fun v hv => q r _ v H' w ((Stp.of s1).trans st) l hv
  | er Z => exact q2 Z _ H' w ((Stp.of s1).trans st) l
theorem yx_methG0 (i : Nat) {Rr : Rg → Os → Prop} {ps : List Addr} (os rest : Os) {Z : Rg → Om → Prop} (G : GMOk X.prog X.w X.K X.mg X.base k C m fr) (hr : Room k X.A) (tk : L2N.Takes X W) (Cl : Cls X.K C) (hm : (z, Od.ins C fs) ∈ os ++ rest) (hl : (fs.map (·.1)).contains m = false) (hf : fr os [.ad z] Rr)
    (hR : ∀ r os', Rr r os' → Z r ⟨ps, os' ++ rest⟩) (hd : δ[i]? = some (some (.ad z)) := by rfl) (hN : X.N[i]? = some x := by rfl)
    (hv : Vis X.env.scope x := by first | exact Or.inl rfl | exact Or.inr (Or.inl rfl) | exact Or.inr (Or.inr rfl)) (h1 : (x == ("__debug__" : Str)) = false := by decide) (h2 : (x == ("__classdict__" : Str)) = false := by decide) {pl : Sem Bool}
    (ht : MthAs X (.Name x p1) m apos pos [] pl := by rfl) : YX X W T δ ⟨ps, os ++ rest⟩ (.Call (.Attribute (.Name x p1) m apos) [] [] pos) Z := fun σ H rl t Q q q2 => by
  obtain ⟨f, fd, pn, F, M, b⟩ := G.ex
  obtain ⟨v, e1, e2⟩ := rl.sl i _ hd
  have e2 : v = .ref z := e2
  subst e2
  obtain ⟨dx, us, g1, g2⟩ := rl.ro.ob z _ hm
  have nl : us.lookup m = none := sfv_none g2 hl
  refine we (pe_mthS0 (pl := pl) (E := WE W) (pe_var hN hv h1 h2) Cl M F hr b (fun σ => L2N.passAt tk σ) ht) ⟨_, e1, z, dx, us, rfl, g1, nl, ?_⟩
  refine callG_end (T := T) (rs := [.ad z]) rl (.cons rfl .nil) hf fun r os' H' hr st l => ?_
  have w := hR r os' hr
  cases r with
  | ok r => exact fun v hv => q r _ v H' w st l hv
  | er Z => exact q2 Z _ H' w st l
/-- o.append(e), o a list of one's own that stands somewhere -/
theorem sd_appS {ad : Addr} {xs : List Sd} {j : Nat} {apos cpos : Pos} (ho : PS1 X δ ω o (.ad ad)) (hm : ω.os[j]? = some (ad, .lst xs)) (he : PD X δ ω e d) (hk : SD X W T ss δ (putO ω j (ad, .lst (xs ++ [.im d]))) R) (hz : xs.length < 10000)
    (hs : swapsWith (.Call (.Attribute o "append" apos) [e] [] cpos) none pos.line X.env = pure false := by rfl)
    (hbase : attributeBase o "append" X.env (eval o X.env) = eval o X.env := by rfl)
    (hfew : ((backTo cpos (starEach [e] X.env)).all (fun x => !x.1) && (backToKw cpos (keywordEach [] X.env)).all (fun x => x.1.isSome)
      && decide (([e] : List Expr).length + ([] : List Keyword).length + (if ([] : List Keyword).isEmpty then 0 else 1) < 30)) = true := by rfl)
    (hline : (apos.endLine == cpos.line) = true := by rfl) (hst : starEach [e] X.env = (false, eval e X.env) :: starEach [] X.env := by rfl) :
    SD X W T (.Expr (.Call (.Attribute o "append" apos) [e] [] cpos) pos :: ss) δ ω R :=
  sd_cons fun σ H Dd rl t kt => ws (ps_expr (pe_bm PySem.F.plainAttrs_list PySem.F.slot_list_append PySem.F.type_list_append mt_append pe_w (pa_cons pe_w pa_nil hst) hbase hfew hline hst) hs) (ho σ H rl _ fun v H1 s1 d1 => by
    have d1 : v = .ref ad := d1
    subst d1
    obtain ⟨vs, e3, e4⟩ := (rl.mono s1).ro.ob ad _ (at_mem hm)
    refine ⟨.inl ⟨rfl, vs, SqL.of e3⟩, he σ H1 (rl.mono s1) _ fun y H2 s2 d2 => ⟨ad, vs, y, rfl, rfl, s2 ad _ e3, ?_, ?_⟩⟩
    · rw [paired_len e4]
      exact Nat.lt_of_lt_of_le hz (by rw [sizeLine_eq]; decide)
    · have l2 := rl.mono (s1.trans s2)
      have am : ad ∈ ads ω := List.mem_append_right _ (List.mem_map.mpr ⟨_, at_mem hm, rfl⟩)
      have hh : Same (hid (ads ω) H2) (hid (ads ω) (upd H2 ad (.lst (vs ++ [y])))) := fun bb o h => by
        obtain ⟨n, e⟩ := hid_out h
        exact hid_of n (by rw [upd_ne (fun q => n (by rw [q]; exact am))]; exact e)
      obtain ⟨st, l3⟩ := own_at (T := T) (o' := .lst (xs ++ [.im d])) (H' := upd H2 ad (.lst (vs ++ [y]))) l2 hm (s2 ad _ e3) (fun _ q => by cases q) (fun _ _ q => by unfold LamX.CodeO at q; cases q) (fun bb o nb h => by rw [upd_ne nb]; exact h) ⟨_, upd_same, paired_snoc (R := SdV X.K _) (x := Sd.im d) (y := y) (dpm hh d2) (L2.Paired.mapP e4 fun _ _ q => sdv_mono ((hid_same s2).trans hh) q)⟩
      exact kt.nx δ _ σ _ hk ((Stp.of (s1.trans s2)).trans st) l3)
end
end FP

namespace FP
open PySem PySem.Spec PyProof.Rows L2 HotX L2H
section
variable {X : Cx} {T : List (Addr × Str)} {δ : De} {ω : Om} {d : PyData} {pos p : Pos} {k : Nat}
end
section
variable {X : Cx} {W : WX} {T : List (Addr × Str)} {δ : De} {ω : Om} {a b c e tg iter : Expr} {es : List Expr} {d : PyData} {ds : List PyData} {pos p : Pos} {R : Out → Prop} {ss : List Stmt} {x : Str}
end
end FP

namespace FP
open PySem PySem.Spec PyProof.Rows L2 HotX L2H
section
variable {X : Cx} {W : WX} {T : List (Addr × Str)} {δ : De} {ω ω1 : Om} {a b c e o iter tg : Expr} {es : List Expr} {d : PyData} {ds : List PyData} {r : Sd} {rs : List Sd} {pos p p1 apos : Pos} {R : Out → Prop} {ss sa sb : List Stmt} {x m : Str} {k : Nat} {Z : PyData → Om → Prop}
theorem Rl.keep {H H' : Hp} {σ : L2.St} {ω ω' : Om} (rl : Rl X.K H σ δ ω) (st : Stp T ω ω' H H') (ro : Ro X.K H' ω') : Rl X.K H' σ δ ω' := ⟨rl.len, fun i r hi => by
  obtain ⟨v, h1, h2⟩ := rl.sl i r hi
  exact ⟨v, h1, stp_sd (X := X) st h2⟩, ro⟩
theorem Rl.permO {H : Hp} {σ : L2.St} {ps : List Addr} {os os' : Os} (hp : os.Perm os') (rl : Rl X.K H σ δ ⟨ps, os⟩) : Rl X.K H σ δ ⟨ps, os'⟩ := by
  have hma : ∀ a, a ∈ os.map (·.1) ↔ a ∈ os'.map (·.1) := fun a => (hp.map _).mem_iff
  have hh : hid (ads ⟨ps, os⟩) H = hid (ads ⟨ps, os'⟩) H := by
    funext b
    unfold hid
    have e : b ∈ ads ⟨ps, os⟩ ↔ b ∈ ads ⟨ps, os'⟩ := by
      show b ∈ ps ++ os.map (·.1) ↔ b ∈ ps ++ os'.map (·.1)
      rw [List.mem_append, List.mem_append, hma]
    by_cases h : b ∈ ads ⟨ps, os⟩
    · rw [if_pos h, if_pos (e.mp h)]
    · rw [if_neg h, if_neg (fun z => h (e.mpr z))]
  refine ⟨rl.len, fun i r hi => ?_, fun z o hz => ?_, (hp.map _).nodup rl.ro.nd, rl.ro.th⟩
  · obtain ⟨v, h1, h2⟩ := rl.sl i r hi
    rw [hh] at h2
    exact ⟨v, h1, h2⟩
  · have g := rl.ro.ob z o (hp.mem_iff.mpr hz)
    rw [hh] at g
    exact g
end
end FP

namespace FP
open PySem PySem.Spec PyProof.Rows L2 HotX L2H
section
variable {X : Cx} {W : WX} {T : List (Addr × Str)} {δ : De} {ω ω1 : Om} {a b c e o iter tg : Expr} {es : List Expr} {d : PyData} {ds : List PyData} {r : Sd} {rs : List Sd} {pos p p1 apos : Pos} {R : Out → Prop} {ss sa sb : List Stmt} {x m : Str} {k : Nat}
/-- a list of own lists -/
def PLa (X : Cx) (δ : De) (ω : Om) (e : Expr) (As : List Addr) : Prop := ∀ σ H, Rl X.K H σ δ ω → ∀ Q : VK, (∀ p H', Same H H' → SqL X.K H' p (As.map V.ref) → Q (.ref p) H') → wpe X e σ H Q
theorem PLa.eq {As Bs : List Addr} (h : PLa X δ ω e As) (q : As = Bs) : PLa X δ ω e Bs := q ▸ h
theorem stp_permL {H H' : Hp} {ps : List Addr} {os os' : Os} {ω : Om} (hp : os.Perm os') (st : Stp T ⟨ps, os'⟩ ω H H') : Stp T ⟨ps, os⟩ ω H H' := ⟨fun b x h n p => st.keep b x h (fun z => n ((hp.map _).mem_iff.mpr z)) p, fun a ha => (st.new a ha).imp (fun z => (hp.map _).mem_iff.mpr z) id, st.ps, st.tab⟩
theorem ZE.perm {ps : List Addr} {os os' : Os} {Z : PyData → Om → Prop} (hp : os.Perm os') (h : ZE X T δ ⟨ps, os'⟩ e Z) : ZE X T δ ⟨ps, os⟩ e Z := fun σ H rl t Q q => h σ H (rl.permO hp) t Q fun d ω' v H' z s l dv => q d ω' v H' z (stp_permL hp s) l dv
theorem YX.perm {ps : List Addr} {os os' : Os} {Z : Rg → Om → Prop} (hp : os.Perm os') (h : YX X W T δ ⟨ps, os'⟩ e Z) : YX X W T δ ⟨ps, os⟩ e Z := fun σ H rl t Q q q2 => h σ H (rl.permO hp) t Q (fun r ω' v H' z s l dv => q r ω' v H' z (stp_permL hp s) l dv) (fun Z ω' H' z s l => q2 Z ω' H' z (stp_permL hp s) l)
end
end FP

namespace FP
open PySem PySem.Spec PyProof.Rows L2 HotX L2H
theorem eqv_nil (xs : List PyData) : PyData.eqv (.list xs) (.list []) = xs.isEmpty := by
  cases xs <;> rfl
section
variable {X : Cx} {W : WX} {T : List (Addr × Str)} {δ : De} {ω ω1 : Om} {a b c e o iter tg : Expr} {es : List Expr} {d da db : PyData} {ds : List PyData} {r : Sd} {rs : List Sd} {pos p p1 apos : Pos} {R : Out → Prop} {ss sa sb : List Stmt} {x m : Str} {k : Nat} {fr : FrG}
end
end FP

namespace FP
open PySem PySem.Spec PyProof.Rows L2 HotX L2H
section
variable {X : Cx} {W : WX} {T : List (Addr × Str)} {δ : De} {ω : Om} {a b e o iter : Expr} {pos p tpos : Pos} {R : Out → Prop} {ss sa : List Stmt}
end
end FP

namespace FP
open PySem PySem.Spec PyProof.Rows L2 HotX L2H
section
variable {X : Cx}
/-- what the loop keeps: nothing yet, or the best so far and its key -/
inductive MinSt (items : List V) (kf : Nat → Int) : Nat → Array Value → Prop
  | nil : MinSt items kf 0 #[]
  | best {j i : Nat} {x : V} {vb : Value} {tb : Tok} (lt : i < j) (at_ : items[i]? = some x) (rel : RelV x vb) (first : ∀ j', j' < j → kf i ≤ kf j' ∧ (j' < i → kf i < kf j')) : MinSt items kf j #[vb, .int (kf i) tb]
theorem MinSt.one {items : List V} {kf : Nat → Int} {x : V} {v : Value} {t : Tok} (h : items[0]? = some x) (r : RelV x v) : MinSt items kf 1 #[v, .int (kf 0) t] :=
  .best Nat.one_pos h r fun j' hj => by
    obtain rfl : j' = 0 := by omega
    exact ⟨Int.le_refl _, fun z => absurd z (Nat.lt_irrefl _)⟩
theorem MinSt.less {items : List V} {kf : Nat → Int} {j i : Nat} {x : V} {v : Value} {t : Tok} (f : ∀ j', j' < j → kf i ≤ kf j' ∧ (j' < i → kf i < kf j')) (hx : items[j]? = some x) (r : RelV x v) (lt : kf j < kf i) : MinSt items kf (j + 1) #[v, .int (kf j) t] :=
  .best (Nat.lt_succ_self j) hx r fun j' hj => by
    rcases Nat.lt_or_ge j' j with z | z
    · have := (f j' z).1
      omega
    · obtain rfl : j' = j := by omega
      omega
theorem MinSt.more {items : List V} {kf : Nat → Int} {j i : Nat} {x : V} {v : Value} {t : Tok} (lt : i < j) (hx : items[i]? = some x) (r : RelV x v) (f : ∀ j', j' < j → kf i ≤ kf j' ∧ (j' < i → kf i < kf j')) (ge : ¬ kf j < kf i) : MinSt items kf (j + 1) #[v, .int (kf i) t] :=
  .best (Nat.lt_succ_of_lt lt) hx r fun j' hj => by
    rcases Nat.lt_or_ge j' j with z | z
    · exact f j' z
    · obtain rfl : j' = j := by omega
      omega
variable {δ : De} {ω : Om} {a : Expr} {d : PyData} {ds : List PyData} {pos p : Pos}
end
end FP

namespace FP
open PySem PySem.Spec PyProof.Rows L2 HotX L2H
section
variable {X : Cx} {pins : List (Addr × Obj)} {σ : L2.St} {H : Hp} {s : Shared} {h' : Heap}
theorem vals_ints : ∀ {us : List Value} {ns : List Int}, IntsAre us ns → Vals (ns.map V.int) us
  | _, _, .nil => .nil
  | _, _, .cons n t h => .cons ⟨t, rfl⟩ (vals_ints h)
def absI (n : Int) : Int := if n < 0 then -n else n
/-- how the numbers stand then -/
structure AbsSorted (ns' ns : List Int) : Prop where
  perm : ns'.Perm ns
  ord : ns'.Pairwise fun x y => absI x ≤ absI y
  stay : ∀ z, ns'.filter (fun x => absI x == z) = ns.filter (fun x => absI x == z)
open Classical in
variable {δ : De} {ω : Om} {a b : Expr} {d : PyData} {ds : List PyData} {pos p : Pos}
end
end FP

namespace FP
open PySem PySem.Spec PyProof.Rows L2 HotX L2H
section
variable {X : Cx} {δ : De} {ω : Om} {iter elt : Expr} {pos : Pos}
end
end FP

namespace FP
open PySem
abbrev zr (f0 : Value) (f : Bool) (TI TO : Addr) : Obj := { cls := .type "zip", dict := none, data := .fields #[f0, .bool f, .bool false, .ref TI, .ref TO], slots := #[] }
def Lent (v : Value) : Prop := v = .none ∨ ∃ T : Addr, v = rawInt T
/-- within a turn: base is the heap at its start -/
structure Zm (S1 S2 : Nat → Heap → Prop) (z TI TO i1 i2 : Addr) (base : Heap) (j1 j2 : Nat) (f0 : Value) (f : Bool) (a b : Value) (h : Heap) : Prop where
  sz : h.objs.size = base.objs.size
  kp : ∀ c o, c ∉ [z, TO, i1, i2] → base.get? c = some o → h.get? c = some o
  rz : h.get? z = some (zr f0 f TI TO)
  ri : IsPair h TI (.ref i1) (.ref i2)
  ro : IsPair h TO a b
  s1 : S1 j1 h
  s2 : S2 j2 h
/-- behind a turn: the new pair stands at the end -/
structure Zf (S1 S2 : Nat → Heap → Prop) (z TI TO i1 i2 : Addr) (base : Heap) (j : Nat) (f0 : Value) (x y : Value) (h : Heap) : Prop where
  sz : h.objs.size = base.objs.size + 1
  kp : ∀ c o, c ∉ [z, TO, i1, i2] → base.get? c = some o → h.get? c = some o
  rz : ∃ f, h.get? z = some (zr f0 f TI TO)
  ri : IsPair h TI (.ref i1) (.ref i2)
  ro : ∃ a b, IsPair h TO a b
  s1 : S1 j h
  s2 : S2 j h
  new : IsPair h base.objs.size x y
section
variable {prog : Program} {w : World} {A : Around} {E : Value → Shared → Prop} {s : Shared} {z TI TO i1 i2 : Addr} {fp1 fp2 : List Addr} {n1 n2 i j1 j2 : Nat} {P1 P2 : Nat → Value → Prop} {S1 S2 : Nat → Heap → Prop} {a b a' b' f0 f0' : Value} {f f' : Bool} {base h h' : Heap}
theorem Zm.one (m : Zm S1 S2 z TI TO i1 i2 base j1 j2 f0 f a b h) (S : ZipSep2 z TI TO i1 i2 fp1 fp2) (D2 : Draws prog w A i2 fp2 n2 P2 S2) (sb : Heap.SameBut i1 h h') (e : S1 (j1 + 1) h') : Zm S1 S2 z TI TO i1 i2 base (j1 + 1) j2 f0 f a b h' :=
  ⟨sb.1.trans m.sz, fun c o hc q => (sb.2 c fun y => hc (by simp [y])).trans (m.kp c o hc q), (sb.2 _ S.zi1).trans m.rz, (sb.2 _ S.TIi1).trans m.ri, (sb.2 _ S.Ti1).trans m.ro, e, D2.over m.s2 sb S.sep1_2⟩
theorem Zm.push {x y : Value} (m : Zm S1 S2 z TI TO i1 i2 base i i f0 f a b h) (D1 : Draws prog w A i1 fp1 n1 P1 S1) (D2 : Draws prog w A i2 fp2 n2 P2 S2) : Zf S1 S2 z TI TO i1 i2 base i f0 x y (h.push { cls := .type "tuple", data := .seq #[x, y] }) :=
  have up : ∀ c o, h.get? c = some o → (h.push { cls := .type "tuple", data := .seq #[x, y] }).get? c = some o := fun c o q => Heap.get?_push_of_some _ q
  ⟨by rw [Heap.size_push, m.sz], fun c o hc q => up c o (m.kp c o hc q), ⟨f, up _ _ m.rz⟩, up _ _ m.ri, ⟨a, b, up _ _ m.ro⟩, D1.frame _ _ _ m.s1 fun c _ o q => up c o q, D2.frame _ _ _ m.s2 fun c _ o q => up c o q, by rw [← m.sz]; exact Heap.get?_push_size _ rfl⟩
/-- e's record, and nothing but e was touched since base -/
structure Em (base : Heap) (e : Addr) (r : Obj) (h : Heap) : Prop where
  sz : h.objs.size = base.objs.size
  kp : ∀ c o, c ≠ e → base.get? c = some o → h.get? c = some o
  re : h.get? e = some r
theorem Em.set {e : Addr} {r r' : Obj} (m : Em base e r h) (sb : Heap.SameBut e h h') (q : h'.get? e = some r') : Em base e r' h' :=
  ⟨sb.1.trans m.sz, fun c o hc q => (sb.2 c hc).trans (m.kp c o hc q), q⟩
abbrev er (f0 : Value) (it : Addr) (i : Int) (old : Value) : Obj := { cls := .type "enumerate", dict := none, data := .fields #[f0, .bool false, .ref it, rawInt i, .none, old], slots := #[] }
end
section
variable {prog : Program} {w : World} {A : Around} {E : Value → Shared → Prop} {s : Shared}
end
end FP

namespace FP
open PySem PySem.Spec PyProof.Rows L2 HotX L2H
structure EzSt (e z TI TO i1 i2 a b : Addr) (i : Nat) (h : Heap) : Prop where
  en : ∃ old, IsEnum h e z (i : Int) old
  zp : ∃ f0 f, Lent f0 ∧ h.get? z = some (zr f0 f TI TO)
  ti : IsPair h TI (.ref i1) (.ref i2)
  to : ∃ x y, IsPair h TO x y
  w1 : h.IsTupleIter i1 a i
  w2 : h.IsTupleIter i2 b i
section
variable {P : Program} {w : World} {K : PySem.W.Frag} {elts : List Expr} {kk : Nat} {tpos : Pos} {e z TI TO i1 i2 a b : Addr}
theorem EzSt.obj {i : Nat} {h : Heap} (st : EzSt e z TI TO i1 i2 a b i h) {c : Addr} (hc : c ∈ [e, z, TI, TO, i1, i2]) : ∃ o, h.get? c = some o ∧ ∀ v, o.data ≠ .cell v := by
  obtain ⟨⟨old, g1⟩, ⟨f0, f, _, g2⟩, g3, ⟨x, y, g4⟩, ⟨o1, g5, _, d1⟩, ⟨o2, g6, _, d2⟩⟩ := st
  simp only [List.mem_cons, List.not_mem_nil, or_false] at hc
  rcases hc with rfl | rfl | rfl | rfl | rfl | rfl
  · exact ⟨_, g1, nofun⟩
  · exact ⟨_, g2, nofun⟩
  · exact ⟨_, g3, nofun⟩
  · exact ⟨_, g4, nofun⟩
  · exact ⟨o1, g5, fun v q => by rw [d1] at q; cases q⟩
  · exact ⟨o2, g6, fun v q => by rw [d2] at q; cases q⟩
theorem EzSt.keep {i : Nat} {h h' : Heap} (st : EzSt e z TI TO i1 i2 a b i h) (k : ∀ c ∈ [e, z, TI, TO, i1, i2], ∀ o, h.get? c = some o → h'.get? c = some o) : EzSt e z TI TO i1 i2 a b i h' :=
  ⟨st.en.imp fun _ q => k e (by simp) _ q, st.zp.imp fun _ q => q.imp fun _ q => ⟨q.1, k z (by simp) _ q.2⟩, k TI (by simp) _ st.ti, st.to.imp fun _ q => q.imp fun _ q => k TO (by simp) _ q, st.w1.at fun o q => k i1 (by simp) o q, st.w2.at fun o q => k i2 (by simp) o q⟩
end
section
variable {X : Cx} {W : WX} {T : List (Addr × Str)} {δ : De} {ω : Om} {a b : Expr} {pos p p2 zp ep : Pos} {R : Out → Prop} {ss sa : List Stmt} {kk : Nat}
end
end FP

namespace FP
open PySem PySem.Spec PyProof.Rows L2 HotX L2H
structure ZnSt (z TI TO i1 i2 a b : Addr) (i : Nat) (h : Heap) : Prop where
  zp : ∃ f0 f, Lent f0 ∧ h.get? z = some (zr f0 f TI TO)
  ti : IsPair h TI (.ref i1) (.ref i2)
  to : ∃ x y, IsPair h TO x y
  w1 : h.IsTupleIter i1 a i
  w2 : h.IsTupleIter i2 b i
section
variable {P : Program} {w : World} {K : PySem.W.Frag} {n : Str} {tpos : Pos} {z TI TO i1 i2 a b : Addr}
theorem ZnSt.obj {i : Nat} {h : Heap} (st : ZnSt z TI TO i1 i2 a b i h) {c : Addr} (hc : c ∈ [z, TI, TO, i1, i2]) : ∃ o, h.get? c = some o ∧ ∀ v, o.data ≠ .cell v := by
  obtain ⟨⟨f0, f, _, g2⟩, g3, ⟨x, y, g4⟩, ⟨o1, g5, _, d1⟩, ⟨o2, g6, _, d2⟩⟩ := st
  simp only [List.mem_cons, List.not_mem_nil, or_false] at hc
  rcases hc with rfl | rfl | rfl | rfl | rfl
  · exact ⟨_, g2, nofun⟩
  · exact ⟨_, g3, nofun⟩
  · exact ⟨_, g4, nofun⟩
  · exact ⟨o1, g5, fun v q => by rw [d1] at q; cases q⟩
  · exact ⟨o2, g6, fun v q => by rw [d2] at q; cases q⟩
theorem ZnSt.keep {i : Nat} {h h' : Heap} (st : ZnSt z TI TO i1 i2 a b i h) (k : ∀ c ∈ [z, TI, TO, i1, i2], ∀ o, h.get? c = some o → h'.get? c = some o) : ZnSt z TI TO i1 i2 a b i h' :=
  ⟨st.zp.imp fun _ q => q.imp fun _ q => ⟨q.1, k z (by simp) _ q.2⟩, k TI (by simp) _ st.ti, st.to.imp fun _ q => q.imp fun _ q => k TO (by simp) _ q, st.w1.at fun o q => k i1 (by simp) o q, st.w2.at fun o q => k i2 (by simp) o q⟩
end
section
variable {X : Cx} {W : WX} {T : List (Addr × Str)} {δ : De} {ω : Om} {a b c elt : Expr} {pos p : Pos} {R : Out → Prop} {ss : List Stmt} {xs ys : List PyData}
end
end FP

namespace FP
open PySem PySem.Spec PyProof.Rows L2 HotX L2H
section
variable {X : Cx} {W : WX} {T : List (Addr × Str)} {δ : De} {ω : Om} {a b c e elt iter : Expr} {pos p : Pos} {R : Out → Prop} {ss body : List Stmt} {d : PyData}
end
end FP

namespace FP
open PySem PySem.Spec PyProof.Rows L2 HotX L2H
section
variable {X : Cx} {W : WX} {T : List (Addr × Str)} {δ : De} {ω : Om} {a b c e o elt iter : Expr} {pos p : Pos} {R : Out → Prop} {ss body : List Stmt} {d : PyData}
/-- a < b < c as a test -/
theorem pt_chaind {op op' : CmpOp} {r r' : R2} {da db dc : PyData} {x y : Bool} (ho : OpR X (compareOp op) r) (ho' : OpR X (compareOp op') r') (hr : RD X.K r da db (.bool x)) (hr' : x = true → RD X.K r' db dc (.bool y)) (ha : PD X δ ω a da) (hb : PD X δ ω b db) (hc : x = true → PD X δ ω c dc)
    (h1 : lastMarks [op, op'] [b, c] = false := by with_unfolding_all rfl) : PTd X δ ω (.Compare a [op, op'] [b, c] pos) (x && y) := fun σ H rl Q q =>
  wt (pt_chain ho ho' pe_w pe_w pe_w h1) (ha σ H rl _ fun u H1 s1 d1 => hb σ H1 (rl.mono s1) _ fun v H2 s2 d2 =>
    hr _ u v H2 (there_mono rl.ro.there (s1.trans s2)) (dpm (hid_same s2) d1) d2 _ fun z H3 s3 d3 => by
      cases d3
      refine ⟨x, rfl, ?_⟩
      cases x with
      | true => exact iteT (hc rfl σ H3 (rl.mono ((s1.trans s2).trans s3)) _ fun t H4 s4 d4 => hr' rfl _ v t H4 (there_mono rl.ro.there (((s1.trans s2).trans s3).trans s4)) (dpm (hid_same (s3.trans s4)) d2) d4 _ fun z H5 s5 d5 => by
          cases d5
          exact ⟨y, rfl, q H5 ((((s1.trans s2).trans s3).trans s4).trans s5)⟩)
      | false => exact iteF ⟨false, rfl, q H3 ((s1.trans s2).trans s3)⟩)
end
end FP

namespace FP
open PySem PySem.Spec PyProof.Rows L2
def spT (K : PySem.W.Frag) (T : List (Addr × Str)) (fr : List PyData → Bool → Prop) : Sp := fun vs H Q _ => ∃ ds b, DpAll K H vs ds ∧ fr ds b ∧ LamX.Tabs T H ∧ ∀ H', Stp T ⟨[], []⟩ ⟨[], []⟩ H H' → Q (.bl b) H'
structure DefT (P : Program) (w : World) (K : PySem.W.Frag) (mg : Str → Option Value) (base : Heap) (T : List (Addr × Str)) (k : Nat) (x : Str) (fr : List PyData → Bool → Prop) : Prop where
  ex : ∃ f fd ps, FnOk P w K mg base (L2N.CX P w) k f fd ps (spT K T fr) ∧ mg x = some (.ref f) ∧ PySem.W.keepIn K (.ref f) = true ∧ L2.Binds K fd ps []
section
variable {X : Cx} {W : WX} {T : List (Addr × Str)} {δ : De} {ω : Om} {a b c e : Expr} {es : List Expr} {d : PyData} {ds : List PyData} {pos p : Pos} {k : Nat} {x : Str} {R : Out → Prop} {ss : List Stmt} {Z : PyData → Om → Prop} {fr : List PyData → Bool → Prop} {v : Bool}
theorem ZE.ex (h : ZE X T δ ω e Z) (q : ∀ d ω', Z d ω' → R (.rt (.im d) ω')) : EX X W T e δ ω R := fun σ H rl t Q k1 _ => h σ H rl t Q fun d ω' v H' z s l dv => k1 (.im d) ω' v H' (q d ω' z) s l dv
end
structure LamY (K : PySem.W.Frag) (mg : Str → Option Value) (base : Heap) (T : List (Addr × Str)) (y : Str) : Prop where
  ex : ∃ P, LamX.TabB base mg (He.codeOf K (y, none)) P ∧ (P, (y ++ ".<locals>.") ++ "<lambda>") ∈ T ∧ ∀ p ∈ T, p.1 = P → p.2 = (y ++ ".<locals>.") ++ "<lambda>"
end FP

namespace FP
open PySem PySem.Spec PyProof.Rows L2 HotX L2H
inductive Sk where
  | l
  | t
def IsS (h : Heap) : Sk → Addr → Array Value → Prop
  | .l => h.IsList
  | .t => h.IsTuple
def ItS (h : Heap) : Sk → Addr → Addr → Nat → Prop
  | .l => h.IsListIter
  | .t => h.IsTupleIter
abbrev itO : Sk → Addr → Obj
  | .l, a => { cls := .type "list_iterator", data := .fields #[.ref a, .int 0 0] }
  | .t, a => { cls := .type "tuple_iterator", data := .fields #[.ref a, .int 0 0] }
theorem IsS.at {k : Sk} {h h' : Heap} {a : Addr} {vs : Array Value} (q : IsS h k a vs) (e : ∀ o, h.get? a = some o → h'.get? a = some o) : IsS h' k a vs := by
  cases k with
  | l => exact let ⟨o, ho, r⟩ := q; ⟨o, e o ho, r⟩
  | t => exact let ⟨o, ho, r⟩ := q; ⟨o, e o ho, r⟩
theorem ItS.at {k : Sk} {h h' : Heap} {a b : Addr} {i : Nat} (q : ItS h k a b i) (e : ∀ o, h.get? a = some o → h'.get? a = some o) : ItS h' k a b i := by
  cases k with
  | l => exact let ⟨o, ho, r⟩ := q; ⟨o, e o ho, r⟩
  | t => exact let ⟨o, ho, r⟩ := q; ⟨o, e o ho, r⟩
theorem IsS.lt {k : Sk} {h : Heap} {a : Addr} {vs : Array Value} (q : IsS h k a vs) : a < h.objs.size := by
  cases k with
  | l => exact let ⟨o, ho, _⟩ := q; Heap.lt_size ho
  | t => exact let ⟨o, ho, _⟩ := q; Heap.lt_size ho
theorem ItS.ob {k : Sk} {h : Heap} {a b : Addr} {i : Nat} (q : ItS h k a b i) : ∃ o, h.get? a = some o ∧ ∀ v, o.data ≠ .cell v := by
  cases k with
  | l => exact let ⟨o, ho, _, d⟩ := q; ⟨o, ho, fun v z => by rw [d] at z; cases z⟩
  | t => exact let ⟨o, ho, _, d⟩ := q; ⟨o, ho, fun v z => by rw [d] at z; cases z⟩
theorem ItS.new {k : Sk} {h : Heap} {a b : Addr} (q : h.get? a = some (itO k b)) : ItS h k a b 0 := by
  cases k with
  | l => exact ⟨_, q, rfl, rfl⟩
  | t => exact ⟨_, q, rfl, rfl⟩
section
variable {prog : Program} {w : World} {A : Around} {E : Value → Shared → Prop} {s : Shared}
/-- the five things that a zip of two is made of -/
structure ZpNew (k1 k2 : Sk) (a b : Addr) (h h' : Heap) : Prop where
  z : h'.get? (h.objs.size + 4) = some (zr .none false (h.objs.size + 2) (h.objs.size + 3))
  ti : IsPair h' (h.objs.size + 2) (.ref h.objs.size) (.ref (h.objs.size + 1))
  to : IsPair h' (h.objs.size + 3) .none .none
  w1 : ItS h' k1 h.objs.size a 0
  w2 : ItS h' k2 (h.objs.size + 1) b 0
  kp : ∀ c o, h.get? c = some o → h'.get? c = some o
end
section
variable {prog : Program} {w : World} {A : Around} {E : Value → Shared → Prop} {s : Shared} {z TI TO i1 i2 : Addr} {fp1 fp2 : List Addr} {n1 n2 i : Nat} {P1 P2 : Nat → Value → Prop} {S1 S2 : Nat → Heap → Prop} {a b f0 : Value} {f : Bool}
end
section
variable {prog : Program} {w : World} {A : Around} {E : Value → Shared → Prop} {s : Shared} {z TI TO : Addr} {f0 : Value} {f : Bool}
end
structure ZsSt (k1 k2 : Sk) (z TI TO i1 i2 a b : Addr) (i : Nat) (h : Heap) : Prop where
  zp : ∃ f0 f, Lent f0 ∧ h.get? z = some (zr f0 f TI TO)
  ti : IsPair h TI (.ref i1) (.ref i2)
  to : ∃ x y, IsPair h TO x y
  w1 : ItS h k1 i1 a i
  w2 : ItS h k2 i2 b i
section
variable {X : Cx} {pins : List (Addr × Obj)} {σ : L2.St} {H : Hp} {s : Shared} {k : Sk} {a : Addr} {xs ys : List V}
end
section
variable {P : Program} {w : World} {K : PySem.W.Frag} {tg : Expr} {k1 k2 : Sk} {z TI TO i1 i2 a b : Addr}
theorem ZsSt.obj {i : Nat} {h : Heap} (st : ZsSt k1 k2 z TI TO i1 i2 a b i h) {c : Addr} (hc : c ∈ [z, TI, TO, i1, i2]) : ∃ o, h.get? c = some o ∧ ∀ v, o.data ≠ .cell v := by
  obtain ⟨⟨f0, f, _, g2⟩, g3, ⟨x, y, g4⟩, g5, g6⟩ := st
  simp only [List.mem_cons, List.not_mem_nil, or_false] at hc
  rcases hc with rfl | rfl | rfl | rfl | rfl
  · exact ⟨_, g2, nofun⟩
  · exact ⟨_, g3, nofun⟩
  · exact ⟨_, g4, nofun⟩
  · exact g5.ob
  · exact g6.ob
theorem ZsSt.keep {i : Nat} {h h' : Heap} (st : ZsSt k1 k2 z TI TO i1 i2 a b i h) (k : ∀ c ∈ [z, TI, TO, i1, i2], ∀ o, h.get? c = some o → h'.get? c = some o) : ZsSt k1 k2 z TI TO i1 i2 a b i h' :=
  ⟨st.zp.imp fun _ q => q.imp fun _ q => ⟨q.1, k z (by simp) _ q.2⟩, k TI (by simp) _ st.ti, st.to.imp fun _ q => q.imp fun _ q => k TO (by simp) _ q, st.w1.at fun o q => k i1 (by simp) o q, st.w2.at fun o q => k i2 (by simp) o q⟩
end
section
variable {X : Cx} {W : WX} {T : List (Addr × Str)} {δ : De} {ω : Om} {a b c elt tg iter : Expr} {pos p zp : Pos} {R : Out → Prop} {ss : List Stmt} {xs ys : List PyData} {da db : PyData}
end
end FP

namespace FP
open PySem PySem.Spec PyProof.Rows L2 HotX L2H
section
variable {K : PySem.W.Frag} {H : Hp} {σ : L2.St} {δ : De} {ω : Om} {j : Nat} {a : Addr} {o : Od} {u : HO}
end
section
variable {X : Cx} {W : WX} {T : List (Addr × Str)} {δ : De} {ω : Om} {b c e o iter elt kx vx tg : Expr} {es : List Expr} {d : PyData} {ds : List PyData} {r : Sd} {pos p p1 sp apos cpos : Pos} {R : Out → Prop} {ss : List Stmt} {a : Addr} {kvs : List (Key × Sd)} {k : Key}
variable {trs : List (TE × TE)} {Z : List (Key × Sd) → Om → Prop} {n : Int}
end
end FP

namespace FP
open PySem PySem.Spec PyProof.Rows L2 HotX L2H
section
variable {X : Cx} {W : WX} {T : List (Addr × Str)} {δ : De} {ω : Om} {a b c e : Expr} {es : List Expr} {d da : PyData} {ds : List PyData} {r : Sd} {pos p : Pos} {R : Out → Prop} {ss : List Stmt}
end
end FP

namespace FP
open PySem PySem.Spec PyProof.Rows L2 HotX L2H
section
variable {X : Cx} {δ : De} {ω : Om} {o : Expr} {pos p : Pos} {a : Addr} {kvs : List (Key × Sd)}
end
end FP

namespace FP
open PySem PySem.Spec PyProof.Rows L2 HotX L2H
section
variable {X : Cx} {W : WX} {T : List (Addr × Str)} {δ : De} {ω : Om} {a b e : Expr} {es r : List Expr} {d da db : PyData} {ds : List PyData} {pos p : Pos}
end
end FP

namespace FP
open PySem PySem.Spec PyProof.Rows L2 HotX L2H
section
variable {prog : Program} {w : World} {A : Around} {R : Result → Shared → Prop} {I : Addr} {fp wr : List Addr} {G : Array GenState → Array GenState → Prop} {n : Nat} {P : Nat → Value → Prop} {St : Nat → Shared → Prop}
end
section
variable {prog : Program} {w : World} {A : Around} {E : Value → Shared → Prop} {s : Shared}
end
end FP

namespace FP
open PySem PySem.Spec PyProof.Rows L2 HotX L2H
section
variable {X : Cx} {δ : De} {ω : Om} {a : Expr} {p p2 q pos : Pos}
end
end FP

namespace FP
open PySem PySem.Spec PyProof.Rows L2 HotX L2H
section
variable {X : Cx} {W : WX} {T : List (Addr × Str)} {δ : De} {ω : Om} {a b e o : Expr} {es : List Expr} {d : PyData} {pos p : Pos} {k : Nat} {x y : Str} {rs : List Sd} {fr : FrG} {R : Out → Prop} {ss : List Stmt}
end
end FP

namespace FP
open PySem PySem.Spec PyProof.Rows L2 HotX L2H
section
variable {X : Cx} {W : WX} {T : List (Addr × Str)} {δ : De} {ω : Om} {a b : Expr} {ds : List PyData} {pos : Pos}
end
end FP

namespace FP
open PySem PySem.Spec PyProof.Rows L2 HotX L2H
section
variable {X : Cx} {δ : De} {ω : Om} {a : Expr} {d : PyData} {ds : List PyData} {pos p : Pos}
end
end FP

namespace FP
open PySem PySem.Spec PyProof.Rows L2 HotX L2H
section
variable {X : Cx} {W : WX} {T : List (Addr × Str)} {δ : De} {ω : Om} {b e o : Expr} {d : PyData} {pos lp ap cp : Pos} {k : Key} {z : Addr} {j : Nat} {kvs : List (Key × Sd)} {R : Out → Prop} {ss : List Stmt}
end
end FP

namespace FP
open PySem PySem.Spec PyProof.Rows L2 HotX L2H
section
variable {X : Cx} {W : WX} {T : List (Addr × Str)} {δ : De} {ω : Om} {o e iter tg kx vx elt : Expr} {es : List Expr} {d : PyData} {a : Addr} {kvs : List (Key × Sd)} {pos p p2 : Pos} {R : Out → Prop} {ss : List Stmt}
theorem AX.perm {Z : List Sd → Om → Prop} {ps : List Addr} {os os' : Os} (hp : os.Perm os') (h : AX X T δ ⟨ps, os'⟩ es Z) : AX X T δ ⟨ps, os⟩ es Z := fun σ H rl t Q k =>
  h σ H (rl.permO hp) t Q fun rs ω' vs H' z st l pr => k rs ω' vs H' z (stp_permL hp st) l pr
end
end FP

namespace FP
open PySem PySem.Spec PyProof.Rows L2 HotX L2H
section
variable {X : Cx} {W : WX} {T : List (Addr × Str)} {δ : De} {ω : Om} {a b e : Expr} {pos p : Pos}
end
end FP

namespace FP
open PySem PySem.Spec PyProof.Rows L2 HotX L2H
section
variable {X : Cx} {W : WX} {T : List (Addr × Str)} {δ : De} {ω : Om} {o b : Expr} {pos p ap cp : Pos} {z : Addr} {kvs : List (Key × Sd)}
end
end FP

namespace FP
open PySem PySem.Spec PyProof.Rows L2 HotX L2H
section
variable {X : Cx} {W : WX} {T : List (Addr × Str)} {δ : De} {ω : Om} {a b o : Expr} {pos p apos : Pos} {z y : Str} {n : Int}
end
end FP

namespace FP
open PySem PySem.Spec PyProof.Rows L2 HotX L2H
section
variable {X : Cx} {W : WX} {T : List (Addr × Str)} {δ : De} {ω : Om} {a b : Expr} {ss : List Stmt} {pos : Pos} {R : Out → Prop} {Z : Addr} {d : PyData}
end
end FP

namespace FP
open PySem PySem.Spec PyProof.Rows L2 HotX L2H
section
variable {X : Cx} {W : WX} {T : List (Addr × Str)} {δ : De} {ω : Om} {a b c e : Expr} {es : List Expr} {d : PyData} {ds : List PyData} {pos p apos : Pos} {R : Out → Prop} {ss sa : List Stmt} {z y : Str} {ts : List TE} {acc out : Str}
end
end FP

namespace FP
open PySem PySem.Spec PyProof.Rows L2 HotX L2H
section
variable {X : Cx} {W : WX} {T : List (Addr × Str)} {δ : De} {ω : Om} {a b e : Expr} {ds : List PyData} {pos : Pos} {R : Out → Prop} {ss : List Stmt}
end
theorem zlen (z : Str) : z.cps.toList.length = z.length := Array.length_toList
theorem cutS_from (z : Str) (n : Nat) : cutS z (some (n : Int)) none = ⟨(z.cps.toList.drop n).toArray⟩ := by
  unfold cutS
  rw [HT.sIx_nat, HT.sIx_none]
  congr 1
  by_cases h : n ≤ z.length
  · rw [Nat.min_eq_left h, List.take_of_length_le (by rw [List.length_drop, zlen]; omega)]
  · rw [Nat.min_eq_right (by omega), Nat.sub_self, List.take_zero, List.drop_eq_nil_of_le (by rw [zlen]; omega)]
theorem cutS_mid (z : Str) {i m : Nat} (h : i ≤ z.length) : cutS z (some (i : Int)) (some ((i + m : Nat) : Int)) = ⟨((z.cps.toList.drop i).take m).toArray⟩ := by
  unfold cutS
  rw [HT.sIx_nat, HT.sIx_nat, Nat.min_eq_left h]
  congr 2
  by_cases h2 : i + m ≤ z.length
  · rw [Nat.min_eq_left h2, show i + m - i = m by omega]
  · rw [Nat.min_eq_right (by omega), List.take_of_length_le (by rw [List.length_drop, zlen]; omega), List.take_of_length_le (by rw [List.length_drop, zlen]; omega)]
end FP

namespace FP
open PySem PySem.Spec PyProof.Rows L2 HotX L2H
def SDT (X : Cx) (W : WX) (T : List (Addr × Str)) (ss : List Stmt) (δ : De) (ω : Om) (R : Out → Prop) : Prop :=
  ∃ t, PSsT X ss t ∧ ∀ σ H D, Rl X.K H σ δ ω → LamX.Tabs T H → Kt X W T ω H D R → t D σ H
section
variable {X : Cx} {W : WX} {T : List (Addr × Str)} {δ : De} {ω : Om} {c o : Expr} {ss : List Stmt} {R : Out → Prop} {z y v : Str} {apos pos p1 p2 p3 : Pos} {j k : Nat}
theorem SD.t (h : SD X W T ss δ ω R) : SDT X W T ss δ ω R := ⟨_, PSsT.of pss_w, h⟩
end
end FP

namespace FP
open PySem PySem.Spec PyProof.Rows L2 HotX L2H
section
variable {X : Cx} {δ : De} {ω : Om} {tg : Expr} {n : Str} {A : Addr} {zs : List Str} {p : Pos}
end
end FP

namespace FP
open PySem PySem.Spec PyProof.Rows L2 HotX L2H
end FP

namespace FP
open PySem PySem.Spec PyProof.Rows L2 HotX L2H
section
variable {X : Cx} {δ : De} {ω : Om} {b : Expr} {n z : Str} {A : Addr} {p2 apos cpos : Pos} {r : Option Value} {d : PyData}
end
end FP

namespace FP
open PySem PySem.Spec PyProof.Rows L2
section
variable {X : Cx} {W : WX} {T : List (Addr × Str)} {δ : De} {ω : Om} {e o : Expr} {es : List Expr} {d d1 d2 : PyData} {ds : List PyData} {pos p p1 apos : Pos} {R : Out → Prop} {ss : List Stmt} {a C : Addr} {fs fs' : Fs} {f x m : Str} {k : Nat} {z : Str}
end
end FP

namespace FP
open PySem PySem.Spec PyProof.Rows L2
section
variable {X : Cx} {W : WX} {T : List (Addr × Str)} {δ : De} {ω : Om} {a b c e o : Expr} {es : List Expr} {d : PyData} {ds : List PyData} {r : Sd} {pos p p1 apos cpos : Pos} {R : Out → Prop} {ss : List Stmt} {z C : Addr} {fs fs' : Fs} {m : Str} {k : Nat} {xs : List Sd}
/-- text.startswith(text) -/
theorem pd_starts {y z : Str} (ha : PD X δ ω a (.str z)) (hb : PD X δ ω b (.str y)) (hs : starEach [b] X.env = [(false, eval b X.env)] := by rfl)
    (hbase : attributeBase a "startswith" X.env (eval a X.env) = eval a X.env := by rfl) (hline : (apos.endLine == pos.line) = true := by rfl) : PD X δ ω (.Call (.Attribute a "startswith" apos) [b] [] pos) (.bool (Txt.startswith z y)) := fun σ H rl Q k =>
  we (pe_m1 F.slot_str_startswith F.type_str_startswith mt_startswith pe_w pe_w hs hbase hline) (ha σ H rl _ fun v H1 s1 d1 => by
    cases d1
    exact ⟨⟨_, rfl⟩, hb σ H1 (rl.mono s1) _ fun u H2 s2 d2 => by
      cases d2
      exact ⟨z, y, rfl, rfl, k _ H2 (s1.trans s2) (.bl _)⟩⟩)
end
end FP

namespace FP
open PySem PySem.Spec PyProof.Rows L2 HotX L2H
section
variable {X : Cx} {pins qins : List (Addr × Obj)} {σ : L2.St} {H : Hp} {s : Shared}
/-- a record whose address no frame has -/
theorem no_frame {base h : Heap} {l : List Env} {b : Addr} {o : Obj} {vs : Array Value} (ff : h.FunFrames base l) (e : h.get? b = some o) (d : o.data = .fields vs) : b ∉ frs l := fun hm => by
  obtain ⟨_, o2, e2, nf⟩ := ff.mem hm
  rw [e] at e2
  cases e2
  exact nf vs d
/-- what a caught exception is: its record, its traceback -/
structure Cau (X : Cx) (cls : Value) (d : Option Addr) (a : Addr) (oe : Obj) (T : Addr) (oT : Obj) : Prop where
  z : L2N.Zn cls d oe
  vs : ∃ vs, oe.data = .fields vs ∧ vs[1]? = some (.ref T)
  ne : T ≠ a
  ts : ∃ ts, oT.data = .fields ts ∧ ts[3]? = some .none
  a0 : X.s_0.heap.get? a = none
  T0 : X.s_0.heap.get? T = none
end
section
variable {X : Cx} {W : WX} {T : List (Addr × Str)} {δ : De} {ω : Om} {e tgt : Expr} {R : Out → Prop} {ss : List Stmt} {Z : Addr} {c : Value} {x : Str} {b₀ : Stmt} {np pos pos' rp apos : Pos} {g : TG}
end
end FP

namespace FP
open PySem PySem.Spec PyProof.Rows L2 HotX L2H
section
variable {X : Cx} {W : WX} {T : List (Addr × Str)} {δ : De} {ω : Om} {a b e : Expr} {pos p : Pos} {k : Nat} {x : Str} {R : Out → Prop} {ss : List Stmt} {Z : Addr} {fr : FrG} {r1 : Sd}
end
end FP

namespace FP
open PySem PySem.Spec PyProof.Rows L2 HotX L2H
section
variable {X : Cx} {W : WX} {δ : De} {ω : Om} {tg iter : Expr} {pos p : Pos} {k : Nat} {x : Str}
end
end FP

namespace FP
open PySem PySem.Spec PyProof.Rows L2 HotX L2H
section
variable {X : Cx} {W : WX} {T : List (Addr × Str)} {δ : De} {ω : Om} {o e b : Expr} {pos p ap cp : Pos} {z : Addr} {kvs : List (Key × Sd)} {ds : List PyData}
end
end FP
namespace FP
open PySem PySem.Spec PyProof.Rows L2 HotX L2H
section
variable {X : Cx} {W : WX} {T : List (Addr × Str)} {δ : De} {ω : Om} {c o2 iter tg : Expr} {pos p1 p2 p3 p4 : Pos} {a : Addr}
end
end FP

namespace FP
open PySem PySem.Spec PyProof.Rows L2 HotX L2H
section
variable {X : Cx} {W : WX} {T : List (Addr × Str)} {δ : De} {ω : Om} {e : Expr} {es : List Expr} {pos p1 apos : Pos} {z C : Addr} {fs : Fo} {x m : Str} {k : Nat} {fr : FrG}
end
section
variable {X : Cx} {W : WX} {T : List (Addr × Str)} {δ : De} {ω : Om} {e : Expr}
end
section
variable {X : Cx} {W : WX} {T : List (Addr × Str)} {δ : De} {ω : Om} {a b c iter tg : Expr} {pos : Pos} {R : Out → Prop} {ss sa : List Stmt}
end
section
variable {X : Cx} {T : List (Addr × Str)} {δ : De} {ω : Om} {o b : Expr} {pos : Pos} {a : Addr}
end
section
variable {X : Cx} {W : WX} {T : List (Addr × Str)} {δ : De} {ω : Om} {e : Expr}
theorem hid_perm {ps : List Addr} {os os' : Os} {H : Hp} (hp : os.Perm os') : hid (ads ⟨ps, os⟩) H = hid (ads ⟨ps, os'⟩) H := by
  funext b
  have m : b ∈ ads ⟨ps, os⟩ ↔ b ∈ ads ⟨ps, os'⟩ := by
    show b ∈ ps ++ os.map (·.1) ↔ b ∈ ps ++ os'.map (·.1)
    rw [List.mem_append, List.mem_append, (hp.map _).mem_iff]
  unfold hid
  by_cases c : b ∈ ads ⟨ps, os⟩
  · rw [if_pos c, if_pos (m.mp c)]
  · rw [if_neg c, if_neg (fun z => c (m.mpr z))]
theorem stp_permR {H H' : Hp} {ps : List Addr} {os os' : Os} (hp : os.Perm os') (st : Stp T ω ⟨ps, os⟩ H H') : Stp T ω ⟨ps, os'⟩ H H' := ⟨st.keep, fun a ha => st.new a ((hp.map _).mem_iff.mpr ha), st.ps, st.tab⟩
/-- the objects afterwards stand in another order -/
theorem YX.permB {Z Z' : Rg → Om → Prop} (h : YX X W T δ ω e Z') (q : ∀ r ω', Z' r ω' → ∃ ps os os', ω' = ⟨ps, os⟩ ∧ os.Perm os' ∧ Z r ⟨ps, os'⟩) : YX X W T δ ω e Z := fun σ H rl t Q k1 k2 => h σ H rl t Q (fun r ω' v H' z s l dv => by
    obtain ⟨ps, os, os', rfl, hp, z⟩ := q _ _ z
    exact k1 r _ v H' z (stp_permR hp s) (l.permO hp) (by rw [← hid_perm hp]; exact dv)) (fun C ω' H' z s l => by
    obtain ⟨ps, os, os', rfl, hp, z⟩ := q _ _ z
    exact k2 C _ H' z (stp_permR hp s) (l.permO hp))
end
section
variable {X : Cx} {T : List (Addr × Str)} {δ : De} {ω : Om} {e : Expr} {trs : List (TE × TE)} {Z : List (Key × Sd) → Om → Prop} {jk : Nat} {kp : Pos} {z : Str}
end
end FP

namespace FP
open PySem PySem.Spec PyProof.Rows L2 HotX L2H
section
variable {X : Cx}
variable {a b : Expr} {rest : List Expr} {pos : Pos} {ta tb : TE}
end
section
variable {X : Cx} {W : WX} {T : List (Addr × Str)} {δ : De} {ω : Om} {a b c e o : Expr} {r : List Expr} {d da db : PyData} {ds : List PyData} {pos ap cp : Pos} {z : Addr} {kvs : List (Key × Sd)} {k : Key}
end
end FP

namespace FP
open PySem PySem.Spec PyProof.Rows L2 HotX L2H
section
variable {X : Cx} {W : WX} {T : List (Addr × Str)} {δ : De} {ω : Om} {a b e o ke : Expr} {es : List Expr} {d : PyData} {pos p : Pos} {k : Nat} {x y : Str} {rs : List Sd} {fr : FrG} {R : Out → Prop} {ss : List Stmt} {trs : List (TE × TE)}
end
section
variable {X : Cx} {W : WX} {T : List (Addr × Str)} {δ : De} {e : Expr} {es : List Expr} {pos p p1 apos : Pos} {z C : Addr} {fs : Fo} {x m : Str} {k : Nat} {fr : FrG} {R : Out → Prop} {rs : List Sd}
end
section
variable {X : Cx} {W : WX} {T : List (Addr × Str)} {δ : De} {ω : Om} {pos : Pos} {R : Out → Prop} {trs : List (TE × TE)}
end
section
variable {X : Cx} {T : List (Addr × Str)} {δ : De} {ω : Om} {es : List Expr}
/-- what was made for a row of values stands in another order -/
theorem AX.permB {Z Z' : List Sd → Om → Prop} (h : AX X T δ ω es Z') (q : ∀ rs ω', Z' rs ω' → ∃ ps os os', ω' = ⟨ps, os⟩ ∧ os.Perm os' ∧ Z rs ⟨ps, os'⟩) : AX X T δ ω es Z := fun σ H rl t Q k => h σ H rl t Q fun rs ω' vs H' z s l pr => by
  obtain ⟨ps, os, os', rfl, hp, z⟩ := q _ _ z
  exact k rs _ vs H' z (stp_permR hp s) (l.permO hp) (by rw [← hid_perm hp]; exact pr)
end
end FP

namespace FP
open PySem PySem.Spec PyProof.Rows L2 HotX L2H
section
variable {prog : Program} {w : World} {κ : Type} [DecidableEq κ] {knd : KeyKind prog w κ} {A : Around} {E : Value → Shared → Prop} {s : Shared}
end
section
variable {X : Cx} {T : List (Addr × Str)} {δ : De} {oe ke ve : Expr} {pos : Pos} {a : Addr} {kvs : List (Key × Sd)} {z : Str} {r : Sd}
end
end FP

namespace FP
open PySem PySem.Spec PyProof.Rows L2 HotX L2H
section
variable {X : Cx} {W : WX} {T : List (Addr × Str)} {δ : De} {ω : Om} {o kx vx : Expr} {pos cpos apos ipos : Pos} {R : Out → Prop} {ss : List Stmt} {a : Addr}
end
end FP

namespace FP
open PySem PySem.Spec PyProof.Rows L2 HotX L2H
section
variable {X : Cx} {δ : De} {ω : Om} {a b c : Expr} {pos : Pos}
end
section
variable {X : Cx} {W : WX} {T : List (Addr × Str)} {δ : De} {e : Expr} {es : List Expr} {pos p : Pos} {x : Str} {k : Nat} {fr : FrG} {R : Out → Prop} {rs : List Sd}
end
end FP

namespace FP
open PySem PySem.Spec PyProof.Rows L2 HotX L2H
def spGT (K : PySem.W.Frag) (T : List (Addr × Str)) (fr : FrG) : Sp := fun vs H Q E => ∃ (os : Os) (as : List Sd) (R : Rg → Os → Prop), Ro K H ⟨[], os⟩ ∧ Paired (SdV K (hid (ads ⟨[], os⟩) H)) as vs ∧ fr os as R ∧ LamX.Tabs T H ∧
  ∀ r os' H', R r os' → Stp T ⟨[], os⟩ ⟨[], os'⟩ H H' → Ro K H' ⟨[], os'⟩ → RgQ K [] os' H' Q E r
structure GOkT (P : Program) (w : World) (K : PySem.W.Frag) (mg : Str → Option Value) (base : Heap) (T : List (Addr × Str)) (k : Nat) (x : Str) (fr : FrG) : Prop where
  ex : ∃ f fd ps, FnOk P w K mg base (L2N.CX P w) k f fd ps (spGT K T fr) ∧ mg x = some (.ref f) ∧ PySem.W.keepIn K (.ref f) = true ∧ L2.Binds K fd ps []
theorem GOkT.mono {P : Program} {w : World} {K : PySem.W.Frag} {mg : Str → Option Value} {base : Heap} {T : List (Addr × Str)} {j k : Nat} {x : Str} {fr : FrG} (G : GOkT P w K mg base T j x fr) (h : j ≤ k) : GOkT P w K mg base T k x fr := by
  obtain ⟨f, fd, ps, F, m, kp, b⟩ := G.ex
  exact ⟨f, fd, ps, F.mono h, m, kp, b⟩
section
variable {P : Program} {w : World} {K : PySem.W.Frag} {mg : Str → Option Value} {base : Heap} {x qual : Str} {params : Arguments} {body : List Stmt} {scope : Scope} {f C : Addr} {fd : FuncData} {N ps : List Str} {k : Nat} {fr : FrG} {T : List (Addr × Str)}
end
section
variable {X : Cx} {W : WX} {T : List (Addr × Str)} {δ : De} {e : Expr} {es : List Expr} {pos p : Pos} {x : Str} {k : Nat} {fr : FrG} {R : Out → Prop} {rs : List Sd} {ss : List Stmt}
end
section
variable {X : Cx} {W : WX} {T : List (Addr × Str)} {δ : De} {e : Expr} {es : List Expr} {pos p p1 apos : Pos} {z C : Addr} {fs : Fo} {x m : Str} {k : Nat} {fr : FrG} {R : Out → Prop} {rs : List Sd}
end
end FP

namespace FP
open PySem PySem.Spec PyProof.Rows L2 HotX L2H
section
variable {X : Cx} {W : WX} {T : List (Addr × Str)} {δ : De} {ω ω1 : Om} {a b c e o iter tg : Expr} {es : List Expr} {d : PyData} {ds : List PyData} {r : Sd} {rs : List Sd} {pos p p1 apos : Pos} {R : Out → Prop} {ss sa sb : List Stmt} {x m : Str} {k : Nat} {Z : PyData → Om → Prop}
end

/-- an expression, while the dict at a is locked and has kvs; the objects stay as they are -/
def LE (X : Cx) (T : List (Addr × Str)) (δ : De) (ω : Om) (a : Addr) (kvs : List (Key × Sd)) (e : Expr) (d : PyData) : Prop := ∀ σ H, Rl X.K H σ δ ω → LamX.Tabs T H → ∀ od vs, H a = some (.frz od (.dK vs)) → KvP X.K (hid (ads ω) H) kvs vs →
  ∀ Q : VK, (∀ v H', Stp T ω ω H H' → Rl X.K H' σ δ ω → Dp X.K (hid (ads ω) H') v d → Q v H') → wpe X e σ H Q
section
variable {X : Cx} {T : List (Addr × Str)} {δ : De} {ω : Om} {iter tg elt : Expr} {pos : Pos} {a : Addr}
end
section
variable {X : Cx} {T : List (Addr × Str)} {δ : De} {a1 b o2 e1 e2 : Expr} {pos p p3 : Pos} {a : Addr} {kvs : List (Key × Sd)} {x : Str} {k : Nat} {fr : FrG} {d d1 d2 da db dz : PyData} {key : Key} {r : Sd} {ω : Om}
end
section
variable {X : Cx} {T : List (Addr × Str)} {δ : De} {ω : Om} {e : Expr} {a : Addr} {kvs : List (Key × Sd)} {d : PyData} {R : Out → Prop} {W : WX} {p pos : Pos}
theorem LE.perm {ps : List Addr} {os os' : Os} (hp : os.Perm os') (h : LE X T δ ⟨ps, os'⟩ a kvs e d) : LE X T δ ⟨ps, os⟩ a kvs e d := fun σ H rl t od vs la pr Q q =>
  h σ H (rl.permO hp) t od vs la (by rw [← hid_perm hp]; exact pr) Q fun v H' st l dv => q v H' (stp_permL hp (stp_permR hp.symm st)) (l.permO hp.symm) (by rw [hid_perm hp]; exact dv)
end
end FP

namespace FP
open PySem PySem.Spec PyProof.Rows L2 HotX L2H
section
variable {X : Cx} {W : WX} {T : List (Addr × Str)} {δ : De} {ω : Om} {e : Expr} {R : Out → Prop} {ss : List Stmt}
end
end FP

namespace FP
open PySem PySem.Spec PyProof.Rows L2
section
variable {X : Cx} {W : WX} {T : List (Addr × Str)} {δ : De} {ω : Om} {a iter : Expr} {pos : Pos} {R : Out → Prop} {ss sa : List Stmt} {ds : List PyData}
end
end FP

namespace FP
open PySem PySem.Spec PyProof.Rows L2
section
variable {X : Cx} {W : WX} {T : List (Addr × Str)} {δ : De} {ω : Om} {e : Expr} {pos : Pos} {R : Out → Prop} {ss : List Stmt} {z C : Addr}
end
end FP

namespace FP
open PySem PySem.Spec PyProof.Rows L2
section
variable {X : Cx} {W : WX} {T : List (Addr × Str)} {δ : De} {ω : Om} {a b e : Expr} {es r : List Expr} {pos : Pos} {R : Out → Prop}
end
end FP

namespace FP
open PySem PySem.Spec PyProof.Rows L2
section
variable {X : Cx} {W : WX} {T : List (Addr × Str)} {δ : De} {ω : Om} {iter tg elt e : Expr} {es : List Expr} {pos p : Pos} {R : Out → Prop}
end
section
variable {X : Cx} {W : WX} {T : List (Addr × Str)} {δ : De} {ω : Om} {a b e : Expr} {es : List Expr} {pos p : Pos} {R : Out → Prop} {C : Addr} {k : Nat} {fr : FrG}
end
end FP

namespace FP
open PySem PySem.Spec PyProof.Rows L2 HotX L2H
section
variable {X : Cx} {W : WX} {T : List (Addr × Str)} {δ : De} {ω : Om} {iter tg elt e : Expr} {es : List Expr} {pos p : Pos} {R : Out → Prop} {ss sa : List Stmt} {a : Addr} {kvs : List (Key × Sd)}
end
section
variable {X : Cx} {T : List (Addr × Str)} {δ : De} {ω : Om} {o2 b e1 : Expr} {pos p p3 : Pos} {a : Addr} {kvs kv2 : List (Key × Sd)} {d : PyData} {key : Key}
end
section
variable {X : Cx} {W : WX} {T : List (Addr × Str)} {δ : De} {ω : Om} {iter tg o2 b b3 e : Expr} {pos p p3 pos' : Pos} {R : Out → Prop} {ss sa : List Stmt} {a c : Addr} {kvs kv2 : List (Key × Sd)} {key k3 : Key} {ob : Od}
end
end FP

namespace FP
open PySem PySem.Spec PyProof.Rows L2
end FP

namespace FP
open PySem PySem.Spec PyProof.Rows L2 HotX L2H
section
variable {X : Cx} {W : WX} {T : List (Addr × Str)} {δ : De} {ω : Om} {pos : Pos} {R : Out → Prop}
end
end FP
namespace FP
open PySem PySem.Spec PyProof.Rows L2 HotX L2H
section
variable {X : Cx} {δ : De} {ω : Om} {pos : Pos}
end
end FP

namespace FP
open PySem PySem.Spec PyProof.Rows L2
section
variable {X : Cx} {W : WX} {T : List (Addr × Str)} {δ : De} {ω : Om} {a b e iter tg elt : Expr} {es : List Expr} {pos p : Pos} {R : Out → Prop} {ss sa : List Stmt} {r : Sd}
mutual
inductive OwnD (os : Os) : Sd → PyData → Prop
  | im (d : PyData) : OwnD os (.im d) d
  | tup {a : Addr} {rs : List Sd} {ds : List PyData} (h : (a, Od.tup rs) ∈ os) (hs : OwnDs os rs ds) : OwnD os (.ad a) (.tuple ds)
  | lst {a : Addr} {rs : List Sd} {ds : List PyData} (h : (a, Od.lst rs) ∈ os) (hs : OwnDs os rs ds) : OwnD os (.ad a) (.list ds)
inductive OwnDs (os : Os) : List Sd → List PyData → Prop
  | nil : OwnDs os [] []
  | cons {r : Sd} {d : PyData} {rs : List Sd} {ds : List PyData} (h : OwnD os r d) (hs : OwnDs os rs ds) : OwnDs os (r :: rs) (d :: ds)
end
theorem lend_hid {os rest : Os} {H : Hp} : Same (hid (ads ⟨[], os ++ rest⟩) H) (hid (ads ⟨[], rest⟩) H) := hid_more fun b h => by
  rcases List.mem_append.mp h with q | q
  · exact absurd q List.not_mem_nil
  · refine List.mem_append_right _ ?_
    show b ∈ (os ++ rest).map (·.1)
    rw [List.map_append]
    exact List.mem_append_right _ q
theorem lend_out {K : PySem.W.Frag} {os rest : Os} {H : Hp} (ro : Ro K H ⟨[], os ++ rest⟩) {a : Addr} {o : Od} (h : (a, o) ∈ os) : a ∉ ads ⟨[], rest⟩ := fun q => by
  have nd := ro.nd
  have nd : ((os ++ rest).map (·.1)).Nodup := nd
  rw [List.map_append] at nd
  rcases List.mem_append.mp q with q | q
  · exact List.not_mem_nil q
  · exact (List.nodup_append.mp nd).2.2 a (List.mem_map.mpr ⟨_, h, rfl⟩) a q rfl
mutual
theorem own_dp {K : PySem.W.Frag} {os rest : Os} {H : Hp} (ro : Ro K H ⟨[], os ++ rest⟩) : ∀ {r : Sd} {d : PyData}, OwnD os r d → ∀ {v : V}, SdV K (hid (ads ⟨[], os ++ rest⟩) H) r v → Dp K (hid (ads ⟨[], rest⟩) H) v d
  | _, _, .im d, v, h => dpm lend_hid h
  | _, _, .tup (a := a) m hs, v, h => by
    have h : v = .ref a := h
    subst h
    obtain ⟨vs, g1, g2⟩ := ro.ob a _ (List.mem_append_left _ m)
    exact .tup (SqT.of (hid_of (lend_out ro m) g1)) (own_dps ro hs g2)
  | _, _, .lst (a := a) m hs, v, h => by
    have h : v = .ref a := h
    subst h
    obtain ⟨vs, g1, g2⟩ := ro.ob a _ (List.mem_append_left _ m)
    exact .lst (SqL.of (hid_of (lend_out ro m) g1)) (own_dps ro hs g2)
theorem own_dps {K : PySem.W.Frag} {os rest : Os} {H : Hp} (ro : Ro K H ⟨[], os ++ rest⟩) : ∀ {rs : List Sd} {ds : List PyData}, OwnDs os rs ds → ∀ {vs : List V}, Paired (SdV K (hid (ads ⟨[], os ++ rest⟩) H)) rs vs → DpAll K (hid (ads ⟨[], rest⟩) H) vs ds
  | _, _, .nil, _, .nil => .nil
  | _, _, .cons h hs, _, .cons a b => .cons (own_dp ro h a) (own_dps ro hs b)
end
end
end FP
namespace FP
open PySem PySem.Spec PyProof.Rows L2
section
variable {X : Cx} {W : WX} {T : List (Addr × Str)} {δ : De} {ω : Om} {iter c elt : Expr} {pos : Pos} {R : Out → Prop}
end
end FP

namespace LC
open PySem PySem.Spec PyProof.Rows L2
/-- the record's context stands in the ground, out of the tracked ones' reach; it has none itself -/
def Way (B : Heap) (H : Hp) (o : Obj) : Prop := ∀ vs, o.data = .fields vs →
  vs[2]? = some .none ∨ ∃ c oc vc, vs[2]? = some (.ref c) ∧ B.get? c = some oc ∧ H c = none ∧ oc.data = .fields vc ∧ vc[2]? = some .none
def Zw (B : Heap) (H : Hp) (cls : Value) (d : Option Addr) : Obj → Prop := fun o => o.cls = cls ∧ o.dict = d ∧ Way B H o
theorem way_one {B : Heap} {H : Hp} {o : Obj} {v : Value} (h : Way B H o) : Way B H (o.mapFields (·.setIfInBounds 1 v)) := by
  obtain ⟨k, dd, dt, sl⟩ := o
  cases dt with
  | fields ws =>
    intro vs e
    have e : Data.fields (ws.setIfInBounds 1 v) = Data.fields vs := e
    cases e
    have q : (ws.setIfInBounds 1 v)[2]? = ws[2]? := by simp [Array.getElem?_setIfInBounds]
    rw [q]
    exact h ws rfl
  | _ =>
    intro vs e
    first
    | exact Data.noConfusion e
    | cases e
theorem Zw.steady {B : Heap} {H : Hp} {cls : Value} {d : Option Addr} : PXN.Steady1 (Zw B H cls d) := fun _ _ h => ⟨PXN.steady_cls _ _ h.1, PXN.steady_dict _ _ h.2.1, way_one h.2.2⟩
theorem zn_zw {B : Heap} {H : Hp} {cls : Value} {d : Option Addr} : ∀ o, L2N.Zn cls d o → Zw B H cls d o := fun _ h => ⟨h.1, h.2.1, fun vs e => .inl (h.2.2 vs e)⟩
theorem sky_imp {B : Heap} {l : List Env} {a L : Addr} {Z Z' : Obj → Prop} {h : Heap} (z : ∀ o, Z o → Z' o) (x : Sky B l a Z L h) : Sky B l a Z' L h := by
  rcases x with ⟨x1, x2, x3, oe, vs, x4, x5, x6⟩ | x | ⟨x1, x2, x3, x4⟩
  · exact .inl ⟨x1, x2, x3, oe, vs, x4, z _ x5, x6⟩
  · exact .inr (.inl (L2H.flyingZ_imp z x))
  · exact .inr (.inr ⟨x1, x2, x3, L2H.tracedZ_imp z x4⟩)
/-- such an exception in the air of X -/
def XE (X : Cx) (W : WX) (u : Value) (t : Shared) : Prop := ∃ (a : Addr) (B : Heap) (t0 : Shared) (pins : List (Addr × Obj)) (σ : L2.St) (H : Hp) (cls : Value) (d : Option Addr),
  u = .ref a ∧ Inv X pins σ H t0 ∧ (∀ b o, t0.heap.get? b = some o → b ∉ frs X.stack → B.get? b = some o) ∧ t0.heap.UpToSlots t.heap ∧ Sky B X.stack a (Zw B H cls d) X.env.locals t.heap ∧ H a = none ∧ t.os = t0.os ∧ AllBare t.gens ∧ W cls d σ H
def Takes (X : Cx) (W : WX) : Prop := ∀ u t, XE X W u t → X.xe u t
def CX (P : Program) (w : World) (outer : List Env) (H : Hp) (s : Shared) (E : XK) (u : Value) (t : Shared) : Prop := ∃ (a : Addr) (B : Heap) (G : Hp) (cls : Value) (d : Option Addr),
  u = .ref a ∧ HandSPX.FlyingZ B outer a (Zw B G cls d) t.heap ∧ HOk P w G B ∧ UB (frs outer) H G s.heap B t.heap ∧ G a = none ∧ t.os = s.os ∧ AllBare t.gens ∧ E cls d G
section
variable {X : Cx} {W : WX} {E : XK} {pins : List (Addr × Obj)} {σ : L2.St} {H : Hp} {s t : Shared} {u : Value}
theorem XE.of_N (x : L2N.XE X W u t) : XE X W u t := by
  obtain ⟨a, B, t0, pn, σ, H, cls, d, x1, x2, x3, x4, x5, x6⟩ := x
  exact ⟨a, B, t0, pn, σ, H, cls, d, x1, x2, x3, x4, sky_imp zn_zw x5, x6⟩
theorem Takes.toN (tk : Takes X W) : L2N.Takes X W := fun u t x => tk u t (.of_N x)
theorem Takes.imp {W' : WX} (tk : Takes X W) (h : ∀ c d σ H, W' c d σ H → W c d σ H) : Takes X W' := fun u t x => by
  obtain ⟨a, B, t0, pn, σ, H, cls, d, x1, x2, x3, x4, x5, x6, x7, x8, x9⟩ := x
  exact tk u t ⟨a, B, t0, pn, σ, H, cls, d, x1, x2, x3, x4, x5, x6, x7, x8, h _ _ _ _ x9⟩
/-- what a callee let out is in our air -/
theorem XE.of_call (I : Inv X pins σ H s) (hW : ∀ cls d G, E cls d G → W cls d σ G) (x : CX X.prog X.w X.stack H s E u t) : XE X W u t := by
  obtain ⟨a, B, G, cls, d, eu, fl, okB, ub, na, os, ag, hE⟩ := x
  have inT := fl.1
  -- the part of the heap that the ground and the frames are
  obtain ⟨P, p1, p2⟩ := restrict t.heap fun b => (B.get? b).isSome || decide (b ∈ frs X.stack)
  have ofB : ∀ b o, B.get? b = some o → P.get? b = some o := fun b o e => (p1 b (by rw [e]; rfl)).trans (inT b o e)
  have ofF : ∀ b, b ∈ frs X.stack → P.get? b = t.heap.get? b := fun b hb => p1 b (by rw [decide_eq_true hb, Bool.or_true])
  have toT : ∀ b o, P.get? b = some o → t.heap.get? b = some o ∧ (b ∉ frs X.stack → B.get? b = some o) := fun b o e => by
    cases k : ((B.get? b).isSome || decide (b ∈ frs X.stack)) with
    | false =>
      rw [p2 b k] at e
      cases e
    | true =>
      have e2 : t.heap.get? b = some o := (p1 b k).symm.trans e
      refine ⟨e2, fun nb => ?_⟩
      rw [decide_eq_false nb, Bool.or_false, Option.isSome_iff_exists] at k
      obtain ⟨o2, g⟩ := k
      rw [inT b o2 g] at e2
      rw [g, e2]
  have J : Inv X pins σ G { s with heap := P, gens := t.gens, drawn := t.drawn, toks := t.toks } := by
    refine I.call (ch := []) ⟨fun b o e n hb _ => ofB b o (ub.keep b o e n hb), fun b o e _ hb _ => ?_, fun b o e n _ => ub.free b o e n, fun b o e _ => ?_, ub.tups, ub.frzs, ub.tbls⟩ (okB.kept ofB) ag (fun _ z => nomatch z)
    · rw [ofF b hb]
      exact ub.slot b o e hb
    · by_cases hb : b ∈ frs X.stack
      · obtain ⟨sl, g⟩ := ub.slot b o e hb
        exact ⟨_, (ofF b hb).trans g⟩
      · obtain ⟨o2, g⟩ := ub.there b o e hb
        exact ⟨o2, ofB b o2 g⟩
  exact ⟨a, B, _, pins, σ, G, cls, d, eu, J, fun b o e nb => (toT b o e).2 nb, Heap.UpToSlots.of_keeps fun b o e => (toT b o e).1, .inr (.inl fl), na, os, ag, hW _ _ _ hE⟩
/-- a new one -/
theorem XE.new {a : Addr} {oe : Obj} {vs : Array Value} {cls : Value} {d : Option Addr} (I : Inv X pins σ H s) (k : ∀ b o, s.heap.get? b = some o → t.heap.get? b = some o) (na : s.heap.get? a = none) (ga : t.heap.get? a = some oe)
    (hz : Zw (PySem.W.hideAll s.heap (frs X.stack)) H cls d oe) (hd : oe.data = .fields vs) (h1 : vs[1]? = some .none) (Ha : H a = none) (os : t.os = s.os) (ag : AllBare t.gens) (w : W cls d σ H) : XE X W (.ref a) t := by
  have sub : ∀ {b o}, (PySem.W.hideAll s.heap (frs X.stack)).get? b = some o → s.heap.get? b = some o := fun e => PySem.W.of_hideAll _ e
  refine ⟨a, _, s, pins, σ, H, cls, d, rfl, I, fun b o e nb => PySem.W.hideAll_get _ e nb, Heap.UpToSlots.of_keeps k, .inl ⟨fun b o e => k b o (sub e), ?_, ?_, oe, vs, ga, hz, hd, h1⟩, Ha, os, ag, w⟩
  · cases e : (PySem.W.hideAll s.heap (frs X.stack)).get? a with
    | none => rfl
    | some o =>
      rw [sub e] at na
      cases na
  · exact (funFrames_none I.stack fun b hb => PySem.W.hideAll_none _ hb).of_keeps fun b o e _ => ⟨o, k b o e, rfl⟩
/-- it leaves the def -/
theorem XE.leave {E1 : Value → Shared → Prop} (hs : X.stack = X.env :: X.outer) (hf : X.env.frame = some X.env.locals) (hex : X.ex = []) (hW : ∀ cls d σ H, W cls d σ H → E cls d H) (x : XE X W u t) :
    wpAny (model X.prog X.w) X.A (leaving X.env u) (fun _ t2 => CX X.prog X.w X.outer X.H_0 X.s_0 E u t2) E1 t := by
  obtain ⟨a, B, t0, pn, σ, H, cls, d, eu, I, nb, up, sky, na, os, ag, w⟩ := x
  subst eu
  have fr : X.A.frames = some (X.env :: X.outer) := I.ok.frames.trans (congrArg some hs)
  have noex : ∀ b, b ∉ X.ex := by
    rw [hex]
    exact fun b => List.not_mem_nil
  have below : ∀ b o, X.s_0.heap.get? b = some o → b ∉ X.fs → b ∉ frs X.stack := fun b o e hb z => by
    rcases List.mem_cons.mp (I.stkSub b z) with q | q
    · have l1 := Nat.lt_of_lt_of_le (Heap.lt_size e) I.ok.above
      rw [q] at l1
      exact Nat.lt_irrefl _ l1
    · exact hb q
  have fin : ∀ h2, HandSPX.FlyingZ B X.outer a (Zw B H cls d) h2 → t.heap.UpToSlots h2 → CX X.prog X.w X.outer X.H_0 X.s_0 E (.ref a) { t with heap := h2 } := fun h2 fl up2 => by
    have sl : ∀ b o, X.s_0.heap.get? b = some o → b ∈ frs X.outer → ∃ sl, h2.get? b = some { o with slots := sl } := fun b o e hb => by
      obtain ⟨_, o1, g1, nf⟩ := I.ok.funs.mem hb
      rw [e] at g1
      cases g1
      obtain ⟨_, g2⟩ := I.base.slot b o e (I.ok.frf b hb) hb (noex b)
      obtain ⟨_, g3⟩ := up b _ g2 nf
      exact ⟨_, (up2 b _ g3 nf).choose_spec⟩
    have th : ∀ b o, X.s_0.heap.get? b = some o → b ∉ frs X.outer → ∃ o', B.get? b = some o' := fun b o e hb => by
      obtain ⟨o1, g1⟩ := I.base.there b o e (noex b)
      exact ⟨o1, nb b o1 g1 (below b o e hb)⟩
    exact ⟨a, B, H, cls, d, rfl, fl, I.inGround nb, ⟨fun b o e n hb => nb b o (I.base.keep b o e n hb (noex b)) (below b o e hb), sl, fun b o e n => I.base.free b o e n (noex b), th, I.base.tups, I.base.frzs, I.base.tbls⟩, na, os.trans I.os, ag, hW _ _ _ _ w⟩
  rw [hs] at sky
  rcases sky with ⟨y1, y2, y3, oe, vs, y4, y5, y6, y7⟩ | fl | hh
  · exact PXN.leaving_firstZ Zw.steady fr y3 hf y4 y1 y2 y6 y7 y5 fin
  · exact PXN.leaves_onZ Zw.steady fr hf fl fin
  · exact HandSPX.leaves_heldZ hf hh fin
theorem takes_of {E1 : Value → Shared → Prop} (hs : X.stack = X.env :: X.outer) (hf : X.env.frame = some X.env.locals) (hex : X.ex = []) (hx : X.xe = fun e t => wpAny (model X.prog X.w) X.A (leaving X.env e) (fun _ t2 => CX X.prog X.w X.outer X.H_0 X.s_0 E e t2) E1 t) :
    Takes X (fun cls d _ G => E cls d G) := fun u t x => by
  rw [hx]
  exact XE.leave (W := fun cls d _ G => E cls d G) hs hf hex (fun _ _ _ _ q => q) x
theorem passAt (tk : Takes X W) (σ : L2.St) : PassesAt (CX X.prog X.w) X σ (WE W σ) := fun _ _ _ e t I x => tk e t (XE.of_call I (fun _ _ _ q => q) x)
end
end LC

namespace LC
open PySem PySem.Spec PyProof.Rows L2 HotX
/-- x is handled, l its context (none, or one) -/
def Hot2 (A : Around) (x : Addr × Obj) (l : List (Addr × Obj)) : Prop := A.handled = some (.ref x.1) ∧ ∃ vs, x.2.data = .fields vs ∧
  ((l = [] ∧ vs[2]? = some .none) ∨ ∃ (y : Addr × Obj) (vy : Array Value), l = [y] ∧ vs[2]? = some (.ref y.1) ∧ y.1 ≠ x.1 ∧ y.2.data = .fields vy ∧ vy[2]? = some .none)
def HotIn (A : Around) (x : Addr × Obj) (l : List (Addr × Obj)) (h : Heap) : Prop := Hot2 A x l ∧ ∀ p ∈ x :: l, h.get? p.1 = some p.2
section
variable {prog : Program} {w : World} {A : Around} {E : Value → Shared → Prop} {s : Shared} {x : Addr × Obj} {l : List (Addr × Obj)} {a : Addr}
theorem HotIn.keep {h h' : Heap} (t : HotIn A x l h) (k : ∀ b o, h.get? b = some o → h'.get? b = some o) : HotIn A x l h' := ⟨t.1, fun p hp => k _ _ (t.2 p hp)⟩
theorem quiet_unchain (args : Args) : (Code.builtin "proto.unchain" args).quiet = true := Code.quiet_builtin _ (by decide +kernel)
theorem unchained2 {Q : Value → Shared → Prop} (t : HotIn A x l s.heap) (na : ∀ p ∈ x :: l, p.1 ≠ a) (q : Q .none s) :
    wpAny (model prog w) A (holding [Value.ref a] (runValue (.builtin "proto.unchain" ⟨[.ref a, .ref x.1, .ref x.1, .bool false], []⟩))) Q E s := by
  obtain ⟨⟨_, vs, dx, c | ⟨y, vy, rfl, cy, ny, dy, cn⟩⟩, g⟩ := t
  · exact unchained (g x List.mem_cons_self) dx c.2 q
  · have gx := g x List.mem_cons_self
    have gy := g y (List.mem_cons_of_mem _ List.mem_cons_self)
    have nay := na y (List.mem_cons_of_mem _ List.mem_cons_self)
    refine wpAny_holding (wpAny_runValue (codeAny_builtin entry_unchain ?_))
    show wpAny _ _ (field (.ref x.1) 2 >>= _) _ _ s
    refine wpAny_bind (wpAny_field gx dx cy ?_)
    rw [if_neg (c := (Value.ref y.1 == Value.none) = true) Bool.false_ne_true]
    have e1 : ¬ ((Value.ref y.1 == Value.ref a) = true) := fun z => nay (Value.ref.inj (eq_of_beq z))
    have e2 : ¬ ((Value.ref y.1 == Value.ref x.1) = true) := fun z => ny (Value.ref.inj (eq_of_beq z))
    rw [if_neg e1, if_neg e2]
    refine wpAny_bind ?_
    simp only [Bool.false_eq_true, if_false]
    refine wpAny_pure ?_
    refine wpAny_pure ⟨quiet_unchain _, codeAny_builtin entry_unchain ?_⟩
    show wpAny _ _ (field (.ref y.1) 2 >>= _) _ _ s
    refine wpAny_bind (wpAny_field gy dy cn ?_)
    rw [if_pos (show (Value.none == Value.none) = true from rfl)]
    first
    | exact wpAny_bind (wpAny_pure (wpAny_pure q))
    | exact wpAny_pure q
/-- a new exception is raised there -/
theorem raiseNew2 {α : Type} {oe : Obj} {vs : Array Value} {Q : α → Shared → Prop} (t : HotIn A x l s.heap) (na : ∀ p ∈ x :: l, p.1 ≠ a) (ga : s.heap.get? a = some oe) (da : oe.data = .fields vs) (hi : 2 < vs.size)
    (hE : E (.ref a) { s with heap := s.heap.update a (Obj.mapFields (·.setIfInBounds 2 (.ref x.1))) }) : wpAny (model prog w) A (raiseNew (.ref a) : Sem α) Q E s := by
  have hh := t.1.1
  have ne : (Value.ref x.1 != Value.ref a) = true := ref_bne (na x List.mem_cons_self)
  unfold raiseNew
  refine wpAny_bind (wpAny_handled ?_)
  rw [hh]
  first
  | (show wpAny _ _ (if (Value.ref x.1 != Value.ref a) = true then _ else _) _ _ _
     rw [if_pos ne]
     first
     | exact wpAny_bind (unchained2 t na (wpAny_bind (chained ga da hi (wpAny_throw hE))))
     | exact wpAny_bind (wpAny_bind (unchained2 t na (chained ga da hi (wpAny_throw hE)))))
  | (refine wpAny_bind ?_
     show wpAny _ _ (if (Value.ref x.1 != Value.ref a) = true then _ else _) _ _ _
     rw [if_pos ne]
     exact wpAny_bind (unchained2 t na (chained ga da hi (wpAny_throw hE))))
/-- a list is walked to its end there -/
theorem next_end2 {it p : Addr} {i : Nat} {items : Array Value} {Q : Option Value → Shared → Prop} (t : HotIn A x l s.heap) (hp : ∀ p ∈ x :: l, p.1 ≠ it) (hi : s.heap.IsListIter it p i) (hl : s.heap.IsList p items) (hx : items[i]? = none)
    (hQ : ∀ h', (∀ b o, b ≠ it → s.heap.get? b = some o → h'.get? b = some o) → Q none { s with heap := h' }) : wpAny (model prog w) A (pyNext (.ref it)) Q E s := by
  obtain ⟨oi, gi, ci, di⟩ := id hi
  obtain ⟨ol, gl, _, nl, dl⟩ := hl
  unfold pyNext
  refine wpAny_bind (wpAny_attempt (wpAny_callSpecial?_slot (name := Str.ofString "__next__") hi.typeIs slot_listiter_next (wpAny_call_entry slot_listiter_next hi.typeIs entry_listiter_next ?_ (args_listiter_next _))))
  show wpAny _ _ (field (.ref it) 0 >>= _) _ _ s
  refine wpAny_bind (wpAny_field gi di (x := .ref p) rfl ?_)
  show wpAny _ _ (if (Value.ref p == Value.none) = true then _ else _) _ _ s
  rw [if_neg (c := (Value.ref p == Value.none) = true) Bool.false_ne_true]
  show wpAny _ _ (field (.ref it) 1 >>= _) _ _ s
  refine wpAny_bind (wpAny_field gi di (x := .int i 0) rfl ?_)
  show wpAny _ _ (seqItems? (.ref p) >>= _) _ _ _
  refine wpAny_bind (wpAny_seqItems gl dl ?_)
  simp only [Int.toNat_natCast, hx]
  refine wpAny_bind (wpAny_rule (wpAny_bind (wpAny_setField gi di (by simp) ?_)))
  show wpAny _ _ (newExc (.type "StopIteration") [] >>= fun e => raiseNew e) _ _ _
  have old : ∀ b o, b ≠ it → s.heap.get? b = some o → (s.heap.update it (Obj.mapFields (·.setIfInBounds 0 Value.none))).get? b = some o := fun b o n z => (Heap.get?_update_other _ _ (Ne.symm n)).trans z
  have old1 : ∀ q ∈ x :: l, (s.heap.update it (Obj.mapFields (·.setIfInBounds 0 Value.none))).get? q.1 = some q.2 := fun q hq => old _ _ (hp q hq) (t.2 q hq)
  refine wpAny_bind ?_
  simp only [newExc, newTuple]
  refine wpAny_bind (wpAny_newObj_type (wpAny_bind (m := firstArgMember _ _) (wpAny_of_eq (a := Value.none) (by first | rfl | (simp only [firstArgMember]; rfl)) (wpAny_newObj_type ?_ (by size_fits)))) (by size_fits))
  refine raiseNew2 ⟨t.1, fun q hq => Heap.get?_push_of_some _ (Heap.get?_push_of_some _ (old1 q hq))⟩ (fun q hq => Nat.ne_of_lt (Heap.lt_size (Heap.get?_push_of_some _ (old1 q hq)))) (Heap.get?_push_size _ rfl) rfl (by first | (simp; done) | (simp; omega) | (simp only [Array.size_append]; simp; omega)) ?_
  refine wpAny_bind (wpAny_isInstance (T := "StopIteration") (b := true) ⟨_, Heap.get?_update_self _ (Heap.get?_push_size _ rfl) rfl, rfl⟩ isSubtype_stop (wpAny_pure (hQ _ fun b o n z => ?_)))
  rw [Heap.get?_update_other _ _ (Nat.ne_of_gt (Heap.lt_size (Heap.get?_push_of_some _ (old b o n z))))]
  exact Heap.get?_push_of_some _ (Heap.get?_push_of_some _ (old b o n z))
end
/-- the context bears it -/
def HotG (X : L2.Cx) : Prop := ∃ x l, Hot2 X.A x l ∧ ∀ p ∈ x :: l, p ∈ X.pn
theorem HotG.at {X : L2.Cx} {pins : List (Addr × Obj)} {σ : L2.St} {H : Hp} {s : Shared} (c : HotG X) (I : Inv X pins σ H s) : ∃ x l, HotIn X.A x l s.heap := by
  obtain ⟨x, l, h, m⟩ := c
  exact ⟨x, l, h, fun p hp => (I.pin p (List.mem_append_left _ (m p hp))).1⟩
end LC

namespace LC
open PySem PySem.Spec PyProof.Rows L2 HotX FP
/-- a list that is walked while x is handled -/
theorem walk2 {prog : Program} {w : World} {A : Around} {it q : Addr} {items : Array Value} {x : Addr × Obj} {l : List (Addr × Obj)} (hq : q ≠ it) (hp : ∀ p ∈ x :: l, p.1 ≠ it) :
    WalksS prog w A it (it :: q :: (x :: l).map (·.1)) [it] (fun a b => b = a) items.size (fun i v => items[i]? = some v) (fun i s => s.heap.IsListIter it q i ∧ s.heap.IsList q items ∧ HotIn A x l s.heap) where
  sub := fun b hb => by
    rw [List.mem_singleton.mp hb]
    exact List.mem_cons_self
  grefl := fun _ => rfl
  gtrans := fun _ _ _ a b => b.trans a
  frame := fun i s h' tk st _ k => by
    obtain ⟨s1, s2, hh, g⟩ := st
    exact ⟨s1.at fun o e => k it (by simp) o e, s2.at fun o e => k q (by simp) o e, hh, fun p m => k p.1 (List.mem_cons_of_mem _ (List.mem_cons_of_mem _ (List.mem_map_of_mem m))) _ (g p m)⟩
  item := fun i s Q E hi st k => by
    obtain ⟨s1, s2, hh, g⟩ := st
    refine wpAny_pyNext_list_item s1 s2 (x := items[i]) (by simp [hi]) fun h' t sb => k _ _ (by simp [hi]) ⟨t, s2.extBut sb.extBut hq, hh, fun p m => (sb.2 p.1 (hp p m)).trans (g p m)⟩ ⟨fun b o hb e => (sb.2 b fun z => hb (by simp [z])).trans e, rfl, rfl, rfl, Nat.le_refl _⟩
  done := fun s Q E st k => by
    obtain ⟨s1, s2, h⟩ := st
    exact next_end2 h hp s1 s2 (by simp) fun h' e => k _ ⟨fun b o hb g => e b o (fun z => hb (by simp [z])) g, rfl, rfl, rfl, Nat.le_refl _⟩
  self := fun _ _ _ _ st h => wpAny_pyIter_listiter st.1 h
/-- sum(xs) of a list of whole numbers, while an exception is handled -/
theorem cr_sum2 {X : L2.Cx} (hc : HotG X) : CallR X (.builtin "sum") (rSum X.K) := by
  intro pins s σ H vs us Q I r h
  obtain ⟨a, ns, rfl, hs, q⟩ := h
  obtain ⟨its, rv, hl, _⟩ := I.list hs
  obtain ⟨p, pl, hot⟩ := hc.at I
  rw [Vals.ref1 r]
  have lt : a < s.heap.objs.size := by
    obtain ⟨_, e, _⟩ := hl.isList
    exact Heap.lt_size e
  have ltp : ∀ r ∈ p :: pl, r.1 < s.heap.objs.size := fun r m => Heap.lt_size (hot.2 r m)
  have len : its.length = ns.length := by
    rw [← rv.length, List.length_map]
  refine call_sum_walkAnyS (wpAny_pyIter_list hl.isList ?_)
  refine ⟨_, _, _, _, _, _, _, fun i => ns.getD i 0, rfl, walk2 (q := a) (x := p) (l := pl) (items := its.toArray) (Nat.ne_of_lt lt) (fun r m => Nat.ne_of_lt (ltp r m)), ⟨⟨_, Heap.get?_push_size _ rfl, rfl, rfl⟩, hl.isList.push _, hot.keep fun _ _ e => Heap.get?_push_of_some _ e⟩, fun b hb => ?_, fun i v hv => ?_, fun s' t' m => ?_⟩
  · rw [Heap.size_push]
    rcases List.mem_cons.mp hb with z | hb
    · rw [z]
      exact Nat.lt_succ_self _
    · rcases List.mem_cons.mp hb with z | hb
      · rw [z]
        exact Nat.lt_succ_of_lt lt
      · obtain ⟨r, m, z⟩ := List.mem_map.mp hb
        rw [← z]
        exact Nat.lt_succ_of_lt (ltp r m)
  · have hi : i < ns.length := by
      have := (Array.getElem?_eq_some_iff.mp hv).1
      simp at this
      omega
    have e1 : (ns.map V.int)[i]? = some (V.int (ns.getD i 0)) := by
      rw [List.getElem?_map, List.getElem?_eq_getElem hi, List.getD_eq_getElem?_getD, List.getElem?_eq_getElem hi]
      rfl
    obtain ⟨u, hu, ru⟩ := rv.get e1
    have e2 : some v = some u := by
      rw [← hv, ← hu]
      simp
    cases e2
    exact ru
  · have e := preSum_take (f := fun i => ns.getD i 0) (ns := ns) (fun _ _ => rfl) ns.length (Nat.le_refl _)
    have e2 : its.toArray.size = ns.length := by simp [len]
    rw [e2, e, List.take_length]
    obtain ⟨m1, m2, m3, m4, m5⟩ := m
    obtain ⟨h', g', d', k', o'⟩ := s'
    cases m2
    cases m3
    cases m4
    exact ⟨.int _, H, I.kept (h' := h') (t' := k') fun b o z => m1 b o (fun n => by
      rw [List.mem_singleton.mp n] at z
      exact absurd (Heap.lt_size z) (Nat.lt_irrefl _)) (Heap.get?_push_of_some _ z), ⟨_, rfl⟩, q⟩
end LC

namespace LC
open PySem PySem.Spec PyProof.Rows L2 HotX FP
section
variable {X : L2.Cx}
theorem pe_lc2 {elt l : Expr} {scope : Scope} {y : Str} {py pos : Pos} {j : Nat} {tl te : TE} (hc : HotG X) (hN : X.N.Nodup) (hl : PE X l tl) (ok : BlkOk X.N X.env.scope scope [(y, j)])
    (hg : ∀ (s : Shared) (H : Hp) (C : Addr) (cl : List (Str × Addr)) (fp : List Addr), PG (X.blk s H scope (compEnvC scope cl C X.env) fp) (.Name y py) (gName j))
    (he : ∀ (s : Shared) (H : Hp) (C : Addr) (cl : List (Str × Addr)) (fp : List Addr), PE (X.blk s H scope (compEnvC scope cl C X.env) fp) elt te)
    (hs : ∀ x, foldedSetIterable l X.env x = pure x := by intro _; rfl) : PE X (.ListComp elt [⟨.Name y py, l, [], 0⟩] scope pos) (FP.tLh X.K j tl te) := by
  refine ⟨fun pins s0 σ H Q I h => ?_⟩
  have clo : ∀ z ∈ scope.names, z.2 = .free → ∃ c, X.env.cells.lookup z.1 = some c := fun z hz e => I.ok.has _ ((ok.free z hz e).elim .inl .inr)
  rw [eval_ListComp]
  refine wpAny_comprehension_free (use := none) rfl hs (closure_ok clo) ok.kind (fun z hz e => by rw [ok.uniq z hz, e]) (thn (hl.run pins s0 σ H _ I h) fun lv sa hx => ?_)
  obtain ⟨v, G, Ia, rv, a, xs, ys, ev, hsq, hlen, hsm, hstep, hend⟩ := hx
  subst ev
  obtain rfl : lv = Value.ref a := rv
  obtain ⟨its, rits, pl, _⟩ := Ia.list hsq
  obtain ⟨pp, pl2, hot1, hpn⟩ := hc
  -- the iterator, then the new list
  refine wpAny_pyIter_list pl.isList (wpAny_newObj_type (newEnv_comp ?_) (by show 0 ≤ sizeLine; decide))
  generalize eI : sa.heap.objs.size = it
  have fI : FpOk X pins G it := Ia.fpOk (Nat.le_of_eq eI) (Ia.hok.fresh (Nat.le_of_eq eI))
  generalize eb : ({ sa with heap := sa.heap.push { cls := .type "list_iterator", data := .fields #[.ref a, .int 0 0] } } : Shared) = sb
  have hb : sb.heap = sa.heap.push { cls := .type "list_iterator", data := .fields #[.ref a, .int 0 0] } := by rw [← eb]
  have Ib : Inv X pins σ G sb := by
    rw [← eb]
    exact Ia.kept (t' := sa.toks) fun b o e => Heap.get?_push_of_some _ e
  have turn0 : sb.heap.IsListIter it a 0 := by
    rw [hb, ← eI]
    exact ⟨_, Heap.get?_push_size _ rfl, rfl, rfl⟩
  have szI : it < sb.heap.objs.size := by
    obtain ⟨_, e, _⟩ := turn0
    exact Heap.lt_size e
  generalize eD : sb.heap.objs.size = D
  have nD : G D = none := Ib.hok.fresh (Nat.le_of_eq eD)
  have ItD : it ≠ D := by
    rw [← eD]
    exact Nat.ne_of_lt szI
  generalize ec : ({ sb with heap := sb.heap.push { cls := .type "list", data := .seq ([] : List Value).toArray } } : Shared) = sc
  have hcH : sc.heap = sb.heap.push { cls := .type "list", data := .seq ([] : List Value).toArray } := by rw [← ec]
  have Ic : Inv X pins σ (upd G D (.lst [])) sc := by
    rw [← ec]
    refine Ib.laid (t' := sb.toks) (fun b o e => Heap.get?_push_of_some _ e) (Nat.le_of_eq eD) ⟨Nat.zero_le _, [], 0, .nil, ?_⟩
    rw [← eD]
    exact Heap.get?_push_size _ rfl
  have fIc : FpOk X pins (upd G D (.lst [])) it := ⟨by rw [upd_ne ItD]; exact fI.1, fI.2⟩
  have szc : it < sc.heap.objs.size := by
    rw [hcH, Heap.size_push]
    exact Nat.lt_succ_of_lt szI
  have all1 : ∀ b ∈ [it], FpOk X pins (upd G D (.lst [])) b ∧ b < sc.heap.objs.size := fun b hb1 => by
    rw [List.mem_singleton.mp hb1]
    exact ⟨fIc, szc⟩
  have Id := block_start Ic ok hN all1
  have pg := hg sc (upd G D (.lst [])) sc.heap.objs.size (cellsFrom (sc.heap.objs.size + 1) scope.names (cloFrom X.env.cells scope.names [])) [it]
  have pe := he sc (upd G D (.lst [])) sc.heap.objs.size (cellsFrom (sc.heap.objs.size + 1) scope.names (cloFrom X.env.cells scope.names [])) [it]
  have PPc := fun r (m : r ∈ pp :: pl2) => Ic.pin r (List.mem_append_left _ (hpn r m))
  have nPit : ∀ r ∈ pp :: pl2, r.1 ≠ it := fun r m => fI.2.2.2.2.2 r (List.mem_append_left _ (hpn r m))
  have nPstk : ∀ r ∈ pp :: pl2, r.1 ∉ frs X.stack := fun r m z => (List.mem_cons.mp (Ic.stkSub r.1 z)).elim (PPc r m).2.2.1 (PPc r m).2.2.2.1
  show codeAny _ _ (.compStart (.ListComp elt [⟨.Name y py, l, [], 0⟩] scope pos) 0 (.ref it) (.ref D) (compEnvC scope (cellsFrom (sc.heap.objs.size + 1) scope.names (cloFrom X.env.cells scope.names [])) sc.heap.objs.size X.env)) (compPost (model X.prog X.w) X.A X.xe none _ (.ref D) sc.heap.objs.size) { sc with heap := pushCells (sc.heap.push { cls := .type "dict", data := .dict #[] }) scope.names }
  generalize eE : compEnvC scope (cellsFrom (sc.heap.objs.size + 1) scope.names (cloFrom X.env.cells scope.names [])) sc.heap.objs.size X.env = ce1 at Id pg pe ⊢
  have eL : ce1.locals = sc.heap.objs.size := by
    subst eE
    rfl
  generalize ed : ({ sc with heap := pushCells (sc.heap.push { cls := .type "dict", data := .dict #[] }) scope.names } : Shared) = sd at Id ⊢
  have turnD : sd.heap.IsListIter it a 0 := turn0.at fun o e => by
    rw [← ed]
    refine pushCells_keeps _ _ _ _ (Heap.get?_push_of_some _ ?_)
    rw [hcH]
    exact Heap.get?_push_of_some _ e
  -- what holds at the i-th turn
  have hotIn : ∀ {σ' : L2.St} {H' : Hp} {s' : Shared} {pins' : List (Addr × Obj)}, Inv (X.blk sc (upd G D (.lst [])) scope ce1 [it]) pins' σ' H' s' → HotIn X.A pp pl2 s'.heap := fun {σ' H' s' pins'} J =>
    ⟨hot1, fun r m => J.base.keep r.1 r.2 (PPc r m).1 (PPc r m).2.1 (nPstk r m) (fun z => nPit r m (List.mem_singleton.mp z))⟩
  have free1 : ∀ {σ' : L2.St} {H' : Hp} {s' : Shared}, Inv (X.blk sc (upd G D (.lst [])) scope ce1 [it]) [] σ' H' s' → H' it = none → FpOk (X.blk sc (upd G D (.lst [])) scope ce1 [it]) [] H' it := fun {σ' H' s'} J n =>
    ⟨n, (J.ok.exf it List.mem_cons_self).1, J.ok.exfs it List.mem_cons_self, .inl List.mem_cons_self, (J.ok.exf it List.mem_cons_self).2, fun q hq => nomatch (show q ∈ ([] : List (Addr × Obj)) from hq)⟩
  have sqIn : ∀ {H' : Hp}, (∀ b o, b ≠ D → G b = some o → H' b = some o) → SqL X.K H' a xs := fun {H'} k => by
    have s1 : Same G (upd H' D (.lst [])) := fun b o e => by
      by_cases z : b = D
      · rw [z, nD] at e
        cases e
      · rw [upd_ne z]
        exact k b o z e
    rcases hsq with (g | ⟨o, g⟩) | g
    · exact .inl (.inl (k a _ (fun z => by rw [z, nD] at g; cases g) g))
    · exact .inl (.inr ⟨o, k a _ (fun z => by rw [z, nD] at g; cases g) g⟩)
    · exact .inr g
  have loop : codeAny (model X.prog X.w) X.A (.compLoop (.ListComp elt [⟨.Name y py, l, [], 0⟩] scope pos) 0 (.ref it) (.ref D) ce1) (compPost (model X.prog X.w) X.A X.xe none (EP X pins σ Q) (.ref D) sc.heap.objs.size) sd := by
    refine compLoop_any (fun m s' => ∃ i H', m = xs.length - i ∧ i ≤ xs.length ∧ Inv (X.blk sc (upd G D (.lst [])) scope ce1 [it]) [] (wipe σ [j]) H' s' ∧ s'.heap.IsListIter it a i ∧ H' it = none ∧ H' D = some (.lst (ys.take i)) ∧ ∀ b o, b ≠ D → G b = some o → H' b = some o) ?_ xs.length
      ⟨0, _, by omega, Nat.zero_le _, Id, turnD, fIc.1, by rw [List.take_zero]; exact upd_same, fun b o n e => by rw [upd_ne n]; exact e⟩
    rintro m s5 ⟨i, H5, em, hi, I5, t5, n5, d5, k5⟩
    obtain ⟨its5, r5, pl5, _⟩ := I5.list (sqIn k5)
    have F5 := free1 I5 n5
    by_cases hlt : i < xs.length
    · have ex : xs[i]? = some xs[i] := List.getElem?_eq_getElem hlt
      have ey : ys[i]? = some ys[i] := List.getElem?_eq_getElem (by omega)
      obtain ⟨u, hu, ru⟩ := r5.get ex
      refine wpAny_pyNext_list_item t5 pl5.isList (x := u) (by simpa using hu) fun h6 t6 sb6 => ?_
      have I6 : Inv (X.blk sc (upd G D (.lst [])) scope ce1 [it]) [] (wipe σ [j]) H5 { s5 with heap := h6 } := I5.turned (t' := s5.toks) (fun b o n e => (sb6.2 b n).trans e) F5.1 F5.2.1 F5.2.2.2.1 F5.2.2.2.2.1 F5.2.2.2.2.2
      obtain ⟨o6, e6, c6, q6⟩ := id t6
      refine go_of (s := { s5 with heap := h6 }) e6 c6 q6 (by decide) ?_
      have I7 := I6.pinned (fp := [it]) (fun b hb1 => by rw [List.mem_singleton.mp hb1]; exact free1 I6 n5) (fun b hb1 => by
        rw [List.mem_singleton.mp hb1]
        exact ⟨o6, e6, fun v z => by rw [q6] at z; cases z⟩)
      refine thnF (pg.run _ _ _ H5 xs[i] u (fun σ8 H8 => σ8 = σ.set j (some xs[i]) ∧ H8 = H5) I7 ru ⟨by show ((σ.set j none).set j (some xs[i])) = _; rw [List.set_set], rfl⟩) fun _ s8 w8 => ?_
      obtain ⟨σ8, H8, I8, w8, w9⟩ := w8
      subst w8
      subst w9
      refine wpAny_tests_nil ?_
      simp only [if_true]
      -- the element; D hidden away
      have s1 : ∃ G1, Same G G1 ∧ True := ⟨G, Same.refl G, trivial⟩
      refine thnF (pe.run _ s8 _ H8 (fun z H9 => z = ys[i] ∧ H9 D = some (.lst (ys.take i)) ∧ ∀ b o, H8 b = some o → H9 b = some o) I8 ?_) fun uz s9 w => ?_
      · refine hstep i xs[i] ys[i] ex ey H8 (fun b o e => k5 b o (fun z => by rw [z, nD] at e; cases e) e) _ fun G2 s2 => ⟨rfl, s2 D _ d5, fun b o e => s2 b o e⟩
      · obtain ⟨z, H9, I9, r9, z9, d9, k9⟩ := w
        subst z9
        refine app_ok (X := X.blk sc (upd G D (.lst [])) scope ce1 [it]) I9 d9 (by rw [List.length_take]; exact Nat.lt_of_le_of_lt (Nat.min_le_left _ _) (Nat.lt_of_lt_of_le hlt (Nat.le_trans hsm (by rw [sizeLine_eq]; decide)))) r9 fun s11 I11 => ?_
        have P11 := I11.pin (it, o6) (List.mem_append_right _ (List.mem_append_right _ (mem_pinsAt List.mem_cons_self e6)))
        refine ⟨xs.length - (i + 1), by omega, i + 1, _, rfl, hlt, (I11.unpinned (pins := [])).weak (by show (σ.set j none).length = (σ.set j (some xs[i])).length; rw [List.length_set, List.length_set]) (fun q v e => ?_), ⟨o6, P11.1, c6, q6⟩, P11.2.1, ?_, fun b o n e => ?_⟩
        · have e : (σ.set j none)[q]? = some (some v) := e
          by_cases hq : j = q
          · subst hq
            by_cases hz : j < σ.length
            · rw [List.getElem?_set_self hz] at e
              cases e
            · rw [List.getElem?_eq_none (by rw [List.length_set]; omega)] at e
              cases e
          · rw [List.getElem?_set_ne hq] at e ⊢
            exact e
        · rw [upd_same, List.take_add_one, ey]
          rfl
        · rw [upd_ne n]
          exact k9 b o (k5 b o n e)
    · have ei : i = xs.length := by omega
      subst ei
      refine next_end2 (hotIn I5) nPit t5 pl5.isList (by have := r5.length; simp; omega) fun h6 k6 => ?_
      have I6 : Inv (X.blk sc (upd G D (.lst [])) scope ce1 [it]) [] (wipe σ [j]) H5 { s5 with heap := h6 } := I5.turned (t' := s5.toks) (fun b o n e => k6 b o n e) F5.1 F5.2.1 F5.2.2.2.1 F5.2.2.2.2.1 F5.2.2.2.2.2
      have I7 : Inv X pins σ H5 { s5 with heap := h6 } := Ic.call' (ch := [it]) I6.os I6.base I6.hok I6.bare fun b hb1 => by
        rw [List.mem_singleton.mp hb1]
        exact ⟨fIc.2.2.2.1, fIc.2.1, fIc.2.2.2.2.1, fIc.2.2.2.2.2⟩
      have nC : H5 sc.heap.objs.size = none := by
        have z : H5 ce1.locals = none := I6.free
        rw [eL] at z
        exact z
      obtain ⟨mm, hn, _⟩ := I6.loc
      have hn : ({ s5 with heap := h6 } : Shared).heap.Ns ce1.locals mm := hn
      rw [eL] at hn
      obtain ⟨f0, f1, f2, f3, f4, f5⟩ := Ic.fpOk (H' := H5) (Nat.le_refl sc.heap.objs.size) nC
      refine ⟨mm, hn, fun h'' sb2 => ⟨.ref D, H5, I7.turned (t' := s5.toks) (fun b o n e => (sb2.2 b n).trans e) f0 f1 f3 f4 f5, rfl, ?_⟩⟩
      rw [← hlen, List.take_length] at d5
      exact hend D H5 nD (fun b o e => k5 b o (fun z => by rw [z, nD] at e; cases e) e) d5
  exact codeAny_compStart_list loop (wpAny_pyIter_listiter turnD loop)
end
end LC

namespace LC
open PySem PySem.Spec PyProof.Rows L2 HotX FP L2H
section
variable {X : L2.Cx} {δ : De} {ω : Om} {a b c e : Expr} {es : List Expr} {d : PyData} {ds : List PyData} {pos p p1 p2 : Pos} {q : Addr × Obj} {D : Addr} {k : Bool}
/-- sum([elt for y in l]), of truths, while an exception is handled -/
theorem pd_sum2 {elt l : Expr} {scope : Scope} {y : Str} {py lpos : Pos} {j : Nat} {bs : List Bool} (hc : HotG X) (hN : X.N.Nodup) (hl : PL X δ ω l (bs.map .bool)) (hz : bs.length ≤ 1000) (ok : BlkOk X.N X.env.scope scope [(y, j)])
    (hg : ∀ (s : Shared) (H : Hp) (C : Addr) (cl : List (Str × Addr)) (fp : List Addr), PG (X.blk s H scope (compEnvC scope cl C X.env) fp) (.Name y py) (gName j))
    (he : ∀ (b : Bool) (s : Shared) (H : Hp) (C : Addr) (cl : List (Str × Addr)) (fp : List Addr), PD (X.blk s H scope (compEnvC scope cl C X.env) fp) (δ.set j (some (.im (.bool b)))) ω elt (.int (if b then 1 else 0)))
    (hm : X.mg "sum" = none) (hgs : Gl X "sum" := by rfl) (hs : ∀ x, foldedSetIterable l X.env x = pure x := by intro _; rfl)
    (hst : starEach [.ListComp elt [⟨.Name y py, l, [], 0⟩] scope lpos] X.env = (false, eval (.ListComp elt [⟨.Name y py, l, [], 0⟩] scope lpos) X.env) :: starEach [] X.env := by rfl) :
    PD X δ ω (.Call (.Name "sum" p) [.ListComp elt [⟨.Name y py, l, [], 0⟩] scope lpos] [] pos) (.int (bs.map fun b => if b then 1 else 0).sum) := fun σ H rl Q r =>
  we (pe_callB (cr_sum2 hc) hgs hm boot_sum (pa_cons (pe_lc2 (j := j) hc hN pe_w ok hg (fun s H0 C cl fp => pe_blk s H0 C cl fp) hs) pa_nil hst) (he := hst)) (hl σ H rl _ fun a vs G s1 h1 h2 => by
    have ev : vs = bs.map V.bl := dpa_bl h2
    subst ev
    refine ⟨a, _, bs.map fun b => V.int (if b then 1 else 0), rfl, h1, by simp, by simpa using hz, fun i x y ex ey G1 s2 R kk s H0 C cl fp => ?_, fun D G1 nD s2 hD => ?_⟩
    · obtain ⟨b, eb, rfl⟩ : ∃ b, bs[i]? = some b ∧ x = V.bl b := by
        rw [List.getElem?_map] at ex
        cases e : bs[i]? with
        | none =>
          rw [e] at ex
          cases ex
        | some b =>
          rw [e] at ex
          cases ex
          exact ⟨b, rfl, rfl⟩
      rw [List.getElem?_map, eb] at ey
      cases ey
      refine he b s H0 C cl fp _ G1 (((rl.mono s1).mono s2).set (x := .im (.bool b)) (.bl b)) R fun v G2 s3 dv => ?_
      cases dv
      exact kk G2 s3
    · refine ⟨D, bs.map fun b => if b then 1 else 0, rfl, SqL.of ?_, r _ G1 (s1.trans s2) (.int _)⟩
      rw [List.map_map]
      exact hD)
end
structure Word2 (P : Program) (w : World) (K : PySem.W.Frag) (mg : Str → Option Value) (base : Heap) (k : Nat) (wd : Str) (fw : Addr → PyData → Prop) : Prop where
  ex : ∃ g, mg wd = some (.ref g) ∧ PySem.W.keepIn K (.ref g) = true ∧ ∀ (A : Around) (outer : List Env) (s : Shared) (H : Hp) (q : Addr × Obj) (l : List (Addr × Obj)) (C : Addr) (d : PyData) (ps : List Addr) (Q : VK), fw C d → RoomH k A → Hot2 A q l → (∀ p ∈ q :: l, PinOk outer H s p) → q.2.cls = .ref C → q.2.dict = none →
    Env0 P w K mg base A outer s H → (∀ a ∈ ps, H a ≠ none) → (∀ v H', Same H H' → Dp K (hid ps H') v d → Q v H') → codeAny (model P w) A (.call (.ref g) ⟨[.ref q.1], []⟩) (CR C8.CX0 outer P w H s Q C8.E0) s
/-- the context of such a def's body -/
abbrev cx2 (CX : CXT) (P : Program) (w : World) (K : PySem.W.Frag) (mg : Str → Option Value) (base : Heap) (N : List Str) (qual : Str) (scope : Scope) (f : Addr) (cd : Value) (A : Around) (outer : List Env) (s : Shared) (H : Hp) (E : XK) (q : Addr × Obj) (l : List (Addr × Obj)) : L2.Cx :=
  { cxOf CX P w K mg base N qual scope f cd A outer s H E with calm := false, pn := q :: l }
/-- such a def, by its body -/
theorem word_ok {P : Program} {w : World} {K : PySem.W.Frag} {mg : Str → Option Value} {base : Heap} {x : Str} {params : Arguments} {body : List Stmt} {scope : Scope} {kws : List (Str × V)} {f : Addr} {fd : FuncData} {N : List Str} {y : Str} {k n : Nat} {fw : Addr → PyData → Prop}
    (F : FunD K x x params body scope [] kws f fd) (hm : mg x = some (.ref f)) (S : FnScope N [y] scope) (hn : N.length = n + 1)
    (hb : ∀ (kV doc pm : Value) (an : Option Addr) (cdv ct : Value) (us : List Value), us.length = [y].length → bindArgs (PySem.W.fnOf x x params body scope .none kV doc pm an cdv ct) ⟨us, []⟩ = pure ([y].zip us))
    (hbody : ∀ (cdv : Value) (A : Around) (outer : List Env) (s : Shared) (H : Hp) (q : Addr × Obj) (l : List (Addr × Obj)) (C : Addr) (d : PyData) (ps : List Addr), fw C d → Hot2 A q l → q.2.cls = .ref C → q.2.dict = none → RoomH k (A.deeper (envOfC x scope s.heap.objs.size f cdv)) →
      SD (cx2 C8.CX0 P w K mg base N x scope f cdv A outer s H C8.E0 q l) (fun _ _ _ _ => False) [] body (some (.ad q.1) :: List.replicate n none) ⟨ps, []⟩ (Fin (.ok d))) : Word2 P w K mg base (k + 1) x fw := by
  have hbs := FunD.bindsN (ps := [y]) F hb
  have kp := F.kp
  obtain ⟨oc, od, dV, kV, doc, pm, an, cdv, ct, osl, rfl, lk, hcd, hD, hK⟩ := F.ex
  refine ⟨f, hm, kp, fun A outer s H q l C d ps Q hf hr hot pin c1 c2 e0 hp hQ => ?_⟩
  have old : ∀ b o, base.get? b = some o → s.heap.get? b = some o := fun b o e => (e0.bs b o e).1
  have inK : K.In s.heap := e0.mod.kin.keeps old
  have bnd := hbs s [.ref q.1] inK rfl
  refine codeAny_call_function hr.depth (inK _ _ lk) rfl S.co S.gen rfl (PySem.W.codeRec_of inK hcd) (bnd _ _ _ _ (wpAny_newFunctionEnv_cells S.kind (fun z hz => ?_) fun env he s1 x1 => ?_))
  · rcases S.par z.1 (List.of_mem_zip hz).1 with t | t
    · exact .inl t
    · exact .inr ⟨t, PySem.W.cellsFrom_some _ _ _ (.inl t)⟩
  subst he
  refine ⟨(e0.mod.nolimit.keeps old).keeps x1.toInCall.keep, codeAny_func ?_⟩
  have I1 : Inv (cxH C8.CX0 P w K mg base N x scope f cdv A outer s H C8.E0 q) [] (L2.start N [.ref q.1]) H s1 := inv_startH (us := [.ref q.1]) S (pin q List.mem_cons_self) e0 rfl (.cons rfl .nil) x1
  have o := I1.ok
  have kept := x1.toInCall.keep
  have I : Inv (cx2 C8.CX0 P w K mg base N x scope f cdv A outer s H C8.E0 q l) [] (L2.start N [.ref q.1]) H s1 := by
    refine ⟨⟨o.mod, o.kind, o.glob, o.blt, o.above, o.inj, o.has, o.cab, o.hd, o.frames, o.stk, o.exf, o.bs, o.bsz, o.noex, o.exfs, o.funs, o.frf⟩, I1.os, I1.bare, I1.base, I1.loc, I1.cell, I1.free, I1.freeC, fun p hp => ?_, I1.hok, I1.len⟩
    have g := pin p (by simpa using hp)
    refine ⟨kept _ _ g.get, g.free, fun z => ?_, g.nofs, g.nocell⟩
    have lt := Heap.lt_size g.get
    rw [z] at lt
    exact Nat.lt_irrefl _ lt
  have go := hbody cdv A outer s H q l C d ps hf hot c1 c2 (hr.deeper _) (L2.start N [.ref q.1]) H { nx := fun _ H' => Q .non H', rt := Q } (FP.start1 hn hp) (fun _ z => nomatch z) ?_
  · refine wpAny_mono (pss_w.run [] s1 _ H _ I go) (fun fl s2 hs => ?_) fun _ _ z => z
    cases fl with
    | ret u =>
      obtain ⟨v, σ', H', J, rv, z⟩ := hs
      exact ⟨v, H', J.os, J.bare, J.base, J.hok, rv, z⟩
    | next =>
      obtain ⟨σ', H', J, z⟩ := hs
      exact ⟨.non, H', J.os, J.bare, J.base, J.hok, rfl, z⟩
    | brk =>
      obtain ⟨_, _, _, z⟩ := hs
      exact z.elim
    | cont =>
      obtain ⟨_, _, _, z⟩ := hs
      exact z.elim
  · have same : ∀ {ω' : Om} {H' : Hp}, Stp [] ⟨ps, []⟩ ω' H H' → Same H H' := fun st b o e => st.keep b o e (fun z => nomatch z) (.inl rfl)
    refine ⟨fun δ' ω' σ' H' z st l => ?_, fun r' ω' v H' z st l dv => ?_, fun _ _ _ _ z => (nomatch z), fun _ _ _ _ z => False.elim z, fun _ _ _ _ z => False.elim z⟩
    · cases z
      exact hQ .non H' (same st) .non
    · cases r' with
      | im d' =>
        cases z
        exact hQ v H' (same st) (dpm (hid_more fun b hb => List.mem_append_left _ (by rw [st.ps]; exact hb)) dv)
      | ad a => exact False.elim z
/-- the word is called, in the suite -/
theorem pe_word {X : L2.Cx} {q : Addr × Obj} {l : List (Addr × Obj)} {k i : Nat} {wd n : Str} {fw : Addr → PyData → Prop} {C : Addr} {d : PyData} {p5 p6 p7 : Pos} (G : Word2 X.prog X.w X.K X.mg X.base k wd fw) (hr : RoomH k X.A) (hot : Hot2 X.A q l) (hq : ∀ p ∈ q :: l, p ∈ X.pn) (c1 : q.2.cls = .ref C) (c2 : q.2.dict = none) (hf : fw C d)
    (hg : Gl X wd) (hN : X.N[i]? = some n) (hv : Vis X.env.scope n) (hdb : (wd == ("__debug__" : Str)) = false := by decide) (h1 : (n == ("__debug__" : Str)) = false := by decide) (h2 : (n == ("__classdict__" : Str)) = false := by decide)
    (he : starEach [.Name n p6] X.env = (false, eval (.Name n p6) X.env) :: starEach [] X.env := by rfl) :
    PE X (.Call (.Name wd p5) [.Name n p6] [] p7) (fun σ H Q => σ[i]? = some (some (.ref q.1)) ∧ ∃ ps, (∀ a ∈ ps, H a ≠ none) ∧ ∀ v H', Same H H' → Dp X.K (hid ps H') v d → Q v H') := by
  obtain ⟨g, m, kp, run⟩ := G.ex
  refine ⟨fun pins s σ H Q I h => ?_⟩
  obtain ⟨hs, ps, hp, hQ⟩ := h
  have ha : PA X [.Name n p6] (tCons (fun σ H Q => ∃ v, σ[i]? = some (some v) ∧ Q v H) tNil) := pa_cons (pe_var hN hv h1 h2) pa_nil he
  refine wpAny_Call_Name_kw (ld_glob I hg m (PySem.W.callWith_K (h₀ := X.base) I.ok.mod.kin kp (thn (ha.run p7 pins s σ H (fun vs H1 => vs = [V.ref q.1] ∧ H1 = H) I ⟨_, hs, rfl, rfl⟩) fun us s1 w => ?_) he (by rfl)) hdb)
  obtain ⟨vs, H1, J, rv, ev, eH⟩ := w
  subst ev
  subst eH
  refine ⟨J.kIn, ?_⟩
  rw [Vals.ref1 rv]
  have pin : ∀ p ∈ q :: l, PinOk X.stack H1 s1 p := fun p m => by
    have P1 := J.pin p (List.mem_append_left _ (hq p m))
    exact ⟨P1.1, P1.2.1, fun z => (List.mem_cons.mp (J.stkSub p.1 z)).elim P1.2.2.1 P1.2.2.2.1, P1.2.2.2.2⟩
  refine wpAny_call (codeAny_mono (run X.A X.stack s1 H1 q l C d ps Q hf hr hot pin c1 c2 J.env0 hp hQ) fun r s2 z => ?_)
  cases r with
  | error e => exact False.elim z
  | ok fl =>
    cases fl with
    | ret u => exact J.after z
    | next => exact False.elim z
    | brk => exact False.elim z
    | cont => exact False.elim z
end LC

namespace LC
open PySem PySem.Spec PyProof.Rows L2 HotX FP L2H
section
variable {X : L2.Cx} {pins qins P Q : List (Addr × Obj)} {σ : L2.St} {H : Hp} {s : Shared}
/-- fewer pins, or others that hold -/
theorem inv_pn (I : Inv { X with pn := P } pins σ H s) (h : ∀ p ∈ Q ++ qins, p ∈ P ++ pins) : Inv { X with pn := Q } qins σ H s :=
  let o := I.ok
  ⟨⟨o.mod, o.kind, o.glob, o.blt, o.above, o.inj, o.has, o.cab, o.hd, o.frames, o.stk, o.exf, o.bs, o.bsz, o.noex, o.exfs, o.funs, o.frf⟩, I.os, I.bare, I.base, I.loc, I.cell, I.free, I.freeC, fun p hp => I.pin p (h p hp), I.hok, I.len⟩
/-- one more -/
theorem inv_pin {p : Addr × Obj} (I : Inv { X with pn := P } pins σ H s) (g : s.heap.get? p.1 = some p.2) (n : H p.1 = none) (nL : p.1 ≠ X.env.locals) (nF : p.1 ∉ X.fs) (nc : ∀ v, p.2.data ≠ .cell v) : Inv { X with pn := p :: P } pins σ H s :=
  let o := I.ok
  ⟨⟨o.mod, o.kind, o.glob, o.blt, o.above, o.inj, o.has, o.cab, o.hd, o.frames, o.stk, o.exf, o.bs, o.bsz, o.noex, o.exfs, o.funs, o.frf⟩, I.os, I.bare, I.base, I.loc, I.cell, I.free, I.freeC, fun q hq => by
    rcases List.mem_cons.mp hq with e | m
    · rw [e]
      exact ⟨g, n, nL, nF, nc⟩
    · exact I.pin q m, I.hok, I.len⟩
/-- what the handler must bear -/
def wAs1 (X : L2.Cx) (c : Value) (i : Nat) (ex : Expr) (D : Ends) : WX := fun cls d σ H => PySem.W.exmOne X.K cls c = some true ∧ ∀ (q : Addr × Obj) (l pn : List (Addr × Obj)), q.2.cls = cls → q.2.dict = d →
  Hot2 (X.A.mark (some (.ref q.1))) q l → H q.1 = none → (∀ p ∈ q :: l, p ∈ pn) → wpe (X.suite q.1 pn) ex (σ.set i (some (.ref q.1))) H D.rt
theorem try_raw {x n : Str} {c : Value} {i : Nat} {body : List Stmt} {ex : Expr} {np pos pos' rp : Pos} {D : Ends} (hs : X.stack = X.env :: X.outer) (hf : X.env.frame = some X.env.locals) (hN : X.N.Nodup) (hi : X.N[i]? = some n) (hln : X.env.kindOf n = some .local) (hc : Names X x c) (I : Inv X pins σ H s)
    (h : ∀ pn xe, Inv (X.tr pn xe) [] σ H s → Takes (X.tr pn xe) (wAs1 X c i ex D) → wpAny (model X.prog X.w) X.A (execs body X.env) (SP (X.tr pn xe) [] D) xe s) :
    wpAny (model X.prog X.w) X.A (exec (.Try body [.ExceptHandler (some (.Name x np)) (some n) [.Return (some ex) rp] pos'] [] [] pos) X.env) (SP X pins D) X.xe s := by
  refine wpAny_Try_except ?_
  have ok := I.ok
  have fr : X.A.frames = some (X.env :: X.outer) := ok.frames.trans (congrArg some hs)
  have run := h (X.pn ++ pins) (fun e s₁ => wpAny (model X.prog X.w) X.A (noteFrame e X.env) (fun _ s₂ => wpAny (model X.prog X.w) X.A (setFlight e none) (fun _ s₃ => wpAny (model X.prog X.w) X.A (handleBy e X.env [.ExceptHandler (some (.Name x np)) (some n) [.Return (some ex) rp] pos']) (SP X pins D) X.xe s₃) X.xe s₂) X.xe s₁) (I.toTry _) ?_
  · refine wpAny_mono run (fun f s1 q => ?_) fun _ _ q => q
    cases f with
    | next =>
      obtain ⟨σ1, H1, I1, q1⟩ := q
      exact wpAny_execs_nil ⟨σ1, H1, I1.ofTry ok, q1⟩
    | brk =>
      obtain ⟨σ1, H1, I1, q1⟩ := q
      exact ⟨σ1, H1, I1.ofTry ok, q1⟩
    | cont =>
      obtain ⟨σ1, H1, I1, q1⟩ := q
      exact ⟨σ1, H1, I1.ofTry ok, q1⟩
    | ret u =>
      obtain ⟨v1, σ1, H1, I1, r1, q1⟩ := q
      exact ⟨v1, σ1, H1, I1.ofTry ok, r1, q1⟩
  · rintro u s1 ⟨a, B, t0, pins1, σ1, H1, cls, d, rfl, I1, nb, up, sky, na, os, ag, hm, hw⟩
    have J := I1.ofTry ok
    have sky1 : L2.Sky B (X.env :: X.outer) a (Zw B H1 cls d) X.env.locals s1.heap := by
      rw [← hs]
      exact sky
    refine L2N.Sky.land Zw.steady fr hf sky1 fun h2 fl2 up2 => ?_
    have J2 := J.landed (s' := { s1 with heap := h2 }) nb fl2.1 (up.trans up2) os ag
    obtain ⟨oe2, vs2, he2, hz2, hd2⟩ := fl2.there
    have n1 : a ∉ frs (X.env :: X.outer) := no_frame fl2.2.2.1 he2 hd2
    have nL : ∀ {b}, b ∉ frs (X.env :: X.outer) → b ≠ X.env.locals := fun {b} n z => n (List.mem_filterMap.mpr ⟨X.env, List.mem_cons_self, by rw [hf, z]⟩)
    have nF : ∀ {b}, b ∉ frs (X.env :: X.outer) → b ∉ X.fs := fun {b} n hm => by
      obtain ⟨e, he, q⟩ := List.mem_filterMap.mp hm
      exact n (List.mem_filterMap.mpr ⟨e, List.mem_cons_of_mem _ he, q⟩)
    have S2 := J2.suite he2 hd2 na (nL n1) (nF n1)
    refine wpAny_handleBy_cons (codeAny_handlers_test ?_) (by intro q; cases q)
    have looks : PySem.W.Looks (model X.prog X.w) h2 (typeOf (.ref a)) cls := fun A Q E s k q => wpAny_typeOf_ref (k _ _ he2) (by rw [hz2.1]; exact q)
    have named : ∀ {Q : Value → Shared → Prop} {E : Value → Shared → Prop}, Q c { s1 with heap := h2 } → wpAny (model X.prog X.w) (X.A.mark (some (.ref a))) (eval (.Name x np) X.env) Q E { s1 with heap := h2 } := fun {Q E} q => by
      obtain ⟨g1, g2, g3 | ⟨g3, g4, g5⟩⟩ := hc
      · exact ld_glob (X := X.suite a ((a, oe2) :: (X.pn ++ pins))) S2 g1 g3 q g2
      · exact ld_blt (X := X.suite a ((a, oe2) :: (X.pn ++ pins))) S2 g1 g3 g4 q g5 g2
    refine named ((PySem.W.exm_one (M := model X.prog X.w) J2.kIn looks hm).here ?_)
    refine codeAny_handlers_suite_as (HandSPX.lands_againZ fl2 fun h3 fl3 up3 => ?_)
    have J3 := J.landed (s' := { s1 with heap := h3 }) nb fl3.1 ((up.trans up2).trans up3) os ag
    obtain ⟨oe, vs, he, hz, hd⟩ := fl3.there
    have S3 := J3.suite he hd na (nL n1) (nF n1)
    -- what is handled, with its context
    obtain ⟨l, hot, S4⟩ : ∃ l, Hot2 (X.A.mark (some (.ref a))) (a, oe) l ∧ Inv (X.suite a ((a, oe) :: (l ++ (X.pn ++ pins)))) [] σ1 H1 { s1 with heap := h3 } := by
      rcases hz.2.2 vs hd with e | ⟨b, oc, vc, e1, e2, e3, e4, e5⟩
      · exact ⟨[], ⟨rfl, vs, hd, .inl ⟨rfl, e⟩⟩, S3⟩
      · have gb : h3.get? b = some oc := fl3.1 b oc e2
        have nb2 : b ∉ frs (X.env :: X.outer) := no_frame fl3.2.2.1 gb e4
        have nab : b ≠ a := fun z => by
          rw [z, fl3.2.1] at e2
          cases e2
        refine ⟨[(b, oc)], ⟨rfl, vs, hd, .inr ⟨(b, oc), vc, rfl, e1, nab, e4, e5⟩⟩, ?_⟩
        have S5 := inv_pin (X := X.suite a ((a, oe) :: (X.pn ++ pins))) (p := (b, oc)) S3 gb e3 (nL nb2) (nF nb2) (fun v z => by rw [e4] at z; cases z)
        refine inv_pn (X := X.suite a ((a, oe) :: (X.pn ++ pins))) S5 fun p hp => ?_
        simp only [List.append_nil, List.mem_cons, List.mem_append, List.not_mem_nil, or_false] at hp ⊢
        rcases hp with z | z | z | z
        · exact .inr (.inl z)
        · exact .inl z
        · exact .inr (.inr (.inl z))
        · exact .inr (.inr (.inr z))
    refine store_ok (X := X.suite a ((a, oe) :: (l ++ (X.pn ++ pins)))) (v := .ref a) S4 hN hi (.inl hln) rfl (fun s5 S5 => ?_) (.inr hln)
    have go := hw (a, oe) l ((a, oe) :: (l ++ (X.pn ++ pins))) hz.1 hz.2.1 hot na fun p m => by
      rcases List.mem_cons.mp m with e | m
      · rw [e]
        exact List.mem_cons_self
      · exact List.mem_cons_of_mem _ (List.mem_append_left _ m)
    refine wpAny_mono ((pss_one (ps_ret (pos := rp) pe_w)).run [] s5 _ H1 ⟨fun _ _ => False, D.rt, fun _ _ => False, fun _ _ => False⟩ S5 go) (fun f s6 q => ?_) fun _ _ z => z.elim
    cases f with
    | next =>
      obtain ⟨_, _, _, q⟩ := q
      exact q.elim
    | brk =>
      obtain ⟨_, _, _, q⟩ := q
      exact q.elim
    | cont =>
      obtain ⟨_, _, _, q⟩ := q
      exact q.elim
    | ret u =>
      obtain ⟨v6, σ6, H6, S6, r6, q6⟩ := q
      have S7 : Inv (X.suite a ((a, oe) :: (X.pn ++ pins))) [] σ6 H6 s6 := inv_pn (X := X.suite a ((a, oe) :: (l ++ (X.pn ++ pins)))) S6 fun p hp => by
        simp only [List.append_nil, List.mem_cons, List.mem_append] at hp ⊢
        rcases hp with z | z | z
        · exact .inl z
        · exact .inr (.inr (.inl z))
        · exact .inr (.inr (.inr z))
      exact gone_ok (S7.unsuite ok) hN hi hln fun s7 J7 => ⟨_, _, _, J7, r6, q6⟩
theorem ps_tryAs {x n : Str} {c : Value} {i : Nat} {body : List Stmt} {ex : Expr} {np pos pos' rp : Pos} (hs : X.stack = X.env :: X.outer) (hf : X.env.frame = some X.env.locals) (hN : X.N.Nodup) (hi : X.N[i]? = some n) (hln : X.env.kindOf n = some .local) (hc : Names X x c) :
    PS X (.Try body [.ExceptHandler (some (.Name x np)) (some n) [.Return (some ex) rp] pos'] [] [] pos) (fun D σ H => ∀ pn xe, Takes (X.tr pn xe) (wAs1 X c i ex D) → wpss (X.tr pn xe) body D σ H) :=
  ⟨fun pins s σ H D I h => try_raw hs hf hN hi hln hc I fun pn xe J tk => (pss_w (X := X.tr pn xe)).run [] s σ H D J (h pn xe tk)⟩
end
end LC

namespace LC
open PySem PySem.Spec PyProof.Rows L2 HotX FP L2H
structure DefC (P : Program) (w : World) (K : PySem.W.Frag) (mg : Str → Option Value) (base : Heap) (k : Nat) (x : Str) (fr : List PyData → Rs → Prop) : Prop where
  ex : ∃ f fd ps, FnOk P w K mg base (CX P w) k f fd ps (spD K fr) ∧ mg x = some (.ref f) ∧ PySem.W.keepIn K (.ref f) = true ∧ L2.Binds K fd ps []
theorem DefC.mono {P : Program} {w : World} {K : PySem.W.Frag} {mg : Str → Option Value} {base : Heap} {j k : Nat} {x : Str} {fr : List PyData → Rs → Prop} (G : DefC P w K mg base j x fr) (h : j ≤ k) : DefC P w K mg base k x fr := by
  obtain ⟨f, fd, ps, F, m, kp, b⟩ := G.ex
  exact ⟨f, fd, ps, F.mono h, m, kp, b⟩
section
variable {X : L2.Cx} {W : WX} {T : List (Addr × Str)} {δ : De} {ω : Om} {a e : Expr} {es : List Expr} {d : PyData} {ds : List PyData} {pos p : Pos} {k : Nat} {x : Str} {R : Out → Prop} {ss : List Stmt}
end
abbrev lamC (X : L2.Cx) (A : Around) (outer : List Env) (s : Shared) (H : Hp) (E : XK) (scope : Scope) (f c' : Addr) : L2.Cx :=
  (LamX.lamCx X A outer s H E scope f c').tr [] (fun e t => wpAny (model X.prog X.w) (A.deeper (LamX.lamEnv X scope s.heap.objs.size f c')) (leaving (LamX.lamEnv X scope s.heap.objs.size f c') e) (fun _ t' => CX X.prog X.w outer H s E e t') (fun e' t' => CX X.prog X.w outer H s E e' t') t)
theorem lamC_takes {X : L2.Cx} {A : Around} {outer : List Env} {s : Shared} {H : Hp} {E : XK} {scope : Scope} {f c' : Addr} : Takes (lamC X A outer s H E scope f c') (WOf E) := takes_of rfl rfl rfl rfl
/-- it is called, where what it lets out is taken -/
theorem pe_lamC {X Z : L2.Cx} {pins : List (Addr × Obj)} {σ : L2.St} {H : Hp} {s : Shared} {f c' : Addr} {pm ctv : Value} {params : Arguments} {body : Expr} {scope : Scope} {k i : Nat} {a : Str} {W : WX} {p1 p2 : Pos}
    (hP : Z.prog = X.prog) (hw : Z.w = X.w) (hK : Z.K = X.K) (hm : Z.mg = X.mg) (hB : Z.base = X.base) (h0 : Z.s_0 = s) (hH : Z.H_0 = H) (hex : Z.ex = []) (hfs : Z.fs = frs X.stack)
    (I : Inv X pins σ H s) (L : LamX.LamS X.env.scope scope) (hf : s.heap.get? f = some (PySem.W.kla_obj "<lambda>" (X.env.qual ++ "<lambda>") params body scope (cloFrom X.env.cells scope.names []) pm c' ctv)) (hfn : H f = none) (hfr : f ∉ frs X.stack)
    (hbind : bindArgs (PySem.W.kla_fn "<lambda>" (X.env.qual ++ "<lambda>") params body scope (cloFrom X.env.cells scope.names []) pm (.ref c') ctv) ⟨[], []⟩ = pure []) (tk : Takes Z W) (hr : Room (k + 1) Z.A)
    (hN : Z.N[i]? = some a) (hv : Vis Z.env.scope a) (hd : (a == ("__debug__" : Str)) = false := by decide) (hcd : (a == ("__classdict__" : Str)) = false := by decide) :
    PE Z (.Call (.Name a p1) [] [] p2) (fun τ G Q => τ[i]? = some (some (.ref f)) ∧ G c' = some (LamX.CodeO c' (X.env.qual ++ "<lambda>")) ∧
      ∀ (A : Around) (outer : List Env) (t : Shared), Room k (A.deeper (LamX.lamEnv X scope t.heap.objs.size f c')) → wpe (lamC X A outer t G (WE W τ) scope f c') body σ G Q) := by
  obtain ⟨zp, zw, zk, zmg, zb, zA, zN, zs, zh, zenv, zo, zst, zex, zfn, zc, zpn, zxe⟩ := Z
  dsimp only at hP hw hK hm hB h0 hH hex
  subst hP hw hK hm hB h0 hH hex
  refine ⟨fun pinsZ sZ τ G Q IZ h => ?_⟩
  obtain ⟨t1, t2, t3⟩ := h
  refine wpAny_Call_Name_kw (thn ((pe_var (pos := p1) (i := i) hN hv hd hcd).run pinsZ sZ τ G (fun v G1 => v = .ref f ∧ G1 = G) IZ ⟨.ref f, t1, rfl, rfl⟩) fun u s1 w => ?_)
  obtain ⟨v, G1, J, rv, ev, eG⟩ := w
  subst ev
  subst eG
  obtain rfl : u = Value.ref f := rv
  have un : Un (frs X.stack) [] zh G1 zs.heap s1.heap := by
    rw [← hfs]
    exact J.base
  have gf := un.keep f _ hf hfn hfr (fun z => nomatch z)
  have rc : codeAny (model X.prog X.w) zA (.call (.ref f) ⟨[], []⟩) (CR (CX X.prog X.w) zst X.prog X.w G1 s1 Q (WE W τ)) s1 := by
    obtain ⟨⟨oc, vs, tt, g1, g2, g3⟩, _, _⟩ := J.hok c' _ t2
    refine PySem.W.kla_callFunE hr.depth gf rfl L.co L.gen rfl ⟨c', oc, vs, tt, rfl, g1, g2, g3⟩ ?_
    rw [hbind]
    refine wpAny_pure (wpAny_newFunctionEnv (fun y hy => (L.own y hy).2) (fun y hy => (nomatch hy)) (fun h2 n2 b2 => ⟨J.nolimit.fresh _ b2, ?_⟩) L.kind)
    show codeAny _ _ (.expr body (LamX.lamEnv X scope s1.heap.objs.size f c')) _ _
    have J2 := (LamX.lam_start2 (E := WE W τ) (scope := scope) (f := f) (c' := c') (tk := s1.toks + ([] : List (Str × Value)).length) I L J.env0 hr.hd un n2 (fun b o e => b2.extBut b o (Nat.ne_of_lt (Heap.lt_size e)) (Heap.get?_push_of_some _ e))).toTry (fun e t => wpAny (model X.prog X.w) (zA.deeper (LamX.lamEnv X scope s1.heap.objs.size f c')) (leaving (LamX.lamEnv X scope s1.heap.objs.size f c') e) (fun _ t' => CX X.prog X.w zst G1 s1 (WE W τ) e t') (fun e' t' => CX X.prog X.w zst G1 s1 (WE W τ) e' t') t)
    refine PySem.W.kla_codeExpr (wpAny_mono (pe_w.run [] _ σ G1 Q J2 (t3 zA zst s1 (hr.deeper _))) (fun v s3 z => ?_) fun e s3 z => z)
    obtain ⟨v1, G3, J3, r3, q3⟩ := z
    exact ⟨v1, G3, J3.os, J3.bare, J3.base, J3.hok, r3, q3⟩
  refine PySem.W.callWith_F0 ⟨_, _, _, _, gf⟩ (wpAny_call (codeAny_mono rc fun r s2 z => ?_))
  · cases r with
    | error e => exact passAt tk τ pinsZ G1 s1 e s2 J z
    | ok fl =>
      cases fl with
      | ret u => exact J.after z
      | next => exact False.elim z
      | brk => exact False.elim z
      | cont => exact False.elim z
section
variable {X : L2.Cx} {T : List (Addr × Str)} {δ : De} {ω : Om} {d : PyData} {pos p : Pos} {k : Nat}
/-- a told lambda, whatever it hands back -/
theorem yx_toldC {Rz : Sd → Om → Prop} {x a e n wd : Str} {st : Stmt} {Ng : List Str} {CS : Addr} {fw : Addr → PyData → Prop} {p1 p2 p3 p4 p5 p6 p7 p8 p9 p10 lpos : Pos} {params : Arguments} {body : Expr} {scope : Scope} (G : Told X.K X.mg x st) (L : LamT X T) (hT : T ≠ []) (hps : ω.ps = []) (hr : Room (k + 2) X.A)
    (WK : Word2 X.prog X.w X.K X.mg X.base (k + 1) wd fw)
    (hst : defBody st = [.Try [.Return (some (.Call (.Name a p1) [] [] p2)) p3] [.ExceptHandler (some (.Name e p4)) (some n) [.Return (some (.Call (.Name wd p5) [.Name n p6] [] p7)) p8] p9] [] [] p10]) (S : FnScope Ng [a] (defScope st)) (hNd : Ng.Nodup) (hNg : Ng[0]? = some a) (hva : Vis (defScope st) a)
    (hN1 : Ng[1]? = some n) (hkn : (defScope st).names.lookup n = some .local) (hge : (defScope st).names.lookup e = some .globalImplicit) (hgw : (defScope st).names.lookup wd = some .globalImplicit) (hme : X.mg e = some (.ref CS))
    (hbn : ∀ (kV doc pm : Value) (an : Option Addr) (cdv ct : Value) (us : List Value), us.length = [a].length → bindArgs (PySem.W.fnOf x x (defArgs st) (defBody st) (defScope st) .none kV doc pm an cdv ct) ⟨us, []⟩ = pure ([a].zip us))
    (hb : ∀ (A : Around) (outer : List Env) (s : Shared) (H : Hp) (E : XK) (f c' : Addr), Room k (A.deeper (LamX.lamEnv X scope s.heap.objs.size f c')) → YX (lamC X A outer s H E scope f c') (WOf E) T δ ω body (fun r ω1 => match r with | .ok r' => Rz r' ω1 | .er Z => PySem.W.exmOne X.K (.ref Z) (.ref CS) = some true ∧ ∃ d, fw Z d ∧ Rz (.im d) ω1))
    (hL : LamX.LamS X.env.scope scope) (hdef : defaultsOf params X.env = ([], []) := by rfl) (hbind : ∀ (q : Str) (cl : List (Str × Addr)) (pm cv ctv : Value), bindArgs (PySem.W.kla_fn "<lambda>" q params body scope cl pm cv ctv) ⟨[], []⟩ = pure [] := by intros; rfl)
    (hg : Gl X x := by rfl) (hdb : (x == ("__debug__" : Str)) = false := by decide) (hd1 : (a == ("__debug__" : Str)) = false := by decide) (hcd1 : (a == ("__classdict__" : Str)) = false := by decide) (hde : (e == ("__debug__" : Str)) = false := by decide) (hdw : (wd == ("__debug__" : Str)) = false := by decide)
    (hdn : (n == ("__debug__" : Str)) = false := by decide) (hcn : (n == ("__classdict__" : Str)) = false := by decide) : YX X (fun _ _ _ _ => False) T δ ω (.Call (.Name x p) [.Lambda params body scope lpos] [] pos) (fun r ω1 => ∃ r', r = .ok r' ∧ Rz r' ω1) := fun σ H rl tb Q q _ => by
  obtain ⟨g, fd, F, hm⟩ := G.ex
  obtain ⟨c, P, TB, hcode, hmT, hu⟩ := L.ex
  have hbs := FunD.bindsN (ps := [a]) F hbn
  have kp := F.kp
  obtain ⟨oc, od, dV, kV, doc, pm, an, cdv, ct, osl, rfl, lk, hcd, hD, hK⟩ := F.ex
  unfold wpe
  intro pins s I
  refine wpAny_Call_Name_kw (ld_glob I hg hm ?_ hdb)
  refine PySem.W.callWith_K (h₀ := X.base) I.ok.mod.kin kp ?_ (by rfl) (by rfl)
  show wpAny _ _ (spliced ((false, eval (.Lambda params body scope lpos) X.env) :: backTo pos (starEach [] X.env))) _ _ s
  refine Calls.spliced_cons (LamX.lam_make2 I TB hcode hmT hu tb hdef (hL.has I.ok) fun f c' pm' ctv H1 s' I1 eN T1 hf hfn hfr hco => Calls.spliced_nil ⟨I1.kIn, ?_⟩)
  have rl1 : Rl X.K H1 σ δ ω := rl_ext (T := T) eN hps rl
  have st0 : Stp T ω ω H H1 := ⟨fun b o h _ p => eN b o h (p.resolve_left hT), fun a h => .inl h, rfl, fun _ => T1⟩
  have done : ∀ r ω1 v H2, Rz r ω1 → Stp T ω ω1 H1 H2 → Rl X.K H2 σ δ ω1 → SdV X.K (hid (ads ω1) H2) r v → Q v H2 := fun r ω1 v H2 z s2 l2 d2 => q r ω1 v H2 ⟨r, rfl, z⟩ (st0.trans s2) l2 d2
  refine wpAny_call (codeAny_mono (R := CR C8.CX0 X.stack X.prog X.w H1 s' Q C8.E0) (LamX.run_ofS (N := Ng) (ps := [a]) (us := [.ref f]) (vs := [.ref f]) lk hcd S hr I1.env0 (hbs s' [.ref f] I1.kIn rfl) (.cons rfl .nil) rfl fun hr' => ?_) fun rr s2 z => ?_)
  · rw [hst]
    -- the def's own context
    have tryW := ps_tryAs (X := (cxOf C8.CX0 X.prog X.w X.K X.mg X.base Ng x (defScope st) g cdv X.A X.stack s' H1 C8.E0).nox) (x := e) (n := n) (c := .ref CS) (i := 1) (np := p4) (pos := p10) (pos' := p9) (rp := p8) (ex := .Call (.Name wd p5) [.Name n p6] [] p7)
      (body := [.Return (some (.Call (.Name a p1) [] [] p2)) p3]) rfl rfl hNd hN1 hkn ⟨hge, hde, .inl hme⟩
    refine ⟨_, (pss_one tryW).nox, fun pn xe tk => wss (pss_one (ps_ret (pe_lamC (X := X) (Z := ((cxOf C8.CX0 X.prog X.w X.K X.mg X.base Ng x (defScope st) g cdv X.A X.stack s' H1 C8.E0).nox).tr pn xe) rfl rfl rfl rfl rfl rfl rfl rfl rfl I1 hL hf hfn hfr (hbind _ _ _ _ _) tk hr' hNg hva hd1 hcd1))) ⟨rfl, hco, fun A outer t hr2 => ?_⟩⟩
    refine hb A outer t H1 _ f c' hr2 σ H1 rl1 T1 Q (fun r ω1 v H2 z s2 l2 dv => ?_) (fun C ω1 H2 z s2 l2 => ?_)
    · exact done r ω1 v H2 z s2 l2 dv
    · obtain ⟨hx, d, hfw, z⟩ := z
      refine ⟨hx, fun q l pn2 c1 c2 hot nq hpn => ?_⟩
      have pw := pe_word (X := ((cxOf C8.CX0 X.prog X.w X.K X.mg X.base Ng x (defScope st) g cdv X.A X.stack s' H1 C8.E0).nox).suite q.1 pn2) (q := q) (l := l) (i := 1) (p5 := p5) (p6 := p6) (p7 := p7) WK ⟨(roomH_of hr').dp, (roomH_of hr').un⟩ hot hpn c1 c2 hfw hgw hN1 (.inl hkn) hdw hdn hcn
      refine we pw ⟨?_, ads ω1, l2.ro.there, fun v G' s3 dv => done (.im d) ω1 v G' z (s2.trans (.of s3)) (l2.mono s3) dv⟩
      rw [List.getElem?_set_self]
      unfold L2.start
      have := (List.getElem?_eq_some_iff.mp hN1).1
      simp
      omega
  · cases rr with
    | error e => exact False.elim z
    | ok fl =>
      cases fl with
      | ret u => exact I1.after z
      | next => exact False.elim z
      | brk => exact False.elim z
      | cont => exact False.elim z
theorem ze_toldC {Rz : PyData → Om → Prop} {x a e n wd : Str} {st : Stmt} {Ng : List Str} {CS : Addr} {fw : Addr → PyData → Prop} {p1 p2 p3 p4 p5 p6 p7 p8 p9 p10 lpos : Pos} {params : Arguments} {body : Expr} {scope : Scope} (G : Told X.K X.mg x st) (L : LamT X T) (hT : T ≠ []) (hps : ω.ps = []) (hr : Room (k + 2) X.A)
    (WK : Word2 X.prog X.w X.K X.mg X.base (k + 1) wd fw)
    (hst : defBody st = [.Try [.Return (some (.Call (.Name a p1) [] [] p2)) p3] [.ExceptHandler (some (.Name e p4)) (some n) [.Return (some (.Call (.Name wd p5) [.Name n p6] [] p7)) p8] p9] [] [] p10]) (S : FnScope Ng [a] (defScope st)) (hNd : Ng.Nodup) (hNg : Ng[0]? = some a) (hva : Vis (defScope st) a)
    (hN1 : Ng[1]? = some n) (hkn : (defScope st).names.lookup n = some .local) (hge : (defScope st).names.lookup e = some .globalImplicit) (hgw : (defScope st).names.lookup wd = some .globalImplicit) (hme : X.mg e = some (.ref CS))
    (hbn : ∀ (kV doc pm : Value) (an : Option Addr) (cdv ct : Value) (us : List Value), us.length = [a].length → bindArgs (PySem.W.fnOf x x (defArgs st) (defBody st) (defScope st) .none kV doc pm an cdv ct) ⟨us, []⟩ = pure ([a].zip us))
    (hb : ∀ (A : Around) (outer : List Env) (s : Shared) (H : Hp) (E : XK) (f c' : Addr), Room k (A.deeper (LamX.lamEnv X scope s.heap.objs.size f c')) → YX (lamC X A outer s H E scope f c') (WOf E) T δ ω body (fun r ω1 => match r with | .ok (.im d) => Rz d ω1 | .ok (.ad _) => False | .er Z => PySem.W.exmOne X.K (.ref Z) (.ref CS) = some true ∧ ∃ d, fw Z d ∧ Rz d ω1))
    (hL : LamX.LamS X.env.scope scope) (hdef : defaultsOf params X.env = ([], []) := by rfl) (hbind : ∀ (q : Str) (cl : List (Str × Addr)) (pm cv ctv : Value), bindArgs (PySem.W.kla_fn "<lambda>" q params body scope cl pm cv ctv) ⟨[], []⟩ = pure [] := by intros; rfl)
    (hg : Gl X x := by rfl) (hdb : (x == ("__debug__" : Str)) = false := by decide) (hd1 : (a == ("__debug__" : Str)) = false := by decide) (hcd1 : (a == ("__classdict__" : Str)) = false := by decide) (hde : (e == ("__debug__" : Str)) = false := by decide) (hdw : (wd == ("__debug__" : Str)) = false := by decide)
    (hdn : (n == ("__debug__" : Str)) = false := by decide) (hcn : (n == ("__classdict__" : Str)) = false := by decide) : ZE X T δ ω (.Call (.Name x p) [.Lambda params body scope lpos] [] pos) Rz :=
  YX.ze (YX.imp (yx_toldC (Rz := fun r ω1 => match r with | .im d => Rz d ω1 | .ad _ => False) G L hT hps hr WK hst S hNd hNg hva hN1 hkn hge hgw hme hbn (fun A outer s H E f c' hr' => YX.imp (hb A outer s H E f c' hr') fun r ω1 z => by
    cases r with
    | ok r => cases r <;> exact z
    | er Z => exact z) hL hdef hbind hg hdb hd1 hcd1 hde hdw hdn hcn) fun r ω1 z => by
    obtain ⟨r', rfl, z⟩ := z
    cases r' <;> exact z)
end
end LC

namespace LC
open PySem PySem.Spec PyProof.Rows L2 HotX FP L2H
section
variable {X : L2.Cx} {pins : List (Addr × Obj)} {σ : L2.St} {H : Hp} {s : Shared} {W : WX}
end
section
variable {X : L2.Cx} {W : WX} {T : List (Addr × Str)} {δ : De} {ω : Om} {R : Out → Prop} {ss body : List Stmt} {c : Value} {C : Addr} {x y m : Str} {j j2 : Nat} {np p p2 pos1 cpos pos pos' rp : Pos}
end
end LC

namespace FP
open PySem PySem.Spec PyProof.Rows L2
section
variable {X : Cx} {W : WX} {T : List (Addr × Str)} {δ : De} {ω : Om} {es : List Expr} {ds : List PyData} {pos : Pos} {x : Str} {R : Out → Prop} {ss : List Stmt}
end
end FP
namespace LC
open PySem PySem.Spec PyProof.Rows L2 HotX FP L2H
section
variable {X : L2.Cx} {T : List (Addr × Str)} {δ : De} {ω : Om} {d : PyData} {pos p : Pos} {k : Nat}
end
end LC

namespace LC
open PySem PySem.Spec PyProof.Rows L2 HotX FP L2H
/-- a method -/
structure GMC (P : Program) (w : World) (K : PySem.W.Frag) (mg : Str → Option Value) (base : Heap) (k : Nat) (C : Addr) (m : Str) (fr : FrG) : Prop where
  ex : ∃ f fd ps, FnOk P w K mg base (CX P w) k f fd ps (spG K fr) ∧ Meth K C m f ∧ L2.Binds K fd ps []
theorem GMC.mono {P : Program} {w : World} {K : PySem.W.Frag} {mg : Str → Option Value} {base : Heap} {j k : Nat} {C : Addr} {m : Str} {fr : FrG} (G : GMC P w K mg base j C m fr) (h : j ≤ k) : GMC P w K mg base k C m fr := by
  obtain ⟨f, fd, ps, F, m, b⟩ := G.ex
  exact ⟨f, fd, ps, F.mono h, m, b⟩
section
variable {P : Program} {w : World} {K : PySem.W.Frag} {mg : Str → Option Value} {base : Heap} {x qual : Str} {params : Arguments} {body : List Stmt} {scope : Scope} {kws : List (Str × V)} {f C : Addr} {fd : FuncData} {N ps : List Str} {k : Nat} {fr : FrG}
end
section
variable {X : L2.Cx} {W : WX} {T : List (Addr × Str)} {δ : De} {ω ω1 : Om} {b c e o : Expr} {es : List Expr} {d : PyData} {ds : List PyData} {r : Sd} {rs : List Sd} {pos p p1 apos : Pos} {R : Out → Prop} {ss : List Stmt} {a C : Addr} {f x m : Str} {k : Nat} {fr : FrG}
end
section
variable {X : L2.Cx} {W : WX} {T : List (Addr × Str)} {δ : De} {ω ω1 : Om} {a b c e o : Expr} {es : List Expr} {d : PyData} {ds : List PyData} {r : Sd} {rs : List Sd} {pos p p1 apos : Pos} {R : Out → Prop} {ss : List Stmt} {z C : Addr} {fs : Fo} {f x m : Str} {k : Nat} {fr : FrG}
end
end LC

namespace FP
open PySem PySem.Spec PyProof.Rows L2
section
variable {X : Cx} {W : WX} {T : List (Addr × Str)} {δ : De} {ω : Om} {e : Expr} {es : List Expr} {pos : Pos}
end
end FP

namespace FP
open PySem PySem.Spec PyProof.Rows L2 HotX L2H
section
variable {M : Model} {A : Around} {α : Type} {t : Sem α} {Q Q' : α → Shared → Prop} {E : Value → Shared → Prop} {s : Shared} {n : Nat}
/-- behind it no fewer are out -/
theorem fl (hn : n ≤ s.toks) (h : wpAny M A t Q E s) (k : ∀ a s', n ≤ s'.toks → Q a s' → Q' a s') : wpAny M A t Q' E s := wpAny_mono (PySem.wpAny_toks_of hn h) (fun a s' z => k a s' z.1 z.2) fun _ _ z => z.2
end
section
variable (θ : Nat) (X : Cx)
def wpeF (e : Expr) (σ : L2.St) (H : Hp) (Q : VK) : Prop := ∀ pins s, θ ≤ s.toks → Inv X pins σ H s → wpAny (model X.prog X.w) X.A (eval e X.env) (EP X pins σ Q) X.xe s
def wptF (e : Expr) (σ : L2.St) (H : Hp) (Q : Bool → Hp → Prop) : Prop := ∀ pins s, θ ≤ s.toks → Inv X pins σ H s → wpAny (model X.prog X.w) X.A (isTrue e X.env (eval e X.env)) (TP X pins σ Q) X.xe s
def wpwF (e : Expr) (σ : L2.St) (H : Hp) (Q : Bool → Hp → Prop) : Prop := ∀ (whole : Sem Value) pins s, θ ≤ s.toks → Inv X pins σ H s → wpAny (model X.prog X.w) X.A (isTrue e X.env whole) (TP X pins σ Q) X.xe s
def wpsF (st : Stmt) (D : Ends) (σ : L2.St) (H : Hp) : Prop := ∀ pins s, θ ≤ s.toks → Inv X pins σ H s → wpAny (model X.prog X.w) X.A (exec st X.env) (SP X pins D) X.xe s
def wpssF (ss : List Stmt) (D : Ends) (σ : L2.St) (H : Hp) : Prop := ∀ pins s, θ ≤ s.toks → Inv X pins σ H s → wpAny (model X.prog X.w) X.A (execs ss X.env) (SP X pins D) X.xe s
end
def YXF (θ : Nat) (X : Cx) (W : WX) (T : List (Addr × Str)) (δ : De) (ω : Om) (e : Expr) (R : Rg → Om → Prop) : Prop := ∀ σ H, Rl X.K H σ δ ω → LamX.Tabs T H → ∀ Q : VK,
  (∀ r ω' v H', R (.ok r) ω' → Stp T ω ω' H H' → Rl X.K H' σ δ ω' → SdV X.K (hid (ads ω') H') r v → Q v H') → (∀ Z ω' H', R (.er Z) ω' → Stp T ω ω' H H' → Rl X.K H' σ δ ω' → W (.ref Z) none σ H') → wpeF θ X e σ H Q
def ZTF (θ : Nat) (X : Cx) (T : List (Addr × Str)) (δ : De) (ω : Om) (e : Expr) (R : Bool → Om → Prop) : Prop := ∀ σ H, Rl X.K H σ δ ω → LamX.Tabs T H → ∀ Q : Bool → Hp → Prop, (∀ k ω' H', R k ω' → Stp T ω ω' H H' → Rl X.K H' σ δ ω' → Q k H') → wptF θ X e σ H Q
def ZWF (θ : Nat) (X : Cx) (T : List (Addr × Str)) (δ : De) (ω : Om) (e : Expr) (R : Bool → Om → Prop) : Prop := ∀ σ H, Rl X.K H σ δ ω → LamX.Tabs T H → ∀ Q : Bool → Hp → Prop, (∀ k ω' H', R k ω' → Stp T ω ω' H H' → Rl X.K H' σ δ ω' → Q k H') → wpwF θ X e σ H Q
def SDF (θ : Nat) (X : Cx) (W : WX) (T : List (Addr × Str)) (ss : List Stmt) (δ : De) (ω : Om) (R : Out → Prop) : Prop := ∀ σ H D, Rl X.K H σ δ ω → LamX.Tabs T H → Kt X W T ω H D R → wpssF θ X ss D σ H
def NxtF (θ : Nat) (X : Cx) (W : WX) (T : List (Addr × Str)) (ss : List Stmt) (R : Out → Prop) : Out → Prop
  | .nx δ ω => SDF θ X W T ss δ ω R
  | o => R o
section
variable {θ : Nat} {X : Cx} {W : WX} {T : List (Addr × Str)} {δ : De} {ω : Om} {a b c e : Expr} {pos : Pos} {R : Out → Prop} {ss sa sb l1 l2 : List Stmt} {st : Stmt} {D : Ends} {σ : L2.St} {H : Hp}
theorem wpe_run {Q : VK} {pins : List (Addr × Obj)} {s : Shared} (h : wpe X e σ H Q) (I : Inv X pins σ H s) : wpAny (model X.prog X.w) X.A (eval e X.env) (EP X pins σ Q) X.xe s := pe_w.run pins s σ H Q I h
theorem YX.f {Z : Rg → Om → Prop} (h : YX X W T δ ω e Z) : YXF θ X W T δ ω e Z := fun σ H rl t Q q q2 pins s _ I => pe_w.run pins s σ H Q I (h σ H rl t Q q q2)
theorem ZT.f {Z : Bool → Om → Prop} (h : ZT X T δ ω e Z) : ZTF θ X T δ ω e Z := fun σ H rl t Q q pins s _ I => pt_w.run pins s σ H Q I (h σ H rl t Q q)
theorem ZW.f {Z : Bool → Om → Prop} (h : ZW X T δ ω e Z) : ZWF θ X T δ ω e Z := fun σ H rl t Q q whole pins s _ I => pw_w.run whole pins s σ H Q I (h σ H rl t Q q)
theorem SD.f (h : SD X W T ss δ ω R) : SDF θ X W T ss δ ω R := fun σ H D rl t k pins s _ I => pss_w.run pins s σ H D I (h σ H D rl t k)
theorem ZWF.zt {Z : Bool → Om → Prop} (h : ZWF θ X T δ ω e Z) : ZTF θ X T δ ω e Z := fun σ H rl t Q q pins s hs I => h σ H rl t Q q _ pins s hs I
theorem YXF.imp {Z Z' : Rg → Om → Prop} (h : YXF θ X W T δ ω e Z) (k : ∀ r ω', Z r ω' → Z' r ω') : YXF θ X W T δ ω e Z' := fun σ H rl t Q q q2 => h σ H rl t Q (fun r ω' v H' z => q r ω' v H' (k _ _ z)) fun C ω' H' z => q2 C ω' H' (k _ _ z)
theorem execs_wp {M : Model} {A : Around} {Γ : PySem.Ctx} {env : Env} {l2 : List Stmt} {Q : Flow → Shared → Prop} {E : Value → Shared → Prop} (hΓ : Γ.In A) : ∀ {l1 : List Stmt} {p : Pos} {s : Shared},
    Sem.wp M Γ (execs l1 env) (fun f _ s' => match f with | .next => wpAny M A (execs l2 env) Q E s' | f => Q f s') (fun e _ s' => E e s') p s → Sem.wp M Γ (execs (l1 ++ l2) env) (fun f _ s' => Q f s') (fun e _ s' => E e s') p s
  | [], p, s, h => by
    have z : wpAny M A (execs l2 env) Q E s := h
    exact z Γ p hΓ
  | x :: l, p, s, h => by
    rw [execs_cons, Sem.wp_bind'] at h
    rw [List.cons_append, execs_cons, Sem.wp_bind']
    refine Sem.wp_mono M Γ _ (fun f p' s' h' => ?_) (fun _ _ _ h' => h') _ _ h
    cases f with
    | next => exact execs_wp hΓ h'
    | ret v => exact h'
    | brk => exact h'
    | cont => exact h'
theorem sdF_appF (h : SDF θ X W T l1 δ ω (NxtF θ X W T l2 R)) : SDF θ X W T (l1 ++ l2) δ ω R := fun σ H D rl t k pins s hs I Γ p hΓ => by
  refine execs_wp (A := X.A) hΓ (fl hs (h σ H { nx := fun σ' H' => wpssF θ X l2 D σ' H', rt := D.rt, bk := D.bk, ct := D.ct } rl t ⟨fun δ' ω' σ' H' z st l => z σ' H' D l (st.tab t) (k.step st), k.rt, k.ex, k.bk, k.ct⟩ pins s hs I) (fun f s1 h1 q => ?_) Γ p hΓ)
  cases f with
  | next =>
    obtain ⟨σ1, H1, I1, q⟩ := q
    exact q pins s1 h1 I1
  | ret v => exact q
  | brk => exact q
  | cont => exact q
theorem sdF_app (h : SD X W T l1 δ ω (NxtF θ X W T l2 R)) : SDF θ X W T (l1 ++ l2) δ ω R := sdF_appF (SD.f h)
theorem sdF_nil (h : R (.nx δ ω)) : SDF θ X W T [] δ ω R := SD.f (sd_nil h)
/-- one statement, then the rest -/
theorem sdF_cons (h : ∀ σ H D, Rl X.K H σ δ ω → LamX.Tabs T H → Kt X W T ω H D (NxtF θ X W T ss R) → wpsF θ X st D σ H) : SDF θ X W T (st :: ss) δ ω R := sdF_appF (l1 := [st]) fun σ H D rl t k pins s hs I => by
  refine wpAny_execs_cons (thn (h σ H D rl t k pins s hs I) fun f s1 q => ?_)
  cases f with
  | next => exact wpAny_execs_nil q
  | ret v => exact q
  | brk => exact q
  | cont => exact q
theorem sdF_if (h : ZTF θ X T δ ω c (fun k ω1 => (k = true → SDF θ X W T sa δ ω1 (NxtF θ X W T ss R)) ∧ (k = false → SDF θ X W T sb δ ω1 (NxtF θ X W T ss R)))) : SDF θ X W T (.If c sa sb pos :: ss) δ ω R :=
  sdF_cons fun σ H D rl t k pins s hs I => by
    refine wpAny_If (fl hs (h σ H rl t (fun d H1 => if d = true then wpssF θ X sa D σ H1 else wpssF θ X sb D σ H1) (fun d ω1 H1 z st l => ?_) pins s hs I) fun d s1 h1 q => ?_)
    · cases d with
      | true => exact iteT (z.1 rfl σ H1 D l (st.tab t) (k.step st))
      | false => exact iteF (z.2 rfl σ H1 D l (st.tab t) (k.step st))
    · obtain ⟨H1, I1, q⟩ := q
      cases d with
      | true => exact (show wpssF θ X sa D σ H1 from q) pins s1 h1 I1
      | false => exact (show wpssF θ X sb D σ H1 from q) pins s1 h1 I1
theorem sdF_ifZF (h : ZTF θ X T δ ω c (fun k ω1 => k = false ∧ SDF θ X W T ss δ ω1 R)) : SDF θ X W T (.If c sa [] pos :: ss) δ ω R :=
  sdF_if (sb := []) fun σ H rl t Q q => h σ H rl t Q fun k ω' H' z => q k ω' H' (And.intro (fun e => absurd (z.1.symm.trans e) Bool.false_ne_true) fun _ => sdF_nil (show NxtF θ X W T ss R (.nx δ ω') from z.2))
theorem sdF_exprX (he : YXF θ X W T δ ω e (fun r ω' => match r with | .ok _ => SDF θ X W T ss δ ω' R | .er Z => R (.ex Z ω'))) (hs : swapsWith e none pos.line X.env = pure false := by rfl) : SDF θ X W T (.Expr e pos :: ss) δ ω R :=
  sdF_cons fun σ H D rl t k pins s h0 I => by
    refine wpAny_Expr_any (thn (he σ H rl t (fun _ H1 => D.nx σ H1) (fun r ω1 v H1 z st l _ => k.nx δ ω1 σ H1 z st l) (fun Z ω1 H1 z st l => k.ex Z ω1 σ H1 z st l.ro) pins s h0 I) fun v s1 q => ?_) I.quiet hs
    obtain ⟨x, H1, I1, r1, q1⟩ := q
    exact ⟨σ, H1, I1, q1⟩
theorem sdF_setX (i : Nat) {x : Str} {pos' : Pos} (he : YXF θ X W T δ ω e (fun r ω' => match r with | .ok r => SDF θ X W T ss (δ.set i (some r)) ω' R | .er Z => R (.ex Z ω'))) (hN : X.N.Nodup) (hi : X.N[i]? = some x := by rfl) (hx : Loc X.env.scope x := by first | exact Or.inl rfl | exact Or.inr rfl) (hs : swapsWith e (some (.Name x pos')) pos.line X.env = pure false := by rfl)
    (hf : X.fn x = true ∨ X.env.scope.names.lookup x = some .local := by first | exact .inl rfl | exact .inr rfl | assumption) : SDF θ X W T (.Assign [.Name x pos'] e pos :: ss) δ ω R :=
  sdF_cons fun σ H D rl t k pins s h0 I => by
    refine wpAny_Assign_Name (thn (he σ H rl t (fun v H1 => D.nx (σ.set i (some v)) H1) (fun r ω1 v H1 z st l dv => k.nx _ ω1 _ H1 z st (l.set (x := r) dv)) (fun Z ω1 H1 z st l => k.ex Z ω1 σ H1 z st l.ro) pins s h0 I) fun v s1 q => ?_) hs
    obtain ⟨y, H1, I1, r1, q1⟩ := q
    exact store_ok I1 hN hi hx r1 (fun s2 I2 => ⟨_, H1, I2, q1⟩) hf
theorem sdF_retX (he : YXF θ X W T δ ω e (fun r ω' => match r with | .ok r => R (.rt r ω') | .er Z => R (.ex Z ω'))) : SDF θ X W T (.Return (some e) pos :: ss) δ ω R :=
  sdF_cons fun σ H D rl t k pins s h0 I => by
    refine wpAny_Return_some (thn (he σ H rl t D.rt (fun r ω1 v H1 z st l dv => k.rt r ω1 v H1 z st l.ro dv) (fun Z ω1 H1 z st l => k.ex Z ω1 σ H1 z st l.ro) pins s h0 I) fun v s1 q => ?_)
    obtain ⟨x, H1, I1, r1, q1⟩ := q
    exact ⟨x, σ, H1, I1, r1, q1⟩
theorem ztF_not {Z : Bool → Om → Prop} (h : ZTF θ X T δ ω e (fun k ω' => Z (!k) ω')) : ZTF θ X T δ ω (.UnaryOp .Not e pos) Z := fun σ H rl t Q q pins s hs I =>
  isTrue_not (h σ H rl t (fun c H1 => Q (!c) H1) (fun k ω1 H1 z st l => q (!k) ω1 H1 z st l) pins s hs I)
theorem ztF_bool {Z : Bool → Om → Prop} (h : YXF θ X (fun _ _ _ _ => False) T δ ω e (fun r ω' => ∃ k, r = .ok (.im (.bool k)) ∧ Z k ω')) (he : ∀ whole, isTrue e X.env whole = (do let v ← whole; standAt e.pos; holding [v] (truthy v)) := by intro _; rfl) : ZTF θ X T δ ω e Z := fun σ H rl t Q q pins s hs I => by
  refine isTrue_plain (thn (h σ H rl t (fun v H1 => ∃ k, v = .bl k ∧ Q k H1) (fun r ω1 v H1 z st l dv => ?_) (fun Z ω1 H1 z _ _ => by obtain ⟨_, z, _⟩ := z; cases z) pins s hs I) fun v s1 q1 => ?_) (he _)
  · obtain ⟨k, e1, z⟩ := z
    cases e1
    cases dv
    exact ⟨k, rfl, q k ω1 H1 z st l⟩
  · obtain ⟨x, H1, I1, r1, k, rfl, q1⟩ := q1
    cases r1
    exact wpAny_truthy_bool ⟨H1, I1, q1⟩
theorem zwF_or1 {Z : Bool → Om → Prop} (h : ZTF θ X T δ ω a Z) : ZWF θ X T δ ω (.BoolOp .Or [a] pos) Z := fun σ H rl t Q q wh pins s hs I => by
  refine isTrue_or (thn (h σ H rl t Q q pins s hs I) fun c s1 z => ?_)
  cases c with
  | false => exact isTrue_or_nil z
  | true => exact z
theorem zwF_or {rr : List Expr} {Z : Bool → Om → Prop} (h : ZTF θ X T δ ω a (fun k ω1 => (k = true → Z true ω1) ∧ (k = false → ZWF θ X T δ ω1 (.BoolOp .Or (b :: rr) pos) Z))) : ZWF θ X T δ ω (.BoolOp .Or (a :: b :: rr) pos) Z := fun σ H rl t Q q wh pins s hs I => by
  refine isTrue_or (fl hs (h σ H rl t (fun c H1 => if c = true then Q true H1 else wpwF θ X (.BoolOp .Or (b :: rr) pos) σ H1 Q) (fun k ω1 H1 z st l => ?_) pins s hs I) fun c s1 h1 z => ?_)
  · cases k with
    | true => exact iteT (q true ω1 H1 (z.1 rfl) st l)
    | false => exact iteF (z.2 rfl σ H1 l (st.tab t) Q fun k ω' H' z s l => q k ω' H' z (st.trans s) l)
  · obtain ⟨H1, I1, z⟩ := z
    cases c with
    | true => exact ⟨H1, I1, z⟩
    | false => exact (show wpwF θ X (.BoolOp .Or (b :: rr) pos) σ H1 Q from z) wh pins s1 h1 I1
/-- a op b, a asks for so many tokens -/
theorem ztF_cmp {op : CmpOp} {r : R2} {Z : Bool → Om → Prop} (ho : OpR X (compareOp op) r) (ha : YXF θ X (fun _ _ _ _ => False) T δ ω a (fun r1 ω1 => ∃ da, r1 = .ok (.im da) ∧ ZE X T δ ω1 b (fun db ω2 => ∃ k, RD X.K r da db (.bool k) ∧ Z k ω2))) (hm : behindInMarks op b = false) : ZTF θ X T δ ω (.Compare a [op] [b] pos) Z := fun σ H rl t Q q pins s hs I => by
  refine wpAny_isTrue_Compare1 (thn (ha σ H rl t (fun x H1 => ∃ da ω1, Stp T ω ω1 H H1 ∧ Rl X.K H1 σ δ ω1 ∧ Dp X.K (hid (ads ω1) H1) x da ∧ ZE X T δ ω1 b (fun db ω2 => ∃ k, RD X.K r da db (.bool k) ∧ Z k ω2)) (fun r1 ω1 v H1 z st l dv => ?_) (fun Z ω1 H1 z _ _ => by obtain ⟨_, z, _⟩ := z; cases z) pins s hs I) fun v s1 q1 => ?_) hm
  · obtain ⟨da, e1, z⟩ := z
    cases e1
    exact ⟨da, ω1, st, l, dv, z⟩
  · obtain ⟨x, H1, I1, r1, da, ω1, st, l, dx, hb⟩ := q1
    refine thn (wpe_run (hb σ H1 l (st.tab t) (fun y H2 => ∃ db ω2, Stp T ω1 ω2 H1 H2 ∧ Rl X.K H2 σ δ ω2 ∧ Dp X.K (hid (ads ω2) H2) y db ∧ ∃ k, RD X.K r da db (.bool k) ∧ Z k ω2) fun db ω2 y H2 z s2 l2 d2 => ⟨db, ω2, s2, l2, d2, z⟩) I1) fun u s2 q2 => ?_
    obtain ⟨y, H2, I2, r2, db, ω2, st2, l2, dy, k, hr, z⟩ := q2
    refine thn (ho pins s2 σ H2 x y v u (fun w H3 => w = .bl k ∧ Q k H3) I2 r1 r2 (hr _ x y H2 l2.ro.there (stp_sd (X := X) (r := .im da) st2 dx) dy _ fun w H3 s3 d3 => ?_)) fun c s3 q3 => ?_
    · cases d3
      exact ⟨rfl, q k ω2 H3 z ((st.trans st2).trans (.of s3)) (l2.mono s3)⟩
    · obtain ⟨w, H3, I3, r3, rfl, q3⟩ := q3
      cases r3
      exact wpAny_truthy_bool ⟨H3, I3, q3⟩
/-- a and b as a value, b asks -/
theorem yxF_and {k : Bool} {Z : Rg → Om → Prop} (ha : PD X δ ω a (.bool k)) (h1 : k = true → YXF θ X W T δ ω b Z) (h0 : k = false → Z (.ok (.im (.bool false))) ω) : YXF θ X W T δ ω (.BoolOp .And [a, b] pos) Z := fun σ H rl t Q q q2 pins s hs I => by
  refine BoolOp_and (fl hs (wpe_run (ha σ H rl (fun v H1 => v = .bl k ∧ Same H H1) fun v H1 s1 dv => by cases dv; exact ⟨rfl, s1⟩) I) fun v s1 f1 z => ?_)
  obtain ⟨x, H1, I1, r1, rfl, sm⟩ := z
  cases r1
  refine wpAny_truthy_bool ?_
  cases k with
  | true => exact BoolOp_one (h1 rfl σ H1 (rl.mono sm) (t.ext sm) Q (fun r ω' v H' z st l dv => q r ω' v H' z ((Stp.of sm).trans st) l dv) (fun C ω' H' z st l => q2 C ω' H' z ((Stp.of sm).trans st) l) pins s1 f1 I1)
  | false => exact ⟨.bl false, H1, I1, rfl, q _ ω _ H1 (h0 rfl) (.of sm) (rl.mono sm) (.bl _)⟩
end
end FP

namespace FP
open PySem PySem.Spec PyProof.Rows L2 HotX L2H
structure FnOkF (θ : Nat) (P : Program) (w : World) (K : PySem.W.Frag) (mg : Str → Option Value) (base : Heap) (CX : CXT) (k : Nat) (f : Addr) (fd : FuncData) (ps : List Str) (sp : L2.Sp) : Prop where
  len : ∀ vs H Q E, sp vs H Q E → vs.length = ps.length
  run : ∀ (A : Around) (outer : List Env) (s : Shared) (H : Hp) (args : Args) (us : List Value) (vs : List V) (Q : VK) (E : XK), θ ≤ s.toks → Room k A → Env0 P w K mg base A outer s H → BindsTo s fd args (ps.zip us) → Vals vs us → sp vs H Q E →
    codeAny (model P w) A (.call (.ref f) args) (CR CX outer P w H s Q E) s
section
variable {θ : Nat} {P : Program} {w : World} {K : PySem.W.Frag} {mg : Str → Option Value} {base : Heap} {CX : CXT} {j k : Nat} {f : Addr} {fd : FuncData} {ps : List Str} {sp : L2.Sp}
theorem FnOkF.mono (F : FnOkF θ P w K mg base CX j f fd ps sp) (h : j ≤ k) : FnOkF θ P w K mg base CX k f fd ps sp := ⟨F.len, fun A outer s H args us vs Q E hs hr => F.run A outer s H args us vs Q E hs (hr.mono h)⟩
/-- a def is entered, its body told of the very state -/
theorem enterF {name qual : Str} {params : Arguments} {body : List Stmt} {scope : Scope} {dV kV doc pm cdv ct oc : Value} {an od : Option Addr} {osl : Array (Option Value)} {N : List Str}
    (lk : K.lookup f = some ⟨oc, od, .func (PySem.W.fnOf name qual params body scope dV kV doc pm an cdv ct), osl⟩) (hcd : PySem.W.codeIn K cdv qual = true) (S : FnScope N ps scope)
    {A : Around} {outer : List Env} {s : Shared} {H : Hp} {args : Args} {us : List Value} {vs : List V} {Q : VK} {E : XK} (hs : θ ≤ s.toks) (hr : Room (k + 1) A) (e0 : Env0 P w K mg base A outer s H) (hb : BindsTo s (PySem.W.fnOf name qual params body scope dV kV doc pm an cdv ct) args (ps.zip us)) (r : Vals vs us) (hl : vs.length = ps.length)
    (hbody : Room k (A.deeper (envOfC qual scope s.heap.objs.size f cdv)) → wpssF θ (cxOf CX P w K mg base N qual scope f cdv A outer s H E) body { nx := fun _ H' => Q .non H', rt := Q } (L2.start N vs) H) :
    codeAny (model P w) A (.call (.ref f) args) (CR CX outer P w H s Q E) s := by
  have KX : K.In s.heap := e0.mod.kin.keeps fun b o e => (e0.bs b o e).1
  have nl : s.heap.NoLimit := e0.mod.nolimit.keeps fun b o e => (e0.bs b o e).1
  refine codeAny_call_function hr.depth (KX _ _ lk) rfl S.co S.gen rfl (PySem.W.codeRec_of KX hcd) (hb _ _ _ _ ?_)
  refine fl hs (wpAny_newFunctionEnv_cells (Q := fun env s1 => InCallC s env.locals (bindL env.kindOf (ps.zip us) fun _ => none) env.cells (bindC env.kindOf (ps.zip us) fun _ => none) s1 ∧ env = envOfC qual scope s.heap.objs.size f cdv) S.kind (fun y hy => ?_) fun env he s1 x => ⟨x, he⟩) fun env s1 h1 z => ?_
  · rcases S.par y.1 (List.of_mem_zip (show (y.1, y.2) ∈ ps.zip us from hy)).1 with q | q
    · exact .inl q
    · exact .inr ⟨q, PySem.W.cellsFrom_some _ _ _ (.inl q)⟩
  obtain ⟨x, rfl⟩ := z
  refine ⟨nl.keeps x.toInCall.keep, codeAny_func ?_⟩
  refine wpAny_mono (hbody (hr.deeper _) [] s1 h1 (inv_start S hr.hd e0 hl r x)) (fun g s2 q => ?_) fun _ _ q => q
  have out : ∀ {σ' : L2.St} {H' : Hp} {v : V} {u : Value}, Inv (cxOf CX P w K mg base N qual scope f cdv A outer s H E) [] σ' H' s2 → L2.RelV v u → Q v H' → CE outer P w H s Q u s2 := fun J rv q => ⟨_, _, J.os, J.bare, J.base, J.hok, rv, q⟩
  cases g with
  | next =>
    obtain ⟨_, _, J, q⟩ := q
    exact out (v := V.non) (u := Value.none) J rfl q
  | ret u =>
    obtain ⟨_, _, _, J, rv, q⟩ := q
    exact out J rv q
  | brk =>
    obtain ⟨_, _, _, q⟩ := q
    exact q.elim
  | cont =>
    obtain ⟨_, _, _, q⟩ := q
    exact q.elim
theorem fnF_of {x qual : Str} {params : Arguments} {body : List Stmt} {scope : Scope} {kws : List (Str × V)} {N : List Str} (F : FunD K x qual params body scope [] kws f fd) (S : FnScope N ps scope) (len : ∀ vs H Q E, sp vs H Q E → vs.length = ps.length)
    (hbody : ∀ (cdv : Value) (A : Around) (outer : List Env) (s : Shared) (H : Hp) (vs : List V) (Q : VK) (E : XK), Room k (A.deeper (envOfC qual scope s.heap.objs.size f cdv)) → sp vs H Q E →
      wpssF θ (cxOf CX P w K mg base N qual scope f cdv A outer s H E) body { nx := fun _ H' => Q .non H', rt := Q } (L2.start N vs) H) : FnOkF θ P w K mg base CX (k + 1) f fd ps sp := by
  obtain ⟨oc, od, dV, kV, doc, pm, an, cdv, ct, osl, rfl, lk, hcd, _, _⟩ := F.ex
  exact ⟨len, fun A outer s H args us vs Q E hs hr e0 hb r h => enterF lk hcd S hs hr e0 hb r (len _ _ _ _ h) fun hr' => hbody cdv A outer s H vs Q E hr' h⟩
end
structure DefF (θ : Nat) (P : Program) (w : World) (K : PySem.W.Frag) (mg : Str → Option Value) (base : Heap) (k : Nat) (x : Str) (fr : List PyData → Rs → Prop) : Prop where
  ex : ∃ f fd ps, FnOkF θ P w K mg base (L2N.CX P w) k f fd ps (spD K fr) ∧ mg x = some (.ref f) ∧ PySem.W.keepIn K (.ref f) = true ∧ L2.Binds K fd ps []
structure GMF (θ : Nat) (P : Program) (w : World) (K : PySem.W.Frag) (mg : Str → Option Value) (base : Heap) (k : Nat) (C : Addr) (m : Str) (fr : FrG) : Prop where
  ex : ∃ f fd ps, FnOkF θ P w K mg base (L2N.CX P w) k f fd ps (spG K fr) ∧ Meth K C m f ∧ L2.Binds K fd ps []
section
variable {θ : Nat} {P : Program} {w : World} {K : PySem.W.Frag} {mg : Str → Option Value} {base : Heap} {x qual : Str} {params : Arguments} {body : List Stmt} {scope : Scope} {kws : List (Str × V)} {f C : Addr} {fd : FuncData} {N ps : List Str} {j k : Nat}
theorem DefF.mono {fr : List PyData → Rs → Prop} (G : DefF θ P w K mg base j x fr) (h : j ≤ k) : DefF θ P w K mg base k x fr := by
  obtain ⟨f, fd, ps, F, r⟩ := G.ex
  exact ⟨f, fd, ps, F.mono h, r⟩
theorem GMF.mono {fr : FrG} (G : GMF θ P w K mg base j C x fr) (h : j ≤ k) : GMF θ P w K mg base k C x fr := by
  obtain ⟨f, fd, ps, F, r⟩ := G.ex
  exact ⟨f, fd, ps, F.mono h, r⟩
theorem defF_ok {fr : List PyData → Rs → Prop} (F : FunD K x qual params body scope [] kws f fd) (hm : mg x = some (.ref f)) (S : FnScope N ps scope) (hb : ∀ (kV doc pm : Value) (an : Option Addr) (cdv ct : Value) (us : List Value), us.length = ps.length → bindArgs (PySem.W.fnOf x qual params body scope .none kV doc pm an cdv ct) ⟨us, []⟩ = pure (ps.zip us))
    (len : ∀ ds r, fr ds r → ds.length = ps.length)
    (hbody : ∀ (cdv : Value) (A : Around) (outer : List Env) (s : Shared) (H : Hp) (E : XK) (qs : List Addr) (ds : List PyData) (r : Rs), Room k (A.deeper (envOfC qual scope s.heap.objs.size f cdv)) → fr ds r →
      SDF θ (cxOf (L2N.CX P w) P w K mg base N qual scope f cdv A outer s H E) (WOf E) [] body (startD N ds) ⟨qs, []⟩ (Fin r)) : DefF θ P w K mg base (k + 1) x fr := by
  refine ⟨f, fd, ps, fnF_of F S (fun vs H Q E h => ?_) (fun cdv A outer s H vs Q E hr h => ?_), hm, F.kp, F.bindsN hb⟩
  · obtain ⟨_, ds, r, _, h2, h3, _⟩ := h
    exact (dpa_len h2).trans (len ds r h3)
  · obtain ⟨qs, ds, r, h1, h2, h3, h4⟩ := h
    refine hbody cdv A outer s H E qs ds r hr h3 _ _ _ (start_rl h2 h1) (fun _ z => nomatch z) ?_
    have sm : ∀ {ω' : Om} {H' : Hp}, Stp [] ⟨qs, []⟩ ω' H H' → Same H H' := fun st b o e => st.keep b o e (fun z => nomatch z) (.inl rfl)
    refine ⟨fun δ' ω' σ' H' z st l => ?_, fun r' ω' v H' z st l dv => ?_, fun Z ω' σ' H' z st l => ?_, fun _ _ _ _ z => z.elim, fun _ _ _ _ z => z.elim⟩
    · have z : r = .ok .none := z
      rw [z] at h4
      exact h4 .non H' (sm st) .non
    · cases r' with
      | ad a => exact z.elim
      | im d =>
        have z : r = .ok d := z
        rw [z] at h4
        exact h4 v H' (sm st) (dpm (hid_more fun b hb => List.mem_append_left _ (by rw [st.ps]; exact hb)) dv)
    · have z : r = .er Z := z
      rw [z] at h4
      exact h4 H' (sm st)
theorem gmF_ok {fr : FrG} (F : FunD K x qual params body scope [] kws f fd) (hm : Meth K C x f) (S : FnScope N ps scope) (hb : ∀ (kV doc pm : Value) (an : Option Addr) (cdv ct : Value) (us : List Value), us.length = ps.length → bindArgs (PySem.W.fnOf x qual params body scope .none kV doc pm an cdv ct) ⟨us, []⟩ = pure (ps.zip us))
    (len : ∀ os as R, fr os as R → as.length = ps.length)
    (hbody : ∀ (cdv : Value) (A : Around) (outer : List Env) (s : Shared) (H : Hp) (E : XK) (qs : List Addr) (os : Os) (as : List Sd) (R : Rg → Os → Prop), Room k (A.deeper (envOfC qual scope s.heap.objs.size f cdv)) → fr os as R →
      SDF θ (cxOf (L2N.CX P w) P w K mg base N qual scope f cdv A outer s H E) (WOf E) [] body (startG N as) ⟨qs, os⟩ (FinG R)) : GMF θ P w K mg base (k + 1) C x fr := by
  refine ⟨f, fd, ps, fnF_of F S (fun vs H Q E h => ?_) (fun cdv A outer s H vs Q E hr h => ?_), hm, F.bindsN hb⟩
  · obtain ⟨_, os, as, R, _, h2, h3, _⟩ := h
    exact (paired_len h2).trans (len os as R h3)
  · obtain ⟨qs, os, as, R, h1, h2, h3, h4⟩ := h
    refine hbody cdv A outer s H E qs os as R hr h3 _ _ _ (startG_rl h1 h2) (fun _ z => nomatch z) ?_
    have kept : ∀ {ω' : Om} {H' : Hp}, Stp [] ⟨qs, os⟩ ω' H H' → ∀ b o, H b = some o → b ∉ os.map (·.1) → H' b = some o := fun st b o e nb => st.keep b o e nb (.inl rfl)
    have newA : ∀ {ω' : Om} {H' : Hp}, Stp [] ⟨qs, os⟩ ω' H H' → ∀ a ∈ ω'.os.map (·.1), a ∈ os.map (·.1) ∨ H a = none := fun {ω' H'} st a ha => (st.new a ha).imp_right fun q => by
      cases e : H a with
      | none => rfl
      | some o => exact absurd (.inl rfl) (q o e)
    have eqo : ∀ {ω' : Om} {H' : Hp}, Stp [] ⟨qs, os⟩ ω' H H' → (⟨qs, ω'.os⟩ : Om) = ω' := fun {ω' H'} st => by
      obtain ⟨a, b⟩ := ω'
      have e : a = qs := st.ps
      rw [e]
    refine ⟨fun δ' ω' σ' H' z st l => ?_, fun r' ω' v H' z st l dv => ?_, fun Z ω' σ' H' z st l => ?_, fun _ _ _ _ z => z.elim, fun _ _ _ _ z => z.elim⟩
    · exact h4 _ _ H' z (kept st) (newA st) (by rw [eqo st]; exact l.ro) .non .non
    · exact h4 _ _ H' z (kept st) (newA st) (by rw [eqo st]; exact l) v (by rw [eqo st]; exact dv)
    · exact h4 _ _ H' z (kept st) (newA st) (by rw [eqo st]; exact l)
end
section
variable {θ : Nat} {X : Cx} {W : WX} {T : List (Addr × Str)} {δ : De} {ω : Om} {e : Expr} {es : List Expr} {pos p p1 apos : Pos} {z C f : Addr} {fs : Fo} {x m : Str} {k : Nat} {fd : FuncData} {pn : List Str} {sp : L2.Sp} {CX : CXT}
theorem run_fnF {pins : List (Addr × Obj)} {σ : L2.St} {H : Hp} {s : Shared} {Q : VK} {us : List Value} {vs : List V} {E : XK} (F : FnOkF θ X.prog X.w X.K X.mg X.base CX k f fd pn sp) (hr : Room k X.A) (hb : L2.Binds X.K fd pn []) (hx : PassesAt CX X σ E)
    (hs : θ ≤ s.toks) (I : Inv X pins σ H s) (r : Vals vs us) (h : sp vs H Q E) : wpAny (model X.prog X.w) X.A (call (.ref f) us) (EP X pins σ Q) X.xe s := by
  have b := hb s us I.kIn (by rw [List.append_nil, ← r.length]; exact F.len _ _ _ _ h)
  rw [List.append_nil] at b
  refine wpAny_call (codeAny_mono (F.run X.A X.stack s H ⟨us, []⟩ us vs Q E hs hr I.env0 b r h) fun g s' q => ?_)
  match g, q with
  | .error e, q => exact hx pins H s e s' I q
  | .ok (.ret u), q => exact I.after q
/-- x(e), where e may ask for tokens too -/
theorem yxF_call1 {fr : List PyData → Rs → Prop} {Z : Rg → Om → Prop} (G : DefF θ X.prog X.w X.K X.mg X.base k x fr) (hr : Room k X.A) (tk : L2N.Takes X W)
    (ha : YXF θ X (fun _ _ _ _ => False) T δ ω e (fun r ω' => ∃ d rr, r = .ok (.im d) ∧ fr [d] rr ∧ match rr with | .ok d' => Z (.ok (.im d')) ω' | .er U => Z (.er U) ω')) (hg : Gl X x := by rfl) (hdb : (x == ("__debug__" : Str)) = false := by decide)
    (he : starEach [e] X.env = (false, eval e X.env) :: starEach [] X.env := by rfl) (hpl : (backTo pos (starEach [] X.env)).any (·.1) = false := by rfl) : YXF θ X W T δ ω (.Call (.Name x p) [e] [] pos) Z := fun σ H rl t Q q q2 pins s hs I => by
  obtain ⟨f, fd, pn, F, hm, kp, b⟩ := G.ex
  refine wpAny_Call_Name_kw (ld_glob I hg hm ?_ hdb)
  refine PySem.W.callWith_K (h₀ := X.base) I.ok.mod.kin kp ?_ he hpl
  rw [he]
  show wpAny _ _ (spliced ((false, eval e X.env) :: backTo pos (starEach [] X.env))) _ _ s
  refine Calls.spliced_cons (fl hs (ha σ H rl t (fun v H1 => ∃ ω1 d rr, Stp T ω ω1 H H1 ∧ Rl X.K H1 σ δ ω1 ∧ Dp X.K (hid (ads ω1) H1) v d ∧ fr [d] rr ∧ match rr with | .ok d' => Z (.ok (.im d')) ω1 | .er U => Z (.er U) ω1) (fun r ω1 v H1 z st l dv => ?_) (fun U ω1 H1 z _ _ => by obtain ⟨_, _, z, _⟩ := z; cases z) pins s hs I) fun v s1 h1 q1 => ?_)
  · obtain ⟨d, rr, e1, z⟩ := z
    cases e1
    exact ⟨ω1, d, rr, st, l, dv, z⟩
  · obtain ⟨y, H1, I1, r1, ω1, d, rr, st, l, dv, hf, z⟩ := q1
    refine Calls.spliced_nil ⟨I1.kIn, ?_⟩
    refine run_fnF F hr b (L2N.passAt tk σ) h1 I1 (.cons r1 .nil) ⟨ads ω1, [d], rr, l.ro.there, .cons dv .nil, hf, ?_⟩
    cases rr with
    | ok d' => exact fun v' H' s' dv' => q _ ω1 v' H' z (st.trans (.of s')) (l.mono s') dv'
    | er U => exact fun H' s' => q2 U ω1 H' z (st.trans (.of s')) (l.mono s')
/-- y.m(..), a method -/
theorem yxF_methG (i : Nat) {fr : FrG} {Rr : Rg → Os → Prop} {ps : List Addr} (os rest : Os) {Z : Rg → Om → Prop} (G : GMF θ X.prog X.w X.K X.mg X.base k C m fr) (hr : Room k X.A) (tk : L2N.Takes X W) (Cl : Cls X.K C) (hm : (z, Od.ins C fs) ∈ os ++ rest) (hl : (fs.map (·.1)).contains m = false) {rs : List Sd} (ha : PSs X δ ⟨ps, os ++ rest⟩ (e :: es) rs) (hf : fr os (.ad z :: rs) Rr)
    (hR : ∀ r os', Rr r os' → Z r ⟨ps, os' ++ rest⟩) (hd : δ[i]? = some (some (.ad z)) := by rfl) (hN : X.N[i]? = some x := by rfl)
    (hv : Vis X.env.scope x := by first | exact Or.inl rfl | exact Or.inr (Or.inl rfl) | exact Or.inr (Or.inr rfl)) (h1 : (x == ("__debug__" : Str)) = false := by decide) (h2 : (x == ("__classdict__" : Str)) = false := by decide) {pl : Sem Bool}
    (hst : starEach (e :: es) X.env = (false, eval e X.env) :: starEach es X.env := by rfl) (hpl : (backTo pos (starEach es X.env)).any (·.1) = false := by rfl)
    (ht : MthAs X (.Name x p1) m apos pos (e :: es) pl := by rfl) : YXF θ X W T δ ⟨ps, os ++ rest⟩ (.Call (.Attribute (.Name x p1) m apos) (e :: es) [] pos) Z := fun σ H rl t Q q q2 pins s hs I => by
  obtain ⟨f, fd, pn, F, M, b⟩ := G.ex
  obtain ⟨v, e1, e2⟩ := rl.sl i _ hd
  have e2 : v = .ref z := e2
  subst e2
  obtain ⟨dx, us, g1, g2⟩ := rl.ro.ob z _ hm
  have nl : us.lookup m = none := sfv_none g2 hl
  refine PySem.W.methodCall_KW (pl := pl) (fl hs ((pe_var (pos := p1) hN hv h1 h2).run pins s σ H (fun u H1 => u = .ref z ∧ H1 = H) I ⟨.ref z, e1, rfl, rfl⟩) fun u s1 f1 z1 => ?_) ht
  obtain ⟨y, H1, I1, ry, ey, eH⟩ := z1
  subst ey
  subst eH
  obtain rfl : u = Value.ref z := ry
  refine getmeth_ok I1 g1 Cl M nl ?_
  refine PySem.W.callWith_K (first := [.ref z]) (h₀ := X.base) I.ok.mod.kin M.kp (fl f1 (pa_w.run pos pins s1 σ H1 _ I1 (ha σ H1 rl (fun vs H2 => spG X.K fr (.ref z :: vs) H2 Q (WE W σ)) fun vs H2 s2 d2 => ?_)) fun us2 s2 f2 z2 => ?_) hst hpl
  · refine callG_end (T := T) (rs := .ad z :: rs) (rl.mono s2) (.cons rfl d2) hf fun r os' H' hr st l => ?_
    have w := hR r os' hr
    cases r with
    | ok r => exact fun v hv => q r _ v H' w ((Stp.of s2).trans st) l hv
    | er U => exact q2 U _ H' w ((Stp.of s2).trans st) l
  · obtain ⟨vs, H2, I2, r2, q3⟩ := z2
    exact ⟨I2.kIn, run_fnF (us := .ref z :: us2) (vs := .ref z :: vs) F hr b (L2N.passAt tk σ) f2 I2 (.cons rfl r2) q3⟩
end
end FP

namespace LC
open PySem PySem.Spec PyProof.Rows L2 HotX FP L2H
theorem nox_run {X : L2.Cx} {pins : List (Addr × Obj)} {σ : L2.St} {H : Hp} {s : Shared} {D : Ends} {ss : List Stmt} (I : Inv X pins σ H s) (h : Inv X.nox pins σ H s → wpAny (model X.prog X.w) X.A (execs ss X.env) (SP X.nox pins D) (fun _ _ => False) s) : wpAny (model X.prog X.w) X.A (execs ss X.env) (SP X pins D) X.xe s :=
  wpAny_mono (h (I.wish _)) (fun _ _ q => q.unwish) fun _ _ z => z.elim
theorem lam_callF {θ : Nat} {X Z : L2.Cx} {pins pinsZ : List (Addr × Obj)} {σ τ : L2.St} {H G : Hp} {s sZ : Shared} {f c' : Addr} {pm ctv : Value} {params : Arguments} {body : Expr} {scope : Scope} {k i : Nat} {a : Str} {W : WX} {p1 p2 : Pos} {Q : VK}
    (hP : Z.prog = X.prog) (hw : Z.w = X.w) (hK : Z.K = X.K) (hm : Z.mg = X.mg) (hB : Z.base = X.base) (h0 : Z.s_0 = s) (hH : Z.H_0 = H) (hex : Z.ex = []) (hfs : Z.fs = frs X.stack)
    (I : Inv X pins σ H s) (L : LamX.LamS X.env.scope scope) (hf : s.heap.get? f = some (PySem.W.kla_obj "<lambda>" (X.env.qual ++ "<lambda>") params body scope (cloFrom X.env.cells scope.names []) pm c' ctv)) (hfn : H f = none) (hfr : f ∉ frs X.stack)
    (hbind : bindArgs (PySem.W.kla_fn "<lambda>" (X.env.qual ++ "<lambda>") params body scope (cloFrom X.env.cells scope.names []) pm (.ref c') ctv) ⟨[], []⟩ = pure []) (tk : Takes Z W) (hr : Room (k + 1) Z.A)
    (hN : Z.N[i]? = some a) (hv : Vis Z.env.scope a) (t1 : τ[i]? = some (some (.ref f))) (t2 : G c' = some (LamX.CodeO c' (X.env.qual ++ "<lambda>")))
    (t3 : ∀ (A : Around) (outer : List Env) (t : Shared), Room k (A.deeper (LamX.lamEnv X scope t.heap.objs.size f c')) → wpeF θ (lamC X A outer t G (WE W τ) scope f c') body σ G Q) (hs : θ ≤ sZ.toks) (IZ : Inv Z pinsZ τ G sZ)
    (hd : (a == ("__debug__" : Str)) = false := by decide) (hcd : (a == ("__classdict__" : Str)) = false := by decide) :
    wpAny (model Z.prog Z.w) Z.A (eval (.Call (.Name a p1) [] [] p2) Z.env) (EP Z pinsZ τ Q) Z.xe sZ := by
  obtain ⟨zp, zw, zk, zmg, zb, zA, zN, zs, zh, zenv, zo, zst, zex, zfn, zc, zpn, zxe⟩ := Z
  dsimp only at hP hw hK hm hB h0 hH hex
  subst hP hw hK hm hB h0 hH hex
  refine wpAny_Call_Name_kw (fl hs ((pe_var (pos := p1) (i := i) hN hv hd hcd).run pinsZ sZ τ G (fun v G1 => v = .ref f ∧ G1 = G) IZ ⟨.ref f, t1, rfl, rfl⟩) fun u s1 hs1 w => ?_)
  obtain ⟨v, G1, J, rv, ev, eG⟩ := w
  subst ev
  subst eG
  obtain rfl : u = Value.ref f := rv
  have un : Un (frs X.stack) [] zh G1 zs.heap s1.heap := by
    rw [← hfs]
    exact J.base
  have gf := un.keep f _ hf hfn hfr (fun z => nomatch z)
  have rc : codeAny (model X.prog X.w) zA (.call (.ref f) ⟨[], []⟩) (CR (CX X.prog X.w) zst X.prog X.w G1 s1 Q (WE W τ)) s1 := by
    obtain ⟨⟨oc, vs, tt, g1, g2, g3⟩, _, _⟩ := J.hok c' _ t2
    refine PySem.W.kla_callFunE hr.depth gf rfl L.co L.gen rfl ⟨c', oc, vs, tt, rfl, g1, g2, g3⟩ ?_
    rw [hbind]
    refine wpAny_pure (wpAny_newFunctionEnv (fun y hy => (L.own y hy).2) (fun y hy => (nomatch hy)) (fun h2 n2 b2 => ⟨J.nolimit.fresh _ b2, ?_⟩) L.kind)
    show codeAny _ _ (.expr body (LamX.lamEnv X scope s1.heap.objs.size f c')) _ _
    have J2 := (LamX.lam_start2 (E := WE W τ) (scope := scope) (f := f) (c' := c') (tk := s1.toks + ([] : List (Str × Value)).length) I L J.env0 hr.hd un n2 (fun b o e => b2.extBut b o (Nat.ne_of_lt (Heap.lt_size e)) (Heap.get?_push_of_some _ e))).toTry (fun e t => wpAny (model X.prog X.w) (zA.deeper (LamX.lamEnv X scope s1.heap.objs.size f c')) (leaving (LamX.lamEnv X scope s1.heap.objs.size f c') e) (fun _ t' => CX X.prog X.w zst G1 s1 (WE W τ) e t') (fun e' t' => CX X.prog X.w zst G1 s1 (WE W τ) e' t') t)
    refine PySem.W.kla_codeExpr (wpAny_mono (t3 zA zst s1 (hr.deeper _) [] _ (Nat.le_trans hs1 (Nat.le_add_right _ _)) J2) (fun v s3 z => ?_) fun e s3 z => z)
    obtain ⟨v1, G3, J3, r3, q3⟩ := z
    exact ⟨v1, G3, J3.os, J3.bare, J3.base, J3.hok, r3, q3⟩
  refine PySem.W.callWith_F0 ⟨_, _, _, _, gf⟩ (wpAny_call (codeAny_mono rc fun r s2 z => ?_))
  match r, z with
  | .error e, z => exact passAt tk τ pinsZ G1 s1 e s2 J z
  | .ok (.ret u), z => exact J.after z
section
variable {θ : Nat} {X : L2.Cx} {T : List (Addr × Str)} {δ : De} {ω : Om} {d : PyData} {pos p : Pos} {k : Nat}
/-- a told lambda, whatever it hands back -/
theorem yxF_told {Rz : Sd → Om → Prop} {x a e n wd : Str} {st : Stmt} {Ng : List Str} {CS : Addr} {fw : Addr → PyData → Prop} {p1 p2 p3 p4 p5 p6 p7 p8 p9 p10 lpos : Pos} {params : Arguments} {body : Expr} {scope : Scope} (G : Told X.K X.mg x st) (L : LamT X T) (hT : T ≠ []) (hps : ω.ps = []) (hr : Room (k + 2) X.A)
    (WK : Word2 X.prog X.w X.K X.mg X.base (k + 1) wd fw)
    (hst : defBody st = [.Try [.Return (some (.Call (.Name a p1) [] [] p2)) p3] [.ExceptHandler (some (.Name e p4)) (some n) [.Return (some (.Call (.Name wd p5) [.Name n p6] [] p7)) p8] p9] [] [] p10]) (S : FnScope Ng [a] (defScope st)) (hNd : Ng.Nodup) (hNg : Ng[0]? = some a) (hva : Vis (defScope st) a)
    (hN1 : Ng[1]? = some n) (hkn : (defScope st).names.lookup n = some .local) (hge : (defScope st).names.lookup e = some .globalImplicit) (hgw : (defScope st).names.lookup wd = some .globalImplicit) (hme : X.mg e = some (.ref CS))
    (hbn : ∀ (kV doc pm : Value) (an : Option Addr) (cdv ct : Value) (us : List Value), us.length = [a].length → bindArgs (PySem.W.fnOf x x (defArgs st) (defBody st) (defScope st) .none kV doc pm an cdv ct) ⟨us, []⟩ = pure ([a].zip us))
    (hb : ∀ (A : Around) (outer : List Env) (s : Shared) (H : Hp) (E : XK) (f c' : Addr), Room k (A.deeper (LamX.lamEnv X scope s.heap.objs.size f c')) → YXF θ (lamC X A outer s H E scope f c') (WOf E) T δ ω body (fun r ω1 => match r with | .ok r' => Rz r' ω1 | .er Z => PySem.W.exmOne X.K (.ref Z) (.ref CS) = some true ∧ ∃ d, fw Z d ∧ Rz (.im d) ω1))
    (hL : LamX.LamS X.env.scope scope) (hdef : defaultsOf params X.env = ([], []) := by rfl) (hbind : ∀ (q : Str) (cl : List (Str × Addr)) (pm cv ctv : Value), bindArgs (PySem.W.kla_fn "<lambda>" q params body scope cl pm cv ctv) ⟨[], []⟩ = pure [] := by intros; rfl)
    (hg : Gl X x := by rfl) (hdb : (x == ("__debug__" : Str)) = false := by decide) (hd1 : (a == ("__debug__" : Str)) = false := by decide) (hcd1 : (a == ("__classdict__" : Str)) = false := by decide) (hde : (e == ("__debug__" : Str)) = false := by decide) (hdw : (wd == ("__debug__" : Str)) = false := by decide)
    (hdn : (n == ("__debug__" : Str)) = false := by decide) (hcn : (n == ("__classdict__" : Str)) = false := by decide) : YXF θ X (fun _ _ _ _ => False) T δ ω (.Call (.Name x p) [.Lambda params body scope lpos] [] pos) (fun r ω1 => ∃ r', r = .ok r' ∧ Rz r' ω1) := fun σ H rl tb Q q _ pins s hs I => by
  obtain ⟨g, fd, F, hm⟩ := G.ex
  obtain ⟨c, P, TB, hcode, hmT, hu⟩ := L.ex
  have hbs := FunD.bindsN (ps := [a]) F hbn
  have kp := F.kp
  obtain ⟨oc, od, dV, kV, doc, pm, an, cdv, ct, osl, rfl, lk, hcd, hD, hK⟩ := F.ex
  refine wpAny_Call_Name_kw (ld_glob I hg hm ?_ hdb)
  refine PySem.W.callWith_K (h₀ := X.base) I.ok.mod.kin kp ?_ (by rfl) (by rfl)
  show wpAny _ _ (spliced ((false, eval (.Lambda params body scope lpos) X.env) :: backTo pos (starEach [] X.env))) _ _ s
  refine Calls.spliced_cons (fl hs (LamX.lam_make2 (Q := fun v s' => ∃ (f c' : Addr) (pm ctv : Value) (H1 : Hp), v = .ref f ∧ Inv X pins σ H1 s' ∧ LamX.ExtN H H1 ∧ LamX.Tabs T H1 ∧
      s'.heap.get? f = some (PySem.W.kla_obj "<lambda>" (X.env.qual ++ "<lambda>") params body scope (cloFrom X.env.cells scope.names []) pm c' ctv) ∧ H1 f = none ∧ f ∉ frs X.stack ∧ H1 c' = some (LamX.CodeO c' (X.env.qual ++ "<lambda>"))) I TB hcode hmT hu tb hdef (hL.has I.ok) fun f c' pm' ctv H1 s' I1 eN T1 hf hfn hfr hco => ⟨f, c', pm', ctv, H1, rfl, I1, eN, T1, hf, hfn, hfr, hco⟩) fun v s' hs' z => ?_)
  obtain ⟨f, c', pm', ctv, H1, rfl, I1, eN, T1, hf, hfn, hfr, hco⟩ := z
  refine Calls.spliced_nil ⟨I1.kIn, ?_⟩
  have rl1 : Rl X.K H1 σ δ ω := rl_ext (T := T) eN hps rl
  have st0 : Stp T ω ω H H1 := ⟨fun b o h _ p => eN b o h (p.resolve_left hT), fun a h => .inl h, rfl, fun _ => T1⟩
  have done : ∀ r ω1 v H2, Rz r ω1 → Stp T ω ω1 H1 H2 → Rl X.K H2 σ δ ω1 → SdV X.K (hid (ads ω1) H2) r v → Q v H2 := fun r ω1 v H2 z s2 l2 d2 => q r ω1 v H2 ⟨r, rfl, z⟩ (st0.trans s2) l2 d2
  refine wpAny_call (codeAny_mono (R := CR C8.CX0 X.stack X.prog X.w H1 s' Q C8.E0) (enterF (θ := θ) (N := Ng) (ps := [a]) (us := [.ref f]) (vs := [.ref f]) lk hcd S hs' hr I1.env0 (hbs s' [.ref f] I1.kIn rfl) (.cons rfl .nil) rfl fun hr' => ?_) fun rr s2 z => ?_)
  · rw [hst]
    intro pinsD sD hsD ID
    refine nox_run (X := cxOf C8.CX0 X.prog X.w X.K X.mg X.base Ng x (defScope st) g cdv X.A X.stack s' H1 C8.E0) ID fun IN => ?_
    refine wpAny_execs_cons (thn (try_raw (X := (cxOf C8.CX0 X.prog X.w X.K X.mg X.base Ng x (defScope st) g cdv X.A X.stack s' H1 C8.E0).nox) (x := e) (n := n) (c := .ref CS) (i := 1) (np := p4) (pos := p10) (pos' := p9) (rp := p8) (ex := .Call (.Name wd p5) [.Name n p6] [] p7)
      (body := [.Return (some (.Call (.Name a p1) [] [] p2)) p3]) (D := { nx := fun _ H' => Q .non H', rt := Q }) rfl rfl hNd hN1 hkn ⟨hge, hde, .inl hme⟩ IN fun pn xe J tk => ?_) fun fw s3 z => ?_)
    · refine wpAny_execs_cons (wpAny_Return_some (thn (lam_callF (θ := θ) (Q := Q) (τ := L2.start Ng [.ref f]) (X := X) (Z := ((cxOf C8.CX0 X.prog X.w X.K X.mg X.base Ng x (defScope st) g cdv X.A X.stack s' H1 C8.E0).nox).tr pn xe) rfl rfl rfl rfl rfl rfl rfl rfl rfl I1 hL hf hfn hfr (hbind _ _ _ _ _) tk hr' hNg hva rfl hco (fun A outer t hr2 => ?_) hsD J hd1 hcd1) fun v s3 z => ?_))
      · refine hb A outer t H1 _ f c' hr2 σ H1 rl1 T1 Q (fun r ω1 v H2 z s2 l2 dv => ?_) (fun C ω1 H2 z s2 l2 => ?_)
        · exact done r ω1 v H2 z s2 l2 dv
        · obtain ⟨hx, d, hfw, z⟩ := z
          refine ⟨hx, fun q l pn2 c1 c2 hot nq hpn => ?_⟩
          have pw := pe_word (X := ((cxOf C8.CX0 X.prog X.w X.K X.mg X.base Ng x (defScope st) g cdv X.A X.stack s' H1 C8.E0).nox).suite q.1 pn2) (q := q) (l := l) (i := 1) (p5 := p5) (p6 := p6) (p7 := p7) WK ⟨(roomH_of hr').dp, (roomH_of hr').un⟩ hot hpn c1 c2 hfw hgw hN1 (.inl hkn) hdw hdn hcn
          refine we pw ⟨?_, ads ω1, l2.ro.there, fun v G' s3 dv => done (.im d) ω1 v G' z (s2.trans (.of s3)) (l2.mono s3) dv⟩
          rw [List.getElem?_set_self]
          unfold L2.start
          have := (List.getElem?_eq_some_iff.mp hN1).1
          simp
          omega
      · obtain ⟨v1, H3, J3, r3, q3⟩ := z
        exact ⟨v1, _, H3, J3, r3, q3⟩
    · cases fw with
      | next => exact wpAny_execs_nil z
      | ret v => exact z
      | brk => exact z
      | cont => exact z
  · match rr, z with
    | .ok (.ret u), z => exact I1.after z
theorem zeF_told {Rz : PyData → Om → Prop} {x a e n wd : Str} {st : Stmt} {Ng : List Str} {CS : Addr} {fw : Addr → PyData → Prop} {p1 p2 p3 p4 p5 p6 p7 p8 p9 p10 lpos : Pos} {params : Arguments} {body : Expr} {scope : Scope} (G : Told X.K X.mg x st) (L : LamT X T) (hT : T ≠ []) (hps : ω.ps = []) (hr : Room (k + 2) X.A)
    (WK : Word2 X.prog X.w X.K X.mg X.base (k + 1) wd fw)
    (hst : defBody st = [.Try [.Return (some (.Call (.Name a p1) [] [] p2)) p3] [.ExceptHandler (some (.Name e p4)) (some n) [.Return (some (.Call (.Name wd p5) [.Name n p6] [] p7)) p8] p9] [] [] p10]) (S : FnScope Ng [a] (defScope st)) (hNd : Ng.Nodup) (hNg : Ng[0]? = some a) (hva : Vis (defScope st) a)
    (hN1 : Ng[1]? = some n) (hkn : (defScope st).names.lookup n = some .local) (hge : (defScope st).names.lookup e = some .globalImplicit) (hgw : (defScope st).names.lookup wd = some .globalImplicit) (hme : X.mg e = some (.ref CS))
    (hbn : ∀ (kV doc pm : Value) (an : Option Addr) (cdv ct : Value) (us : List Value), us.length = [a].length → bindArgs (PySem.W.fnOf x x (defArgs st) (defBody st) (defScope st) .none kV doc pm an cdv ct) ⟨us, []⟩ = pure ([a].zip us))
    (hb : ∀ (A : Around) (outer : List Env) (s : Shared) (H : Hp) (E : XK) (f c' : Addr), Room k (A.deeper (LamX.lamEnv X scope s.heap.objs.size f c')) → YXF θ (lamC X A outer s H E scope f c') (WOf E) T δ ω body (fun r ω1 => match r with | .ok (.im d) => Rz d ω1 | .ok (.ad _) => False | .er Z => PySem.W.exmOne X.K (.ref Z) (.ref CS) = some true ∧ ∃ d, fw Z d ∧ Rz d ω1))
    (hL : LamX.LamS X.env.scope scope) (hdef : defaultsOf params X.env = ([], []) := by rfl) (hbind : ∀ (q : Str) (cl : List (Str × Addr)) (pm cv ctv : Value), bindArgs (PySem.W.kla_fn "<lambda>" q params body scope cl pm cv ctv) ⟨[], []⟩ = pure [] := by intros; rfl)
    (hg : Gl X x := by rfl) (hdb : (x == ("__debug__" : Str)) = false := by decide) (hd1 : (a == ("__debug__" : Str)) = false := by decide) (hcd1 : (a == ("__classdict__" : Str)) = false := by decide) (hde : (e == ("__debug__" : Str)) = false := by decide) (hdw : (wd == ("__debug__" : Str)) = false := by decide)
    (hdn : (n == ("__debug__" : Str)) = false := by decide) (hcn : (n == ("__classdict__" : Str)) = false := by decide) : YXF θ X (fun _ _ _ _ => False) T δ ω (.Call (.Name x p) [.Lambda params body scope lpos] [] pos) (fun r ω1 => ∃ d, r = .ok (.im d) ∧ Rz d ω1) :=
  (yxF_told (Rz := fun r ω1 => ∃ d, r = .im d ∧ Rz d ω1) G L hT hps hr WK hst S hNd hNg hva hN1 hkn hge hgw hme hbn (fun A outer s H E f c' hr' => (hb A outer s H E f c' hr').imp fun r ω1 z => by
    match r, z with
    | .ok (.im d), z => exact ⟨d, rfl, z⟩
    | .er Z, ⟨z1, d, z2, z3⟩ => exact ⟨z1, d, z2, d, rfl, z3⟩) hL hdef hbind hg hdb hd1 hcd1 hde hdw hdn hcn).imp fun r ω1 z => by
    obtain ⟨r', rfl, d, rfl, z⟩ := z
    exact ⟨d, rfl, z⟩
end
end LC

namespace FP
open PySem PySem.Spec PyProof.Rows L2 HotX L2H
section
variable {θ : Nat} {X : Cx} {W : WX} {T : List (Addr × Str)} {δ : De} {ω : Om} {tg iter o : Expr} {pos p p1 p2 apos : Pos} {R : Out → Prop} {ss sa : List Stmt} {x y z v : Str} {k : Nat}
/-- what the walk of a loop has at its n-th turn from the end -/
def LoopF (θ : Nat) (X : Cx) (pins : List (Addr × Obj)) (fp : List Addr) (tn : Nat → Heap → Prop) (V : Nat → Nat → L2.St → Hp → Prop) (n : Nat) (s : Shared) : Prop :=
  θ ≤ s.toks ∧ ∃ i σ H, Inv X pins σ H s ∧ tn i s.heap ∧ (∀ b ∈ fp, H b = none) ∧ V i n σ H
theorem psF_for {wi : TI} {g : TG} {D : Ends} {σ : L2.St} {H : Hp} (hp : PassesOwn (model X.prog X.w) X.A X.env X.xe) (hc : X.calm = true) (hi : PI X tg iter wi) (hg : PG X tg g) (h : tFor wi g (fun D σ H => wpssF θ X sa D σ H) D σ H)
    (hs : ∀ x, foldedSetIterable iter X.env x = pure x := by intro _; rfl) : wpsF θ X (.For tg iter sa [] pos) D σ H := fun pins s h0 I => by
  refine wpAny_For (fl h0 (hi.run pins s σ H _ I h) fun v s1 h1 r1 => fl h1 r1 fun itv s2 h2 r2 => ?_) hs
  obtain ⟨it, fp, tn, J, H2, rfl, I2, tu, at0, fresh, V, ⟨m0, v0⟩, turn⟩ := r2
  have kept : ∀ {H' : Hp}, (∀ b ∈ fp, H' b = none) → ∀ b ∈ fp, FpOk X pins H' b := fun e b hb => ⟨e b hb, (fresh b hb).2⟩
  refine codeAny_forLoop_any (LoopF θ X pins fp tn V) (fun n s3 L => ?_) m0 ⟨h2, 0, σ, H2, I2, at0, fun b hb => (fresh b hb).1, v0⟩
  obtain ⟨h3, i, σ3, H3, I3, at3, e3, v3⟩ := L
  rcases turn i n σ3 H3 v3 with ⟨stop, fin⟩ | ⟨go, N, less, step⟩
  · refine wpAny_passesOwn hp (thn (tu.done X rfl rfl rfl hc i pins s3 σ3 H3 X.xe I3 (kept e3) at3 stop) fun r s4 q => ?_)
    obtain ⟨rfl, I4⟩ := q
    exact wpAny_execs_nil ⟨σ3, H3, I4, fin⟩
  · refine wpAny_passesOwn hp (fl h3 (tu.item X rfl rfl rfl hc i pins s3 σ3 H3 X.xe I3 (kept e3) at3 go) fun r s4 h4 q => ?_)
    obtain ⟨u, rfl, q⟩ := q
    refine wpAny_passesOwn hp (fl h4 q fun _ s5 h5 q => ?_)
    obtain ⟨y, H5, I5, r5, y5, at5, e5⟩ := q
    refine wpAny_passesOwn hp (fl h5 (hg.run _ s5 σ3 H5 y u _ (I5.pinned (kept e5) (tu.obj _ _ at5)) r5 (step y H5 y5)) fun _ s6 h6 q => ?_)
    obtain ⟨σ6, H6, I6, body⟩ := q
    refine wpAny_passesOwn hp (fl h6 (body _ s6 h6 I6) fun f s7 h7 q => ?_)
    have on : ∀ {σ7 : L2.St} {H7 : Hp}, Inv X (pins ++ pinsAt fp s5.heap) σ7 H7 s7 → N σ7 H7 → ∃ m, m < n ∧ LoopF θ X pins fp tn V m s7 := fun {σ7 H7} I7 n7 => by
      obtain ⟨m, lt, v7⟩ := less σ7 H7 n7
      have held : ∀ b ∈ fp, ∀ ob, s5.heap.get? b = some ob → s7.heap.get? b = some ob ∧ H7 b = none := fun b hb ob e =>
        have w := I7.pin (b, ob) (List.mem_append_right _ (List.mem_append_right _ (mem_pinsAt hb e)))
        ⟨w.1, w.2.1⟩
      refine ⟨m, lt, h7, i + 1, σ7, H7, I7.unpinned, tu.keep _ _ _ at5 fun b hb ob e => (held b hb ob e).1, fun b hb => ?_, v7⟩
      obtain ⟨ob, e, _⟩ := tu.obj _ _ at5 b hb
      exact (held b hb ob e).2
    match f, q with
    | .next, ⟨_, _, I7, n7⟩ => exact on I7 n7
    | .cont, ⟨_, _, I7, n7⟩ => exact on I7 n7
    | .brk, ⟨σ7, H7, I7, n7⟩ => exact ⟨σ7, H7, I7.unpinned, n7⟩
    | .ret u, ⟨x7, σ7, H7, I7, r7, q7⟩ => exact ⟨x7, σ7, H7, I7.unpinned, r7, q7⟩
theorem sdF_for (j : Nat) {items : List PyData} (inv : Nat → De → Om → Prop) (hw : PWk X δ ω tg iter items) (h0 : inv 0 δ ω)
    (hb : ∀ i d δ' ω', items[i]? = some d → inv i δ' ω' → SDF θ X W T sa (δ'.set j (some (.im d))) ω' (Turn1 inv i (NxtF θ X W T ss R) R))
    (hd : ∀ δ' ω', inv items.length δ' ω' → SDF θ X W T ss δ' ω' R) (hg : PG X tg (gName j)) (hp : PassesOwn (model X.prog X.w) X.A X.env X.xe) (hc : X.calm = true) (hs : ∀ x, foldedSetIterable iter X.env x = pure x := by intro _; rfl) : SDF θ X W T (.For tg iter sa [] pos :: ss) δ ω R := by
  obtain ⟨wi, h1, h2⟩ := hw
  refine sdF_cons fun σ H D rl t k => psF_for hp hc h1 hg (h2 σ H rl _ fun J H1 s1 w => ?_) hs
  refine ⟨fun i m σ' H' => ∃ δ' ω', m = items.length - i ∧ i ≤ items.length ∧ inv i δ' ω' ∧ Stp T ω ω' H1 H' ∧ Rl X.K H' σ' δ' ω', ⟨items.length, δ, ω, by omega, Nat.zero_le _, h0, .refl, rl.mono s1⟩, ?_⟩
  rintro i m σ' H' ⟨δ', ω', em, hi, iv, st, rl'⟩
  obtain ⟨go, stop, yld⟩ := w T H' (fun b o z p => (hid_out (st.seen b o z p)).2)
  have k1 := (k.step (Stp.of s1 : Stp T ω ω H H1)).step st
  rcases Nat.lt_or_ge i items.length with hlt | hge
  · refine .inr ⟨go i hlt, fun σ2 H2 => ∃ δ2 ω2, inv (i + 1) δ2 ω2 ∧ Stp T ω ω2 H1 H2 ∧ Rl X.K H2 σ2 δ2 ω2, fun σ2 H2 ⟨δ2, ω2, a1, a2, a3⟩ => ⟨items.length - (i + 1), by omega, δ2, ω2, rfl, hlt, a1, a2, a3⟩, fun x H2 hy => ?_⟩
    obtain ⟨e2, d, ed, dx⟩ := yld i x H2 hlt hy
    subst e2
    refine hb i d δ' ω' ed iv _ _ _ (rl'.set (x := .im d) (dp_ke st.seen d x dx)) (st.tab (t.ext s1)) ?_
    exact ⟨fun δ2 ω2 σ2 H2 z q l => ⟨δ2, ω2, z, st.trans q, l⟩, fun r ω2 v H2 z q l dv => k1.rt r ω2 v H2 z q l dv, fun C ω2 σ2 H2 z q l => k1.ex C ω2 σ2 H2 z q l, fun δ2 ω2 σ2 H2 z q l => k1.nx δ2 ω2 σ2 H2 z q l, fun δ2 ω2 σ2 H2 z q l => ⟨δ2, ω2, z, st.trans q, l⟩⟩
  · have e : i = items.length := by omega
    subst e
    exact .inl ⟨stop, k1.nx δ' ω' σ' H' (hd δ' ω' iv) .refl rl'⟩
/-- a module's name holds this text, of a token below θ -/
structure GlT (mg : Str → Option Value) (x z : Str) (θ : Nat) : Prop where
  ex : ∃ t, mg x = some (.str z t) ∧ t ≠ 0 ∧ t < θ
/-- o.replace(x, v), x a module's text -/
theorem yxF_repl {Z : Rg → Om → Prop} (G : GlT X.mg x y θ) (ho : PD X δ ω o (.str z)) (hz : z.length + (z.length + 1) * v.length ≤ 16777216) (hR : Z (.ok (.im (.str (Txt.replace z y v)))) ω) (hyv : (y == v) = false := by decide)
    (hg : Gl X x := by rfl) (hdb : (x == ("__debug__" : Str)) = false := by decide)
    (hst : starEach [.Name x p1, .Constant (.str v) k p2] X.env = [(false, eval (.Name x p1) X.env), (false, eval (.Constant (.str v) k p2) X.env)] := by rfl)
    (hbase : attributeBase o "replace" X.env (eval o X.env) = eval o X.env := by rfl) (hline : (apos.endLine == pos.line) = true := by rfl) :
    YXF θ X W T δ ω (.Call (.Attribute o "replace" apos) [.Name x p1, .Constant (.str v) k p2] [] pos) Z := fun σ H rl t Q q _ pins s hs I => by
  obtain ⟨t0, hm, n0, lt⟩ := G.ex
  refine PySem.Call_method2 hbase hst hline (fl hs (wpe_run (ho σ H rl (fun w H1 => w = .str z ∧ Same H H1) fun w H1 s1 dv => by cases dv; exact ⟨rfl, s1⟩) I) fun w s1 h1 q1 => ?_)
  obtain ⟨v', H1, I1, r1, rfl, sm⟩ := q1
  obtain ⟨tz, rfl⟩ := r1
  refine ⟨"str", _, PySem.F.plainAttrs_str, PySem.F.slot_str_replace, PySem.F.type_str_replace, typeIs_str _ _ _, (fun _ e => nomatch e), Calls.callWith_builtin rfl (Calls.evalArgs_plain (Calls.spliced_cons ?_))⟩
  refine ld_glob I1 hg hm ?_ hdb
  refine Calls.spliced_cons (Calls.Constant_str (Calls.spliced_nil ?_))
  have lt1 : t0 < s1.toks := Nat.lt_of_lt_of_le lt h1
  refine PySem.SC.replace n0 (Nat.ne_of_gt (Nat.lt_of_le_of_lt (Nat.zero_le _) lt1)) (Nat.ne_of_lt lt1) hyv hz fun t' k' => ⟨.str (Txt.replace z y v), H1, I1.tok k', ⟨t', rfl⟩, ?_⟩
  exact q _ ω _ H1 hR (.of sm) (rl.mono sm) (.str _)
end
end FP

namespace FP
open PySem PySem.W PySem.Calls PyProof.Rows
/-- how the law is reached: so many tokens are out, the module's heap says so -/
def LawRun (l : OpenLaw) (q : Program) (loose : List PySem.Str) (H : Hook) (d : DefRec) (n θ : Nat) : Prop :=
  ∀ (w : World) (s₁ : Shared) (mg mb : PySem.Str → Option Value) (fa a : Addr) (vs : List Value) (ns : List Int), θ ≤ s₁.toks → (∃ s₀, Ground q loose [] (XL q []) w s₀ mg mb s₁.heap) → H.says w s₁.heap → mg d.name = some (.ref fa) →
    s₁.heap.get? a = some { cls := .type "list", data := .seq vs.toArray } → IntsAre vs ns → ns.length ≤ n → (∀ k ∈ ns, Builtin.Int.intBits k ≤ 1048576) → s₁.gens = #[] →
    codeAny (model l.prog w) callerA (.call (.ref fa) ⟨[.ref a], []⟩) (fun r s' => r = .ok (.ret (.bool true)) ∧ OldK s₁.heap s'.heap ∧ s'.os = s₁.os ∧ AllBare s'.gens) s₁
theorem law_tok {l : OpenLaw} {q : Program} {H : Hook} {ob : SharedT → H.α} {M n θ : Nat} {loose : List PySem.Str} {d : DefRec} (ho : ∀ s : SharedT, ob s = H.obs s.abs)
    (e : opening l.row.prog = plainProg l.row.prog.main.scope.names) (f : ∀ s, fenceModules? l.row.prog s = some s) (run : ∀ w, HandSHeadRun.RunEq l.row q H ob M loose w)
    (hdef : defOf q l.row.name = some (d, [])) (hp : l.row.prog.theDef l.row.name = some (d.params, d.body, d.scope)) (hk : kwWritten? d.params.kwonlyargs d.params.kw_defaults = some [])
    (hwr : (!l.row.writes || l.row.records.isEmpty) = true) (k1 : l.row.wellSaid = true) (ok : (chainsOk q && opensWell l.row.prog && (frees l.row.toRowW && l.row.within.isEmpty)) = true) (hb : l.row.prog.bare) (hw : l.row.toRowW.promised)
    (hn : l.most = some n) (hdf : d.params.defaults = []) (hθ : ∀ w s, H.obs s = H.val w → θ ≤ s.toks) (call : LawRun l q loose H d n θ) : l.row.Holds := by
  have left : LeftO l.row.prog q loose (fun s => xlAt q [] s && recOk l.row.toRowW.records s) H.obs H.val (M + 600) true :=
    HandSHeadRun.left_one (M := M) e (Nat.ble_eq_true_of_le (by omega)) f (Nat.ble_eq_true_of_le (by omega)) fun w os => by
      have z := run w os
      rw [show ob = fun s => H.obs s.abs from funext ho] at z
      simp only [HandSHeadRun.endQ_eq, HandSHeadRun.seenQ_eq]
      exact z
  have hX : ∀ s, (xlAt q [] s && recOk l.row.toRowW.records s) = true → XL q [] (s.heap.nsMap mainGlobals) s.heap ∧ RecFacts l.row.toRowW.records s.heap := fun s z => ⟨xl_of s (Bool.and_eq_true_iff.mp z).1, recFacts_of (Bool.and_eq_true_iff.mp z).2⟩
  obtain ⟨ok1, ok2⟩ := Bool.and_eq_true_iff.mp ok
  obtain ⟨hch, o1⟩ := Bool.and_eq_true_iff.mp ok1
  obtain ⟨free, k6⟩ := Bool.and_eq_true_iff.mp ok2
  obtain ⟨hsame, hu, ha, hap, hm⟩ := frees_parts free
  refine ⟨k1, hw, ⟨hb, o1, by first | rfl | (show l.row.toRowW.makers.map _ = []; rw [hm]; rfl)⟩, hw.witness, fun w => ⟨(left.behind (XP := fun mg h => XL q [] mg h ∧ RecFacts l.row.toRowW.records h) hX hch w).1, fun s' hs' => ?_⟩⟩
  obtain ⟨s₀, hf, hg0, s, hT, hz, hgens, hg, G00, y⟩ := (left.behind (XP := fun mg h => XL q [] mg h ∧ RecFacts l.row.toRowW.records h) hX hch w).2 s' hs'
  have G0 : Ground q loose [] (XL q []) w s (s.heap.nsMap mainGlobals) (s.heap.nsMap builtinsNs) s.heap := ⟨G00.T, G00.B, G00.D, G00.TE, G00.TD, G00.W, G00.X.1, G00.cls, G00.has, G00.apart, G00.once, G00.K⟩
  have RF := G00.X.2
  refine ⟨s₀, hf, hg0, s, hT, fun nm hnm => ?_, RF.1, RF.2.1, ?_⟩
  · obtain rfl : nm = l.row.name := by split at hnm <;> simp_all
    exact pinned_of_view hg G0 hdef hp hk
  have hgens : s.gens = #[] := Array.eq_empty_of_size_eq_zero (beq_iff_eq.mp hgens)
  have tok := hθ w s y
  refine ClaimW.callFrom_of_specG (c := l.row.toRowW.claim) hz hgens fun args hpre hlay ord hord => ?_
  obtain ⟨⟨vs, s₁⟩, hlaid⟩ := Option.isSome_iff_exists.mp (layAllW_isSome (P := w.params) (ord := ord) G0.has args l.row.args s (pre_splitW hpre).1)
  have grew := layAllW_grows _ _ _ hlaid
  have keeps := layAllW_keeps _ _ _ hlaid
  have rest := layAllW_rest _ _ _ hlaid
  obtain ⟨as, hrd, hin, hold⟩ := reads_layAllW hord _ _ _ hlaid hlay s₁.heap (fun _ _ e => e)
  have L : Laid l.row.toRowW.records w s s₁ args vs as := ⟨⟨ord, hord, hlaid⟩, hrd, hin, hold, keeps, rest.1.trans hgens, rest.2.2.1⟩
  have G₁ := G0.keeps (fun mg h h' => XL.keeps mg h h') keeps
  obtain ⟨fa, o, pm, cd, doc, dV, kV, h1, h2, h3, h4, h5⟩ := G₁.fn hdef
  obtain ⟨a, ws, ns, rfl, rfl, hobj, hints, hlen⟩ := Att.script_of hn hpre L.well
  have hi := ident_freeW hu ha hap
  have hwi : l.row.toRowW.claim.within = [] := List.isEmpty_iff.mp k6
  have good : wpAny (model l.prog w) callerA (PySem.call (.ref fa) [.ref a]) (fun v s' => GoodWG l.row.toRowW.claim (classAt s.heap) (ExcName.means s.heap) [WData.list (ns.map WData.int)] s₁ (.ok (.ret v)) s')
      (fun e s' => GoodWG l.row.toRowW.claim (classAt s.heap) (ExcName.means s.heap) [WData.list (ns.map WData.int)] s₁ (.error e) s') s₁ := by
    refine enter_call (codeAny_mono (call w s₁ _ _ fa a ws ns (Nat.le_trans tok grew.toks) ⟨s, G₁⟩ (H.keeps _ _ _ (H.of w s y) keeps) (defOf_name hdef ▸ h1) hobj hints hlen (Att.script_bits hlay) L.gens) fun r s' q => ?_)
    obtain ⟨rfl, q2, q3, q4⟩ := q
    exact ⟨.inl ⟨.bool true, .bool true, [], rfl, fun _ => rfl, .bool true, Att.post_true l _, fun _ => ⟨List.Pairwise.nil, fun _ m => nomatch m⟩⟩, q2, q3, q4⟩
  have out : ∀ (rr : Result) (s' : Shared), GoodWG l.row.toRowW.claim (classAt s.heap) (ExcName.means s.heap) [WData.list (ns.map WData.int)] s₁ rr s' → l.row.toRowW.claim.Ends s [WData.list (ns.map WData.int)] [.ref a] s₁ rr s' ∧ s'.os = s.os ∧ AllBare s'.gens ∧
      (l.row.writes = true → namesKept l.row.toRowW.claim.prog l.row.keeps s.heap s'.heap ∧ ∀ x ∈ l.row.toRowW.claim.records, ∀ a, classAt s.heap x.1 = some a → recordClass s'.heap a x.1 (x.2.map (·.1)) = true) := fun rr s' g => by
    have z := g.laid (c := l.row.toRowW.claim) hsame hwi hi L
    exact ⟨z.1, z.2.1, z.2.2, fun q => ⟨namesKept_of hT hg l.row.keeps keeps g.2.1.old, noTable hwr q⟩⟩
  exact ⟨_, s₁, hlaid, wpAny_bind (wpAny_nsGet G₁.T.g (by rw [h1]; exact wpAny_bind (wpAny_mono good (fun v s' g => wpAny_pure ⟨_, rfl, out _ _ g⟩) fun e s' g => out _ _ g)))⟩
end FP

namespace FP
open PySem PySem.Spec PyProof.Rows L2 HotX L2H LamX
open Classical in
/-- the tables, and the script unless the module itself holds it -/
noncomputable def H0 (K : PySem.W.Frag) (ts : List Addr) (a : Addr) (vs : List Value) (ns : List Int) : Hp := fun b =>
  if b ∈ ts then some (.tbl #[]) else if b = a ∧ K.lookup a = none then some (.frz { cls := .type "list", data := .seq vs.toArray } (.lst (ns.map V.int))) else none
section
variable {P : Program} {w : World} {K : PySem.W.Frag} {mg mb : Str → Option Value} {a : Addr} {cs : List (Addr × Addr)} {s₁ : Shared} {vs : List Value} {ns : List Int}
theorem H0_tbl {b : Addr} (h : b ∈ cs.map (·.2)) : H0 K (cs.map (·.2)) a vs ns b = some (.tbl #[]) := if_pos h
theorem H0_cases (b : Addr) : (b ∈ cs.map (·.2) ∧ H0 K (cs.map (·.2)) a vs ns b = some (.tbl #[])) ∨ (b = a ∧ K.lookup a = none ∧ H0 K (cs.map (·.2)) a vs ns b = some (.frz { cls := .type "list", data := .seq vs.toArray } (.lst (ns.map V.int)))) ∨ H0 K (cs.map (·.2)) a vs ns b = none := by
  unfold H0
  by_cases h : b ∈ cs.map (·.2)
  · exact .inl ⟨h, if_pos h⟩
  · by_cases h2 : b = a ∧ K.lookup a = none
    · exact .inr (.inl ⟨h2.1, h2.2, by rw [if_neg h, if_pos h2]⟩)
    · exact .inr (.inr (by rw [if_neg h, if_neg h2]))
/-- the state at the law's call -/
theorem law_env (KX : K.In s₁.heap) (hns : s₁.heap.Ns mainGlobals mg) (hb : s₁.heap.Ns builtinsNs mb) (hbb : ∀ x : Str, x ≠ "__name__" → mb x = bootBuiltins x) (hlim : s₁.heap.NoLimit) (hg : s₁.gens = #[])
    (hT : ∀ p ∈ cs, s₁.heap.get? p.2 = some { cls := .none, data := .fields #[] }) (nT : ∀ p ∈ cs, K.lookup p.2 = none) (C : ∀ p ∈ cs, PySem.W.CodeHd s₁.heap p.1 p.2)
    (hbm : ∃ (bm : Addr) (ob : Obj), mg "__builtins__" = some (.ref bm) ∧ bm ≠ builtinsNs ∧ s₁.heap.get? bm = some ob ∧ ob.cls = .type "module" ∧ ob.dict = some builtinsNs ∧ ob.data = .plain)
    (ha : s₁.heap.get? a = some { cls := .type "list", data := .seq vs.toArray }) (hi : IntsAre vs ns) (hl : ns.length ≤ sizeLine) :
    ∃ (base : Heap) (H : Hp), K.In base ∧ base.Ns mainGlobals mg ∧ (∀ p ∈ cs, TabB base mg p.1 p.2) ∧ Env0 P w K mg base callerA [] s₁ H ∧ (∀ p ∈ cs, H p.2 = some (.tbl #[])) ∧ SqL K H a (ns.map V.int) ∧
      ∀ (H' : Hp) (h' : Heap), Un [] [] H H' s₁.heap h' → HOk P w H' h' → OldK s₁.heap h' := by
  have rv := vals_ints hi
  have isT : ∀ b : Addr, b ∈ cs.map (·.2) → s₁.heap.get? b = some { cls := .none, data := .fields #[] } := fun b m => by
    obtain ⟨p, hp, e⟩ := List.mem_map.mp m
    rw [← e]
    exact hT p hp
  obtain ⟨H, eH⟩ : ∃ H, H = H0 K (cs.map (·.2)) a vs ns := ⟨_, rfl⟩
  have cases_ : ∀ b, (b ∈ cs.map (·.2) ∧ H b = some (.tbl #[])) ∨ (b = a ∧ K.lookup a = none ∧ H b = some (.frz { cls := .type "list", data := .seq vs.toArray } (.lst (ns.map V.int)))) ∨ H b = none := fun b => by
    rw [eH]
    exact H0_cases b
  have tbl : ∀ p ∈ cs, H p.2 = some (.tbl #[]) := fun p hp => by
    rw [eH]
    exact H0_tbl (List.mem_map.mpr ⟨p, hp, rfl⟩)
  -- what is neither a table nor a list is not told
  have bare : ∀ {b : Addr} {o : Obj}, s₁.heap.get? b = some o → (∀ xs n, o.data ≠ .seq xs n) → o.data ≠ .fields #[] → H b = none := fun {b o} e n1 n2 => by
    rcases cases_ b with ⟨m, _⟩ | ⟨q, _, _⟩ | q
    · have := (isT b m).symm.trans e
      cases this
      exact absurd rfl n2
    · rw [q, ha] at e
      cases e
      exact absurd rfl (n1 _ _)
    · exact q
  have dict : ∀ {b : Addr} {m : Str → Option Value}, s₁.heap.Ns b m → (hidT s₁.heap H).Ns b m := fun {b m} ⟨o, es, ep, e, d, r⟩ => ⟨o, es, ep, hidT_get e (bare e (fun _ _ z => by rw [d] at z; cases z) fun z => by rw [d] at z; cases z), d, r⟩
  have inB : K.In (hidT s₁.heap H) := fun b o e => hidT_get (KX b o e) (by
    rcases cases_ b with ⟨m, _⟩ | ⟨q, n, _⟩ | q
    · obtain ⟨p, hp, ep⟩ := List.mem_map.mp m
      rw [← ep, nT p hp] at e
      cases e
    · rw [q, n] at e
      cases e
    · exact q)
  have hok : HOk P w H s₁.heap := fun b u e => by
    rcases cases_ b with ⟨m, q⟩ | ⟨q1, _, q⟩ | q
    · cases q.symm.trans e
      exact isT b m
    · cases q.symm.trans e
      rw [q1]
      exact ⟨ha, by rw [List.length_map]; exact hl, vs, _, rv, ha⟩
    · cases q.symm.trans e
  have back : ∀ (H' : Hp) (h' : Heap), Un [] [] H H' s₁.heap h' → HOk P w H' h' → OldK s₁.heap h' := fun H' h' un hok' => by
    have same : ∀ b o, b ∉ cs.map (·.2) → s₁.heap.get? b = some o → h'.get? b = some o := fun b o nm e => by
      rcases cases_ b with ⟨m, _⟩ | ⟨_, _, q⟩ | q
      · exact absurd m nm
      · have z := hok' b _ (un.frzs b _ _ q)
        obtain ⟨z1, _⟩ := hok b _ q
        rw [z1] at e
        cases e
        exact z.1
      · exact un.keep b o e q (fun z => nomatch z) (fun z => nomatch z)
    have grown : ∀ p ∈ cs, ∃ more : Array Value, h'.get? p.2 = some { cls := .none, data := .fields more } := fun p hp => by
      obtain ⟨more, z⟩ := un.tbls p.2 #[] (tbl p hp)
      exact ⟨_, hok' p.2 _ z⟩
    refine ⟨fun b o e => ?_, fun b o e => ?_⟩
    · by_cases m : b ∈ cs.map (·.2)
      · obtain ⟨p, hp, ep⟩ := List.mem_map.mp m
        obtain ⟨more, g⟩ := grown p hp
        subst ep
        cases (hT p hp).symm.trans e
        exact .inr (.inl ⟨((C p hp).tab (hT p hp)).isCodeTable, rfl, #[], more, rfl, by rw [Array.empty_append]; exact g⟩)
      · exact .inl (same b o m e)
    · by_cases m : b ∈ cs.map (·.2)
      · obtain ⟨p, hp, ep⟩ := List.mem_map.mp m
        obtain ⟨more, g⟩ := grown p hp
        rw [← ep]
        exact ⟨_, g⟩
      · exact ⟨o, same b o m e⟩
  refine ⟨hidT s₁.heap H, H, inB, dict hns, fun p hp => ?_, ?_, tbl, ?_, back⟩
  · refine ⟨?_, ?_, fun z => ?_⟩
    · obtain ⟨o, us, file, tf, flags, tg, inF, text, tt, e1, r1, r2, r3, r⟩ := C p hp
      exact ⟨o, us, file, tf, flags, tg, inF, text, tt, hidT_get e1 (bare e1 (fun _ _ z => by rw [r2] at z; cases z) fun z => by rw [r2] at z; cases z; simp at r3), r1, r2, r3, r⟩
    · obtain ⟨bm, ob, b1, b2, b3, b4, b5, b6⟩ := hbm
      refine ⟨bm, ob, b1, b2, fun q => ?_, fun q => ?_, hidT_get b3 (bare b3 (fun _ _ z => by rw [b6] at z; cases z) fun z => by rw [b6] at z; cases z), b4, b5, b6⟩
      · obtain ⟨o, es, ep, e, hd, _⟩ := hns
        rw [q, e] at b3
        cases b3
        rw [hd] at b6
        cases b6
      · rw [q, hT p hp] at b3
        cases b3
        cases b6
    · obtain ⟨o, es, ep, e, hd, _⟩ := hns
      rw [z, hT p hp] at e
      cases e
      cases hd
  · obtain ⟨mc, m1, m2⟩ := hlim
    exact ⟨rfl, ⟨inB, dict hns, ⟨mb, dict hb, hbb⟩, ⟨mc, dict m1, m2⟩⟩, fun b o e => of_hidT e, Nat.le_of_eq (hidT_size _ _), trivial, fun b z => absurd (show b ∈ ([] : List Addr) from z) (by simp), hok, .of_eq hg⟩
  · cases hk : K.lookup a with
    | some o =>
      have e := KX a o hk
      cases ha.symm.trans e
      exact .inr ⟨_, vs.toArray, _, hk, rfl, rfl, rfl, by rw [List.size_toArray, hi.length]; exact hl, by simpa using rv⟩
    | none =>
      refine .inl (.inr ⟨{ cls := .type "list", data := .seq vs.toArray }, ?_⟩)
      rcases cases_ a with ⟨m, _⟩ | ⟨_, _, q⟩ | q
      · cases (isT a m).symm.trans ha
      · exact q
      · exfalso
        have na : a ∉ cs.map (·.2) := fun m => by cases (isT a m).symm.trans ha
        rw [eH] at q
        unfold H0 at q
        rw [if_neg na, if_pos ⟨rfl, hk⟩] at q
        cases q
end
/-- what is known of the law's promise, with a floor -/
def LawF (θ : Nat) (l : PySem.W.OpenLaw) (w : World) (K : PySem.W.Frag) (k n : Nat) (x : Str) (mg : Str → Option Value) (fa : Addr) (h : Heap) : Prop :=
  ∃ (fd : FuncData) (cs : List (Addr × Addr)) (sp : L2.Sp), (∀ p ∈ cs, h.get? p.2 = some { cls := .none, data := .fields #[] }) ∧ (∀ p ∈ cs, K.lookup p.2 = none) ∧ (∀ p ∈ cs, PySem.W.CodeHd h p.1 p.2) ∧ (∀ (s : Shared) (u : Value), BindsTo s fd ⟨[u], []⟩ [(x, u)]) ∧
    (∀ (H : Hp) (a : Addr) (ns : List Int), ns.length ≤ n → (∀ z ∈ ns, Builtin.Int.intBits z ≤ 1048576) → (∀ p ∈ cs, H p.2 = some (.tbl #[])) → SqL K H a (ns.map V.int) → sp [.ref a] H (fun v _ => v = .bl true) fun _ _ _ => False) ∧
    ∀ base : Heap, K.In base → base.Ns mainGlobals mg → (∀ p ∈ cs, TabB base mg p.1 p.2) → FnOkF θ l.prog w K mg base (L2N.CX l.prog w) k fa fd [x] sp
theorem law_run {l : PySem.W.OpenLaw} {q : Program} {loose : List Str} {Hk : PySem.W.Hook} {d : DefRec} {n θ k : Nat} {x : Str} (hn2 : n ≤ sizeLine) (hr : Room k callerA)
    (F : ∀ (w : World) (mg : Str → Option Value) (fa : Addr) (h : Heap), Hk.says w h → h.Ns mainGlobals mg → mg d.name = some (.ref fa) → ∃ K : PySem.W.Frag, K.In h ∧ LawF θ l w K k n x mg fa h) : LawRun l q loose Hk d n θ := by
  intro w s₁ mg mb fa a vs ns tok ⟨s₀, G⟩ Y hmg hobj hints hlen hbits hg
  obtain ⟨K, KX, fd, cs, sp, hT, nT, C, hb, hsp, hF⟩ := F w mg fa _ Y G.T.g hmg
  obtain ⟨base, H, inB, nsB, tabs, e0, tb, sq, back⟩ := law_env (P := l.prog) (w := w) KX G.T.g G.T.b G.T.builtins G.T.nolimit hg hT nT C G.T.bmain hobj hints (Nat.le_trans hlen hn2)
  refine codeAny_mono ((hF base inB nsB tabs).run callerA [] s₁ H ⟨[.ref a], []⟩ [.ref a] [.ref a] _ _ tok hr e0 (hb s₁ (.ref a)) (.cons rfl .nil) (hsp H a ns hlen hbits tb sq)) fun r s' z => ?_
  match r, z with
  | .error e, z => exact (cx_none z).elim
  | .ok (.ret u), z =>
    obtain ⟨v, H', os, bare, un, hok', rv, ev⟩ := z
    have ev : v = .bl true := ev
    subst ev
    obtain rfl : u = Value.bool true := rv
    exact ⟨rfl, back H' _ un hok', os, bare⟩
end FP

namespace FP
open PySem PySem.Spec PyProof.Rows L2 HotX L2H
theorem tokB_ok {K : PySem.W.Frag} {mg : Str → Option Value} {h : Heap} {θ : Nat} (KX : K.In h) (G : h.Ns mainGlobals mg) {x z : Str} (c : tokB K x z θ = true) : GlT mg x z θ := by
  unfold tokB at c
  split at c
  · rename_i y t e
    simp only [Bool.and_eq_true, decide_eq_true_eq, Bool.not_eq_true', decide_eq_false_iff_not] at c
    obtain ⟨rfl, n0, lt⟩ := c
    exact ⟨t, PySem.W.mg_of KX G e, n0, lt⟩
  · cases c
theorem lawF_ok {θ : Nat} {P : Program} {w : World} {K : PySem.W.Frag} {mg : Str → Option Value} {base : Heap} {x qual y : Str} {params : Arguments} {body : List Stmt} {scope : Scope} {dV kV doc pm cdv ct oc : Value} {an od : Option Addr} {osl : Array (Option Value)} {f : Addr} {N : List Str} {k : Nat} {T : List (Addr × Str)}
    (lk : K.lookup f = some ⟨oc, od, .func (PySem.W.fnOf x qual params body scope dV kV doc pm an cdv ct), osl⟩) (hcd : PySem.W.codeIn K cdv qual = true) (S : FnScope N [y] scope)
    (hbody : ∀ (A : Around) (outer : List Env) (s : Shared) (H : Hp) (E : XK) (ns : List Int), Room k (A.deeper (envOfC qual scope s.heap.objs.size f cdv)) → ns.length ≤ 63 → (∀ z ∈ ns, Builtin.Int.intBits z ≤ 1048576) →
      SDF θ (cxOf (L2N.CX P w) P w K mg base N qual scope f cdv A outer s H E) (WOf E) T body (startD N [.list (ns.map .int)]) ⟨[], []⟩ FinT) :
    FnOkF θ P w K mg base (L2N.CX P w) (k + 1) f (PySem.W.fnOf x qual params body scope dV kV doc pm an cdv ct) [y] (spL K T) :=
  ⟨fun vs H Q E h => by obtain ⟨a, ns, rfl, _⟩ := h; rfl, fun A outer s H args us vs Q E hs hr e0 hb r h => by
    obtain ⟨a, ns, rfl, h1, h2, h3, h4, h5⟩ := h
    refine enterF lk hcd S hs hr e0 hb r rfl fun hr' => hbody A outer s H E ns hr' h2 h3 _ _ _ (start_rl (vs := [.ref a]) (.cons (.lst (by rw [hid_nil]; exact h1) (dpa_ints ns)) .nil) (fun _ z => nomatch z)) h4 ?_
    refine ⟨fun _ _ _ _ z => z.elim, fun r' ω' v H' z st l dv => ?_, fun _ _ _ _ z => z.elim, fun _ _ _ _ z => z.elim, fun _ _ _ _ z => z.elim⟩
    cases r' with
    | ad a => exact z.elim
    | im d =>
      have z : d = .bool true := z
      subst z
      cases dv
      exact h5 H'⟩
theorem law_atF {θ : Nat} {l : PySem.W.OpenLaw} {w : World} {K : PySem.W.Frag} {mg : Str → Option Value} {h : Heap} {fa : List He.Fa} {fn : List He.DefD} {ts : List He.Tab} {ex : PySem.W.Frag → Bool} {params : Arguments} {body : List Stmt} {scope : Scope} {f : Addr} {N : List Str} {k : Nat} {x : Str}
    (KX : K.In h) (G : h.Ns mainGlobals mg) (hfa : mg "law" = some (.ref f)) (c : He.SaysX fa fn ts [("law", none)] ex w h K) (hd : (⟨("law", none), "law", "law", params, body, scope, [], []⟩ : He.DefD) ∈ fn) (hg : He.Fa.glo "law" ∈ fa) (S : FnScope N [x] scope)
    (hb : ∀ (kV doc pm : Value) (an : Option Addr) (cdv ct : Value) (us : List Value), us.length = [x].length → bindArgs (PySem.W.fnOf "law" "law" params body scope .none kV doc pm an cdv ct) ⟨us, []⟩ = pure ([x].zip us))
    (hbody : ∀ (base : Heap), K.In base → base.Ns mainGlobals mg → ∀ (T : List (Addr × Str)) (cdv : Value) (A : Around) (outer : List Env) (s : Shared) (H : Hp) (E : XK) (ns : List Int), T ≠ [] → LamT (cxOf (L2N.CX l.prog w) l.prog w K mg base N "law" scope f cdv A outer s H E) T →
      Room k (A.deeper (envOfC "law" scope s.heap.objs.size f cdv)) → ns.length ≤ 63 → (∀ z ∈ ns, Builtin.Int.intBits z ≤ 1048576) →
      SDF θ (cxOf (L2N.CX l.prog w) l.prog w K mg base N "law" scope f cdv A outer s H E) (WOf E) T body (startD N [.list (ns.map .int)]) ⟨[], []⟩ FinT) :
    LawF θ l w K (k + 1) 63 x mg f h := by
  have cd := c.t.d
  obtain ⟨fd, F⟩ := cd.defs hd
  cases hfa.symm.trans (He.glo_ok KX G (cd.facts hg))
  obtain ⟨oc, od, dV, kV, doc, pm, an, cdv, ct, osl, rfl, lk, hcd, hD, hK⟩ := F.ex
  obtain rfl : dV = .none := by
    rcases hD with ⟨_, e⟩ | ⟨e, _⟩
    · exact e
    · exact absurd rfl e
  have hbA := FunD.bindsA (ps := [x]) F hb
  have mem : (("law", none) : He.Defn) ∈ ([("law", none)] : List He.Defn) := List.mem_singleton.mpr rfl
  obtain ⟨cc, rfl⟩ := He.codeIn_ref hcd
  have ec : He.codeOf K ("law", none) = cc := He.codeOf_eq lk rfl
  refine ⟨_, [He.cT K ("law", none)], spL K [((He.cT K ("law", none)).2, (Str.ofString "law" ++ ".<locals>.") ++ "<lambda>")], fun p hp => ?_, fun p hp => ?_, fun p hp => ?_, fun s u => hbA s [u] rfl, fun H a ns h1 h2 h3 h4 => ?_, fun base hB hN hTB => ?_⟩
  · rw [List.mem_singleton.mp hp]
    exact c.empty _ mem
  · rw [List.mem_singleton.mp hp]
    exact c.out _ mem
  · rw [List.mem_singleton.mp hp]
    exact PySem.W.codeHd_of_K KX (c.hd _ mem)
  · refine ⟨a, ns, rfl, h4, h1, h2, fun p hp => ?_, fun _ => rfl⟩
    rw [List.mem_singleton.mp hp]
    exact LamX.TabS.nil (h3 _ (List.mem_singleton.mpr rfl))
  · refine lawF_ok lk hcd S fun A outer s H E ns hr h1 h2 => hbody base hB hN _ (.ref cc) A outer s H E ns (by simp) ⟨cc, (He.cT K ("law", none)).2, ?_, rfl, List.mem_singleton.mpr rfl, fun p hp _ => by rw [List.mem_singleton.mp hp]; rfl⟩ hr h1 h2
    have tb := hTB _ (List.mem_singleton.mpr rfl)
    rw [show (He.cT K ("law", none)).1 = cc from ec] at tb
    exact tb
end FP

namespace FP
open PySem PySem.Spec PyProof.Rows L2 HotX L2H
section
variable {P : Program} {w : World} {K : PySem.W.Frag} {mg : Str → Option Value} {base : Heap} {k θ : Nat} {x : Str} {C : Addr}
theorem DefOk.fl {fr : List PyData → Rs → Prop} (G : DefOk P w K mg base k x fr) : DefF θ P w K mg base k x fr := by
  obtain ⟨f, fd, ps, F, r⟩ := G.ex
  exact ⟨f, fd, ps, ⟨F.len, fun A outer s H args us vs Q E _ => F.run A outer s H args us vs Q E⟩, r⟩
end
section
variable {X : Cx} {W : WX} {T : List (Addr × Str)} {δ : De} {ω : Om} {e : Expr} {pos p1 : Pos} {R : Out → Prop} {ss : List Stmt} {z C : Addr} {fs : Fo} {f x : Str}
/-- x.f += e, texts -/
theorem sd_fldcatS (i j : Nat) {tpos : Pos} {y v : Str} (Cl : Cls X.K C) (Na : NoAttr X.K C f) (ho : ω.os[j]? = some (z, .ins C fs)) (hl : fs.lookup f = some (.im (.str y))) (he : PD X δ ω e (.str v)) (hlen : y.length + v.length ≤ 100000) (hk : SD X W T ss δ (putO ω j (z, .ins C (putFs f (.im (.str (y ++ v))) fs))) R) (hz : fs.length < 1000) (hd : δ[i]? = some (some (.ad z)) := by rfl) (hN : X.N[i]? = some x := by rfl)
    (hv : Vis X.env.scope x := by first | exact Or.inl rfl | exact Or.inr (Or.inl rfl) | exact Or.inr (Or.inr rfl)) (h1 : (x == ("__debug__" : Str)) = false := by decide) (h2 : (x == ("__classdict__" : Str)) = false := by decide) :
    SD X W T (.AugAssign (.Attribute (.Name x p1) f tpos) .Add e pos :: ss) δ ω R :=
  sd_cons fun σ H D rl t kt => ws (ps_fldaug (pe_var hN hv h1 h2) pe_w in_addS) (by
    obtain ⟨u, e1, e2⟩ := rl.sl i _ hd
    have e2 : u = .ref z := e2
    subst e2
    obtain ⟨dx, vs, g1, g2⟩ := rl.ro.ob z _ (at_mem ho)
    obtain ⟨g, g3, g4⟩ := sfv_get g2 hl
    cases g4
    refine ⟨_, e1, z, C, dx, vs, _, rfl, g1, Cl, Na, g3, he σ H rl _ fun w H1 s1 d1 => ?_⟩
    cases d1
    have rl1 := rl.mono s1
    obtain ⟨dx1, vs1, k1, k2⟩ := rl1.ro.ob z _ (at_mem ho)
    obtain ⟨st, l2⟩ := fld_at (T := T) (f := f) (r := .im (.str (y ++ v))) (v := .str (y ++ v)) rl1 ho k1 k2 (Dp.str (y ++ v))
    exact ⟨y, v, rfl, rfl, Nat.le_trans hlen (by rw [sizeLine_eq]; decide), dx1, vs1, k1, by rw [paired_len k2]; exact hz, kt.nx δ _ σ _ hk ((Stp.of s1).trans st) l2⟩)
theorem PD.yxf {θ : Nat} {d : PyData} {Z : Rg → Om → Prop} (h : PD X δ ω e d) (q : Z (.ok (.im d)) ω) : YXF θ X W T δ ω e Z := fun σ H rl t Q k _ pins s _ I => pe_w.run pins s σ H Q I (h σ H rl Q fun v H1 s1 d1 => k (.im d) ω v H1 q (.of s1) (rl.mono s1) d1)
theorem YXF.perm {θ : Nat} {ps : List Addr} {os os' : Os} {Z : Rg → Om → Prop} (hp : os.Perm os') (h : YXF θ X W T δ ⟨ps, os'⟩ e Z) : YXF θ X W T δ ⟨ps, os⟩ e Z := fun σ H rl t Q q q2 => h σ H (rl.permO hp) t Q (fun r ω' v H' z s l dv => q r ω' v H' z (stp_permL hp s) l dv) fun U ω' H' z s l => q2 U ω' H' z (stp_permL hp s) l
theorem YXF.permB {θ : Nat} {Z Z' : Rg → Om → Prop} (h : YXF θ X W T δ ω e Z') (q : ∀ r ω', Z' r ω' → ∃ ps os os', ω' = ⟨ps, os⟩ ∧ os.Perm os' ∧ Z r ⟨ps, os'⟩) : YXF θ X W T δ ω e Z := fun σ H rl t Q k1 k2 => h σ H rl t Q (fun r ω' v H' z s l dv => by
    obtain ⟨ps, os, os', rfl, hp, z⟩ := q _ _ z
    exact k1 r _ v H' z (stp_permR hp s) (l.permO hp) (by rw [← hid_perm hp]; exact dv)) fun U ω' H' z s l => by
    obtain ⟨ps, os, os', rfl, hp, z⟩ := q _ _ z
    exact k2 U _ H' z (stp_permR hp s) (l.permO hp)
/-- what stands second is handed over -/
theorem yxF_sec {θ : Nat} {A B g : Os} {Z : Rg → Om → Prop} (h : YXF θ X W T δ ⟨[], B ++ (A ++ g)⟩ e (fun r ω' => ∃ B', ω' = ⟨[], B' ++ (A ++ g)⟩ ∧ Z r ⟨[], A ++ (B' ++ g)⟩)) : YXF θ X W T δ ⟨[], A ++ (B ++ g)⟩ e Z :=
  (YXF.perm (List.perm_append_comm_assoc A B g) h).permB fun r ω' z => by
    obtain ⟨B', rfl, z⟩ := z
    exact ⟨[], _, _, rfl, List.perm_append_comm_assoc B' A g, z⟩
theorem YXF.any {θ : Nat} {Z : PyData → Om → Prop} (h : YXF θ X (fun _ _ _ _ => False) T δ ω e (fun r ω1 => ∃ d, r = .ok (.im d) ∧ Z d ω1)) : YXF θ X W T δ ω e (fun r ω1 => ∃ d, r = .ok (.im d) ∧ Z d ω1) := fun σ H rl t Q q _ => h σ H rl t Q q fun U ω' H' z _ _ => by
  obtain ⟨_, z, _⟩ := z
  cases z
end
end FP

namespace K72
open PySem PySem.Spec PyProof.Rows L2 FP
structure Bl (mg : Str → Option Value) : Prop where
  len : mg "len" = none
  range : mg "range" = none
  isi : mg "isinstance" = none
  int : mg "int" = none
  bool : mg "bool" = none
  str : mg "str" = none
  tuple : mg "tuple" = none
  all : mg "all" = none
  ord : mg "ord" = none
  min : mg "min" = none
  max : mg "max" = none
def isWhole : PyData → Bool
  | .int _ => true
  | _ => false
def isWithin (d : PyData) (lo hi : Int) : Bool := match d with
  | .int i => decide (lo ≤ i) && decide (i ≤ hi)
  | _ => false
def isTupleOf (d : PyData) (n : Int) : Bool := match d with
  | .tuple ds => decide ((ds.length : Int) = n)
  | _ => false
def okSign (c : Nat) : Bool := (decide (32 ≤ c) && decide (c ≤ 126)) && !decide (c = 37)
def areSigns (d : PyData) : Bool := match d with
  | .str z => z.cps.toList.all okSign
  | _ => false
def isI : PyData → Bool
  | .int _ => true
  | .bool _ => true
  | _ => false
def isB : PyData → Bool
  | .bool _ => true
  | _ => false
def isS : PyData → Bool
  | .str _ => true
  | _ => false
def isT : PyData → Bool
  | .tuple _ => true
  | _ => false
theorem k_int : ∀ d : PyData, kitB (kindD d) "int" = some (isI d)
  | .none => (by decide +kernel : kitB "NoneType" "int" = some false)
  | .bool _ => (by decide +kernel : kitB "bool" "int" = some true)
  | .int _ => (by decide +kernel : kitB "int" "int" = some true)
  | .str _ => (by decide +kernel : kitB "str" "int" = some false)
  | .list _ => (by decide +kernel : kitB "list" "int" = some false)
  | .tuple _ => (by decide +kernel : kitB "tuple" "int" = some false)
  | .dict _ => (by decide +kernel : kitB "dict" "int" = some false)
theorem k_bool : ∀ d : PyData, kitB (kindD d) "bool" = some (isB d)
  | .none => (by decide +kernel : kitB "NoneType" "bool" = some false)
  | .bool _ => (by decide +kernel : kitB "bool" "bool" = some true)
  | .int _ => (by decide +kernel : kitB "int" "bool" = some false)
  | .str _ => (by decide +kernel : kitB "str" "bool" = some false)
  | .list _ => (by decide +kernel : kitB "list" "bool" = some false)
  | .tuple _ => (by decide +kernel : kitB "tuple" "bool" = some false)
  | .dict _ => (by decide +kernel : kitB "dict" "bool" = some false)
theorem k_str : ∀ d : PyData, kitB (kindD d) "str" = some (isS d)
  | .none => (by decide +kernel : kitB "NoneType" "str" = some false)
  | .bool _ => (by decide +kernel : kitB "bool" "str" = some false)
  | .int _ => (by decide +kernel : kitB "int" "str" = some false)
  | .str _ => (by decide +kernel : kitB "str" "str" = some true)
  | .list _ => (by decide +kernel : kitB "list" "str" = some false)
  | .tuple _ => (by decide +kernel : kitB "tuple" "str" = some false)
  | .dict _ => (by decide +kernel : kitB "dict" "str" = some false)
theorem k_tuple : ∀ d : PyData, kitB (kindD d) "tuple" = some (isT d)
  | .none => (by decide +kernel : kitB "NoneType" "tuple" = some false)
  | .bool _ => (by decide +kernel : kitB "bool" "tuple" = some false)
  | .int _ => (by decide +kernel : kitB "int" "tuple" = some false)
  | .str _ => (by decide +kernel : kitB "str" "tuple" = some false)
  | .list _ => (by decide +kernel : kitB "list" "tuple" = some false)
  | .tuple _ => (by decide +kernel : kitB "tuple" "tuple" = some true)
  | .dict _ => (by decide +kernel : kitB "dict" "tuple" = some false)
theorem bb_int : bootBuiltins "int" = some (.type "int") := by decide +kernel
theorem bb_bool : bootBuiltins "bool" = some (.type "bool") := by decide +kernel
theorem bb_str : bootBuiltins "str" = some (.type "str") := by decide +kernel
theorem bb_tuple : bootBuiltins "tuple" = some (.type "tuple") := by decide +kernel
section
variable {P : Program} {w : World} {K : PySem.W.Frag} {mg : Str → Option Value} {base : Heap} {f : Addr} {fd : FuncData}
abbrev Df (K : PySem.W.Frag) (x : Str) (st : Stmt) (f : Addr) (fd : FuncData) : Prop := FunD K x x (defArgs st) (defBody st) (defScope st) [] [] f fd
def frWhole : List PyData → Rs → Prop := fun ds r => ∃ d, ds = [d] ∧ r = .ok (.bool (isWhole d))
theorem sc_whole : FnScope ["value"] ["value"] (defScope s_is_whole) := ⟨rfl, rfl, rfl, by decide +kernel, rfl, by decide +kernel, by decide +kernel⟩
theorem ok_whole (F : Df K "is_whole" s_is_whole f fd) (hm : mg "is_whole" = some (.ref f)) (B : Bl mg) : DefOk P w K mg base 1 "is_whole" frWhole := by
  refine def_ok F hm sc_whole (fun _ _ _ _ _ _ us hl => match us, hl with | [_], _ => rfl) (fun ds r h => by obtain ⟨d, rfl, _⟩ := h; rfl) (fun cdv A outer s H E qs ds r hr h => ?_)
  obtain ⟨d, rfl, rfl⟩ := h
  refine sd_ret (pd_and (pd_isi B.isi B.int bb_int (pd_var 0) (k_int d)) (fun _ => pd_one (pd_not (pd_isi B.isi B.bool bb_bool (pd_var 0) (k_bool d))))) ?_
  cases d <;> rfl
def frWithin : List PyData → Rs → Prop := fun ds r => ∃ d lo hi, ds = [d, .int lo, .int hi] ∧ r = .ok (.bool (isWithin d lo hi))
theorem sc_within : FnScope ["value", "least", "most"] ["value", "least", "most"] (defScope s_is_within) := ⟨rfl, rfl, rfl, by decide +kernel, rfl, by decide +kernel, by decide +kernel⟩
theorem ok_within (F : Df K "is_within" s_is_within f fd) (hm : mg "is_within" = some (.ref f)) (G1 : DefOk P w K mg base 1 "is_whole" frWhole) : DefOk P w K mg base 2 "is_within" frWithin := by
  refine def_ok F hm sc_within (fun _ _ _ _ _ _ us hl => match us, hl with | [_, _, _], _ => rfl) (fun ds r h => by obtain ⟨d, lo, hi, rfl, _⟩ := h; rfl) (fun cdv A outer s H E qs ds r hr h => ?_)
  obtain ⟨d, lo, hi, rfl, rfl⟩ := h
  cases hd : isWhole d with
  | false =>
    refine sd_ret (pd_andF (pd_call G1 hr (pds_cons (pd_var 0) pds_nil) ⟨d, rfl, by rw [hd]⟩)) ?_
    cases d <;> first | exact rfl | cases hd
  | true =>
    obtain ⟨i, rfl⟩ : ∃ i, d = .int i := by
      cases d <;> first | exact ⟨_, rfl⟩ | cases hd
    refine sd_ret (pd_and (pd_call G1 hr (pds_cons (pd_var 0) pds_nil) ⟨_, rfl, rfl⟩) (fun _ => pd_one (pd_chain op_le op_le rd_B0 (fun _ => rd_B0) (pd_var 1) (pd_var 0) (fun _ => pd_var 2)))) ?_
    exact rfl
def frTupleOf : List PyData → Rs → Prop := fun ds r => ∃ d n, ds = [d, .int n] ∧ r = .ok (.bool (isTupleOf d n))
theorem sc_tupleof : FnScope ["value", "many"] ["value", "many"] (defScope s_is_tuple_of) := ⟨rfl, rfl, rfl, by decide +kernel, rfl, by decide +kernel, by decide +kernel⟩
theorem ok_tupleof (F : Df K "is_tuple_of" s_is_tuple_of f fd) (hm : mg "is_tuple_of" = some (.ref f)) (B : Bl mg) : DefOk P w K mg base 1 "is_tuple_of" frTupleOf := by
  refine def_ok F hm sc_tupleof (fun _ _ _ _ _ _ us hl => match us, hl with | [_, _], _ => rfl) (fun ds r h => by obtain ⟨d, n, rfl, _⟩ := h; rfl) (fun cdv A outer s H E qs ds r hr h => ?_)
  obtain ⟨d, n, rfl, rfl⟩ := h
  by_cases hd : ∃ ds, d = .tuple ds
  · obtain ⟨ds, rfl⟩ := hd
    refine sd_ret (pd_and (pd_isi B.isi B.tuple bb_tuple (pd_var 0) (k_tuple _)) (fun _ => pd_one (pd_eqI (pd_lenT B.len (pd_var 0)) (pd_var 1)))) ?_
    exact rfl
  · have hk : kitB (kindD d) "tuple" = some false := by
      rw [k_tuple]
      cases d <;> first | rfl | exact absurd ⟨_, rfl⟩ hd
    refine sd_ret (pd_andF (pd_isi B.isi B.tuple bb_tuple (pd_var 0) hk)) ?_
    cases d <;> first | exact rfl | exact absurd ⟨_, rfl⟩ hd
def frSigns : List PyData → Rs → Prop := fun ds r => ∃ d, ds = [d] ∧ r = .ok (.bool (areSigns d)) ∧ ∀ z, d = .str z → z.length ≤ 1000
theorem sc_signs : FnScope ["value", "sign"] ["value"] (defScope s_are_signs) := ⟨rfl, rfl, rfl, by decide +kernel, rfl, by decide +kernel, by decide +kernel⟩
theorem rd_leS {K : PySem.W.Frag} {y z : Str} : RD K (fun x y H Q => ∃ i j, x = .str i ∧ y = .str j ∧ Q (.bl (!decide (j.cps.toList < i.cps.toList))) H) (.str y) (.str z) (.bool (!decide (z.cps.toList < y.cps.toList))) := fun ps x w H t hx hy Q q => by
  cases hx
  cases hy
  exact ⟨y, z, rfl, rfl, q _ H (Same.refl H) (.bl _)⟩
theorem le_one (a b : Nat) : (!decide (([b] : List Nat) < [a])) = decide (a ≤ b) := by
  by_cases h : a ≤ b
  · rw [decide_eq_true h, decide_eq_false]
    · rfl
    · intro z
      simp only [List.cons_lt_cons_iff] at z
      rcases z with z | ⟨_, z⟩
      · omega
      · exact absurd z (by simp)
  · rw [decide_eq_false h, decide_eq_true]
    · rfl
    · simp only [List.cons_lt_cons_iff]
      left
      omega
theorem ok_signs (F : Df K "are_signs" s_are_signs f fd) (hm : mg "are_signs" = some (.ref f)) (B : Bl mg) (hp : GlD K mg "PERCENT" (.int 37)) : DefOk P w K mg base 1 "are_signs" frSigns := by
  refine def_ok F hm sc_signs (fun _ _ _ _ _ _ us hl => match us, hl with | [_], _ => rfl) (fun ds r h => by obtain ⟨d, rfl, _⟩ := h; rfl) (fun cdv A outer s H E qs ds r hr h => ?_)
  obtain ⟨d, rfl, rfl, hz⟩ := h
  by_cases hd : ∃ z, d = .str z
  · obtain ⟨z, rfl⟩ := hd
    refine sd_ifF (pt_notd (k := true) (pt_bool (pd_isi B.isi B.str bb_str (pd_var 0) (k_str _)))) ?_
    have hl : (signsD z).length = z.length := by
      unfold signsD
      rw [List.length_map, Array.length_toList]
      rfl
    refine sd_ret (d := .bool ((z.cps.toList.map okSign).all id)) (pd_all rfl B.all (PN.pl (pn_lc (y := "sign") (j := 1) (items := signsD z) rfl sc_signs.nd (PWk.ws (wk_str (pd_var 0))) ?_ (blkOk_by (N := ["value", "sign"]) (sc := defScope s_are_signs) (by decide +kernel)) (fun _ _ _ _ _ => pg_name sc_signs.nd rfl (Or.inl rfl)) ?_ (by rw [hl]; exact Nat.le_trans (hz z rfl) (by decide))))) ?_
    · unfold signsD
      rw [List.length_map, List.length_map, List.length_map]
    · intro i d y hd hy D o s H C cl fp
      unfold signsD at hd
      rw [List.getElem?_map] at hd
      rw [List.getElem?_map, List.getElem?_map] at hy
      cases hc : z.cps.toList[i]? with
      | none =>
        rw [hc] at hd
        cases hd
      | some c =>
        rw [hc] at hd hy
        cases hd
        cases hy
        refine PD.eq (pd_and (pd_chain op_le_str op_le_str rd_leS (fun _ => rd_leS) pd_str (pd_var 1) (fun _ => pd_str)) (fun _ => pd_one (pd_neI (pd_ord B.ord (pd_var 1) rfl rfl) (pd_glob hp)))) ?_
        show PyData.bool ((!decide (([c] : List Nat) < [32]) && !decide (([126] : List Nat) < [c])) && !decide (((c : Nat) : Int) = 37)) = PyData.bool (okSign c)
        rw [le_one, le_one]
        unfold okSign
        have e : decide (((c : Nat) : Int) = 37) = decide (c = 37) := by
          by_cases h : c = 37
          · rw [decide_eq_true h, decide_eq_true (by omega)]
          · rw [decide_eq_false h, decide_eq_false (by omega)]
        rw [e]
    · show Rs.ok (.bool (z.cps.toList.all okSign)) = Rs.ok (.bool _)
      rw [List.all_map]
      rfl
  · have hk : kitB (kindD d) "str" = some false := by
      rw [k_str]
      cases d <;> first | rfl | exact absurd ⟨_, rfl⟩ hd
    refine sd_ifT (pt_notd (k := false) (pt_bool (pd_isi B.isi B.str bb_str (pd_var 0) hk))) (sd_ret pd_bl ?_)
    cases d <;> first | exact rfl | exact absurd ⟨_, rfl⟩ hd
end
end K72

namespace K72
open PySem PySem.Spec PyProof.Rows L2 FP L2H
section
variable {P : Program} {w : World} {K : PySem.W.Frag} {mg : Str → Option Value} {base : Heap} {f C : Addr} {fd : FuncData}
theorem word_mono {k j : Nat} {wd : Str} {fw : Addr → PyData → Prop} (h : LC.Word2 P w K mg base k wd fw) (hk : k ≤ j) : LC.Word2 P w K mg base j wd fw := by
  obtain ⟨g, a, b, r⟩ := h.ex
  exact ⟨g, a, b, fun A outer s H q l C d ps Q z1 z2 => r A outer s H q l C d ps Q z1 (z2.mono hk)⟩
def refused (E : Str) : PyData := .tuple [.str "refused", .str E]
abbrev NW : List Str := ["_law_e", "_law_flags", "_law_names", "_law_flag"]
theorem sc_word : FnScope NW ["_law_e"] (defScope s__law_word) := ⟨rfl, rfl, rfl, by decide +kernel, rfl, by decide +kernel, by decide +kernel⟩
def fwA (K : PySem.W.Frag) : Addr → PyData → Prop := fun D d => (D = He.ga K "BadPacket" ∧ d = refused "BadPacket")
abbrev askedBadPacket : List (Str × Bool) := [("BadChange", false), ("BadDeed", false), ("BadFace", false), ("BadFilm", false), ("BadLayout", false), ("BadName", false), ("BadPacket", true), ("BadTalk", false), ("Nothing", false)]
structure Wd (K : PySem.W.Frag) (D : Addr) (asked : List (Str × Bool)) : Prop where
  EC : ExcC K D
  ka : ∀ c ∈ asked, PySem.W.kitOne K (.ref D) (.ref (He.ga K c.1)) = some c.2
  kv : PySem.W.kitOne K (.ref D) (.type "ValueError") = some true
theorem ok_word (F : Df K "_law_word" s__law_word f fd) (hm : mg "_law_word" = some (.ref f)) (mi : mg "isinstance" = none) (mn : mg "int" = none) (ms : mg "sum" = none) (mv : mg "ValueError" = none) (gl : ∀ c ∈ (["BadChange", "BadDeed", "BadFace", "BadFilm", "BadLayout", "BadName", "BadPacket", "BadTalk", "Nothing"] : List Str), mg c = some (.ref (He.ga K c))) (WBadPacket : Wd K (He.ga K "BadPacket") askedBadPacket) : LC.Word2 P w K mg base 1 "_law_word" (fwA K) := by
  refine LC.word_ok (N := NW) (n := 3) F hm sc_word rfl (fun _ _ _ _ _ _ us hl => match us, hl with | [_], _ => rfl) (fun cdv A outer s H q l D d ps hf hot c1 c2 hr => ?_)
  have HC : LC.HotG (LC.cx2 C8.CX0 P w K mg base NW "_law_word" (defScope s__law_word) f cdv A outer s H C8.E0 q l) := ⟨q, l, hot, fun _ m => m⟩
  obtain ⟨rfl, rfl⟩ := hf
  · have Z : Pin (LC.cx2 C8.CX0 P w K mg base NW "_law_word" (defScope s__law_word) f cdv A outer s H C8.E0 q l) q (He.ga K "BadPacket") := ⟨List.mem_cons_self, WBadPacket.EC, c1, c2, let ⟨_, vs, h, _⟩ := hot; ⟨vs, h⟩⟩
    have is : ∀ {δ : De} {ω : Om} {p0 p1 p2 pos : Pos} (c : Str × Bool) (hc : c ∈ askedBadPacket) (hc2 : c.1 ∈ (["BadChange", "BadDeed", "BadFace", "BadFilm", "BadLayout", "BadName", "BadPacket", "BadTalk", "Nothing"] : List Str)) (hd : δ[0]? = some (some (.ad q.1))) (hg : Gl (LC.cx2 C8.CX0 P w K mg base NW "_law_word" (defScope s__law_word) f cdv A outer s H C8.E0 q l) c.1) (hdb : (c.1 == ("__debug__" : Str)) = false),
        PD (LC.cx2 C8.CX0 P w K mg base NW "_law_word" (defScope s__law_word) f cdv A outer s H C8.E0 q l) δ ω (.Call (.Name "isinstance" p0) [.Name "_law_e" p1, .Name c.1 p2] [] pos) (.bool c.2) :=
      fun {δ ω p0 p1 p2 pos} c hc hc2 hd hg hdb => pd_isP 0 (y := "_law_e") Z (pe_glob (v := .ref (He.ga K c.1)) hg (gl c.1 hc2) rfl hdb) (fun v r => r) (WBadPacket.ka c hc) mi hd
    refine sd_set 1 (PN.pd (pn_lst (pds_cons (is ("BadChange", false) (by simp) (by simp) rfl rfl rfl) (pds_cons (is ("BadDeed", false) (by simp) (by simp) rfl rfl rfl) (pds_cons (is ("BadFace", false) (by simp) (by simp) rfl rfl rfl) (pds_cons (is ("BadFilm", false) (by simp) (by simp) rfl rfl rfl) pds_nil)))))) ?_ sc_word.nd
    refine sd_set 1 (PN.pd (pn_catL (PD.pl (pd_var 1)) (PN.pl (pn_lst (pds_cons (is ("BadLayout", false) (by simp) (by simp) rfl rfl rfl) (pds_cons (is ("BadName", false) (by simp) (by simp) rfl rfl rfl) (pds_cons (is ("BadPacket", true) (by simp) (by simp) rfl rfl rfl) (pds_cons (is ("BadTalk", false) (by simp) (by simp) rfl rfl rfl) pds_nil)))))) (by decide))) ?_ sc_word.nd
    refine sd_set 1 (PN.pd (pn_catL (PD.pl (pd_var 1)) (PN.pl (pn_lst (pds_cons (is ("Nothing", false) (by simp) (by simp) rfl rfl rfl) pds_nil))) (by decide))) ?_ sc_word.nd
    refine sd_if (PWd.pt (pw_ord (pt_cmpd op_ne rd_neI (LC.pd_sum2 (bs := [false, false, false, false, false, false, true, false, false]) (j := 3) HC sc_word.nd (PD.pl (pd_var 1)) (by decide) (blkOk_by (N := NW) (sc := defScope s__law_word) (by decide +kernel)) (fun _ _ _ _ _ => pg_name sc_word.nd rfl (Or.inl rfl)) (fun b s H C cl fp => pd_intB mn (pd_var 3)) ms) pd_int (nomark _))
      (fun _ => pw_or1d (pt_notd (pt_bool (pd_isP 0 (y := "_law_e") (cv := .ty "ValueError") (u := .type "ValueError") Z (pe_bltn rfl mv (by decide +kernel) rfl) (fun v r => r) WBadPacket.kv mi)))))) (fun hk => ?_) (fun _ => sd_nil ?_)
    · exact absurd hk (by decide)
    · refine sd_set 2 (PN.pd (pn_lst (pds_cons pd_str (pds_cons pd_str (pds_cons pd_str (pds_cons pd_str (pds_cons pd_str (pds_cons pd_str (pds_cons pd_str (pds_cons pd_str (pds_cons pd_str pds_nil))))))))))) ?_ sc_word.nd
      refine sd_ret (pd_tup (pds_cons pd_str (pds_cons (pd_ixL (PD.pl (pd_var 2)) (pd_idxT (bs := [false, false, false, false, false, false, true, false, false]) (j := 6) (PD.pl (pd_var 1)) rfl (fun i hi => ?_)) (atI_nat (j := 6) rfl)) pds_nil))) rfl
      match i, hi with
      | 0, _ => rfl
      | 1, _ => rfl
      | 2, _ => rfl
      | 3, _ => rfl
      | 4, _ => rfl
      | 5, _ => rfl
end
end K72

namespace K72
open PySem PySem.Spec PyProof.Rows L2 FP
def txt (l : List Nat) : Str := ⟨l.toArray⟩
theorem txt_len (l : List Nat) : (txt l).length = l.length := by
  show l.toArray.size = _
  rw [List.size_toArray]
theorem txt_of (z : Str) : txt z.cps.toList = z := by
  obtain ⟨z⟩ := z
  rfl
theorem str_of {x y : Str} (h : x.cps.toList = y.cps.toList) : x = y := by
  rw [← txt_of x, ← txt_of y, h]
theorem cps_app (x y : Str) : (x ++ y).cps.toList = x.cps.toList ++ y.cps.toList := by
  show (x.cps ++ y.cps).toList = _
  rw [Array.toList_append]
theorem txt_app (a b : List Nat) : txt a ++ txt b = txt (a ++ b) := str_of (by rw [cps_app]; rfl)
def noEnd (l : List Nat) : List Nat := l.filter fun c => !decide (c = 10)
theorem noEnd_free {l : List Nat} (h : 10 ∉ l) : noEnd l = l := List.filter_eq_self.mpr fun c hc => by
  have : ¬ c = 10 := fun e => h (by rw [← e]; exact hc)
  simp [this]
theorem noEnd_app (a b : List Nat) : noEnd (a ++ b) = noEnd a ++ noEnd b := List.filter_append ..
theorem join_none : ∀ {ws : List Str}, (∀ w ∈ ws, 10 ∉ w.cps.toList) → (Str.join ⟨#[]⟩ ws).cps.toList = noEnd (Str.join ⟨#[10]⟩ ws).cps.toList
  | [], _ => rfl
  | [x], h => (noEnd_free (h x List.mem_cons_self)).symm
  | x :: y :: r, h => by
    have ih := join_none (ws := y :: r) fun w hw => h w (List.mem_cons_of_mem _ hw)
    show (x ++ ⟨#[]⟩ ++ Str.join ⟨#[]⟩ (y :: r)).cps.toList = noEnd (x ++ ⟨#[10]⟩ ++ Str.join ⟨#[10]⟩ (y :: r)).cps.toList
    rw [cps_app, cps_app, cps_app, cps_app, noEnd_app, noEnd_app, ih, noEnd_free (h x List.mem_cons_self)]
    rfl
theorem repl_none (z : Str) : Txt.replace z "\n" "" = txt (noEnd z.cps.toList) := by
  rw [show ("\n" : Str) = ⟨#[10]⟩ by decide +kernel, show ("" : Str) = ⟨#[]⟩ by decide +kernel, StrLaws.replace_one]
  refine str_of ?_
  rw [join_none fun w hw => StrLaws.split_free z 10 w hw, StrLaws.join_split]
  rfl
def areKeys : PyData → Bool
  | .str z => (noEnd z.cps.toList).all okSign
  | _ => false
theorem noEnd_len (l : List Nat) : (noEnd l).length ≤ l.length := List.length_filter_le ..
section
variable {P : Program} {w : World} {K : PySem.W.Frag} {mg : Str → Option Value} {base : Heap} {f C CP : Addr} {fd : FuncData} {θ : Nat}
def frKeys : List PyData → Rs → Prop := fun ds r => ∃ d, ds = [d] ∧ r = .ok (.bool (areKeys d)) ∧ ∀ z, d = .str z → z.length ≤ 1000
theorem sc_keys : FnScope ["value"] ["value"] (defScope s_are_keys) := ⟨rfl, rfl, rfl, by decide +kernel, rfl, by decide +kernel, by decide +kernel⟩
theorem ok_keys (F : Df K "are_keys" s_are_keys f fd) (hm : mg "are_keys" = some (.ref f)) (B : Bl mg) (GT : GlT mg "LINE_END" "\n" θ) (GS : DefOk P w K mg base 1 "are_signs" frSigns) : DefF θ P w K mg base 2 "are_keys" frKeys := by
  refine defF_ok F hm sc_keys (fun _ _ _ _ _ _ us hl => match us, hl with | [_], _ => rfl) (fun ds r h => by obtain ⟨d, rfl, _⟩ := h; rfl) (fun cdv A outer s H E qs ds r hr h => ?_)
  obtain ⟨d, rfl, rfl, hz⟩ := h
  by_cases hd : ∃ z, d = .str z
  · obtain ⟨z, rfl⟩ := hd
    have zl := hz z rfl
    have zc : z.cps.toList.length = z.length := by rw [Array.length_toList]; rfl
    refine sdF_retX (yxF_and (k := true) (pd_isi B.isi B.str bb_str (pd_var 0) (k_str _)) (fun _ => yxF_call1 (GS.fl (θ := θ)) hr (L2N.takes_of rfl rfl rfl rfl) (yxF_repl GT (pd_var 0) (by show z.length + (z.length + 1) * 0 ≤ 16777216; omega) ?_)) (fun e => by cases e))
    rw [repl_none]
    refine ⟨_, .ok (.bool (areKeys (.str z))), rfl, ⟨_, rfl, rfl, fun z' e => ?_⟩, rfl⟩
    cases e
    rw [txt_len]
    exact Nat.le_trans (noEnd_len _) (by omega)
  · have hk : kitB (kindD d) "str" = some false := by
      rw [k_str]
      cases d <;> first | rfl | exact absurd ⟨_, rfl⟩ hd
    refine sdF_retX (yxF_and (k := false) (pd_isi B.isi B.str bb_str (pd_var 0) hk) (fun e => by cases e) (fun _ => ?_))
    cases d <;> first | exact rfl | exact absurd ⟨_, rfl⟩ hd
end
end K72

namespace K72
open PySem PySem.Spec PyProof.Rows L2 FP
abbrev Dm (K : PySem.W.Frag) (m q : Str) (st : Stmt) (f : Addr) (fd : FuncData) : Prop := FunD K m q (defArgs st) (defBody st) (defScope st) [] [] f fd
def lenOk : PyData → Bool
  | .str z => decide (1 ≤ z.length) && decide (z.length ≤ 10)
  | _ => false
def natB : PyData → Bool
  | .int i => !decide (i < 0)
  | _ => false
def isPk : PyData → Bool
  | .tuple [a, k] => natB a && (areKeys k && lenOk k)
  | _ => false
theorem two_ex {x : PyData} (h : isTupleOf x 2 = true) : ∃ a b, x = .tuple [a, b] := by
  cases x with
  | tuple ds =>
    have e : (ds.length : Int) = 2 := of_decide_eq_true h
    match ds, e with
    | [a, b], _ => exact ⟨a, b, rfl⟩
    | [], e => simp at e
    | [_], e => simp at e
    | _ :: _ :: _ :: _, e => simp at e; omega
  | _ => cases h
theorem pk_no {d : PyData} (h : isTupleOf d 2 = false) : isPk d = false := by
  unfold isPk
  split
  · cases h
  · rfl
section
variable {P : Program} {w : World} {K : PySem.W.Frag} {mg : Str → Option Value} {base : Heap} {f C CP : Addr} {fd : FuncData} {θ : Nat}
def frNk (CP : Addr) : List PyData → Rs → Prop := fun ds r => ∃ d, ds = [d] ∧ (∀ a z, d = .tuple [a, .str z] → z.length ≤ 1000) ∧ r = if isPk d then .ok .none else .er CP
abbrev NNk : List Str := ["packet", "start", "keys"]
theorem sc_nk : FnScope NNk ["packet"] (defScope s_need_keys_packet) := ⟨rfl, rfl, rfl, by decide +kernel, rfl, by decide +kernel, by decide +kernel⟩
theorem ok_nk (F : Df K "need_keys_packet" s_need_keys_packet f fd) (hm : mg "need_keys_packet" = some (.ref f)) (B : Bl mg) (X1 : ExcF K mg "BadPacket" CP) (g : GlD K mg "MOST_KEYS_SENT" (.int 10)) (G1 : DefOk P w K mg base 1 "is_tuple_of" frTupleOf) (G2 : DefOk P w K mg base 1 "is_whole" frWhole) (G3 : DefF θ P w K mg base 2 "are_keys" frKeys) : DefF θ P w K mg base 3 "need_keys_packet" (frNk CP) := by
  refine defF_ok F hm sc_nk (fun _ _ _ _ _ _ us hl => match us, hl with | [_], _ => rfl) (fun ds r h => by obtain ⟨d, rfl, _⟩ := h; rfl) (fun cdv A outer s H E qs ds r hr h => ?_)
  obtain ⟨d, rfl, hz, rfl⟩ := h
  have hr1 : Room 1 (A.deeper (envOfC "need_keys_packet" (defScope s_need_keys_packet) s.heap.objs.size f cdv)) := hr.mono (by decide)
  have tk : L2N.Takes (cxOf (L2N.CX P w) P w K mg base NNk "need_keys_packet" (defScope s_need_keys_packet) f cdv A outer s H E) (WOf E) := L2N.takes_of rfl rfl rfl rfl
  cases ht : isTupleOf d 2 with
  | false =>
    rw [pk_no ht]
    refine SD.f (sd_ifT (PTd.eq (pt_notd (pt_bool (pd_call G1 hr1 (pds_cons (pd_var 0) (pds_cons pd_int pds_nil)) ⟨_, _, rfl, rfl⟩))) (by rw [ht]; rfl)) ?_)
    exact sd_raise X1 tk rfl rfl
  | true =>
    obtain ⟨a, k, rfl⟩ := two_ex ht
    refine sdF_app (l1 := (defBody s_need_keys_packet).take 2) (l2 := (defBody s_need_keys_packet).drop 2) ?_
    refine sd_ifF (PTd.eq (pt_notd (pt_bool (pd_call G1 hr1 (pds_cons (pd_var 0) (pds_cons pd_int pds_nil)) ⟨_, _, rfl, rfl⟩))) (by rw [ht]; rfl)) ?_
    refine sd_unp [1, 2] (ds := [a, k]) (pd_var 0) (pg_tup rfl (pgs_cons (pg_name sc_nk.nd rfl (Or.inl rfl)) (pgs_cons (pg_name sc_nk.nd rfl (Or.inl rfl)) pgs_nil))) rfl rfl (sd_nil ?_)
    refine (show SDF θ _ (WOf E) [] ((defBody s_need_keys_packet).drop 2) [some (.im (.tuple [a, k])), some (.im a), some (.im k)] ⟨qs, []⟩ _ from ?_)
    have eP : isPk (.tuple [a, k]) = (natB a && (areKeys k && lenOk k)) := rfl
    rw [eP]
    cases hn : natB a with
    | false =>
      refine SD.f ?_
      by_cases hi : ∃ i, a = .int i
      · obtain ⟨i, rfl⟩ := hi
        have neg : i < 0 := by
          have : (!decide (i < 0)) = false := hn
          simpa using this
        refine sd_ifT (PWd.pt (pw_ord (x := false) (pt_notd (k := true) (pt_bool (pd_call G2 hr1 (pds_cons (pd_var 1) pds_nil) ⟨_, rfl, rfl⟩))) (fun _ => pw_or1d (PTd.eq (pt_cmpd op_lt rd_B0 (pd_var 1) pd_int (nomark _)) (decide_eq_true neg))))) ?_
        exact sd_raise X1 tk rfl rfl
      · have hw : isWhole a = false := by cases a <;> first | rfl | exact absurd ⟨_, rfl⟩ hi
        refine sd_ifT (PWd.pt (pw_orT (PTd.eq (pt_notd (pt_bool (pd_call G2 hr1 (pds_cons (pd_var 1) pds_nil) ⟨_, rfl, rfl⟩))) (by rw [hw]; rfl)))) ?_
        exact sd_raise X1 tk rfl rfl
    | true =>
      obtain ⟨i, rfl⟩ : ∃ i, a = .int i := by cases a <;> first | exact ⟨_, rfl⟩ | cases hn
      have pos : ¬ i < 0 := by
        have : (!decide (i < 0)) = true := hn
        simpa using this
      refine sdF_app (l1 := ((defBody s_need_keys_packet).drop 2).take 1) (l2 := (defBody s_need_keys_packet).drop 3) ?_
      refine sd_ifF (PWd.pt (pw_ord (x := false) (pt_notd (k := true) (pt_bool (pd_call G2 hr1 (pds_cons (pd_var 1) pds_nil) ⟨_, rfl, rfl⟩))) (fun _ => pw_or1d (PTd.eq (pt_cmpd op_lt rd_B0 (pd_var 1) pd_int (nomark _)) (decide_eq_false pos))))) (sd_nil ?_)
      refine (show SDF θ _ (WOf E) [] ((defBody s_need_keys_packet).drop 3) [some (.im (.tuple [.int i, k])), some (.im (.int i)), some (.im k)] ⟨qs, []⟩ _ from ?_)
      have hzk : ∀ z, k = .str z → z.length ≤ 1000 := fun z e => hz _ _ (by rw [e])
      refine sdF_if (sb := []) (ZWF.zt (zwF_or (ztF_not (ztF_bool (yxF_call1 G3 (hr.mono (by decide)) takesF (PD.yxf (pd_var 2) ⟨k, .ok (.bool (areKeys k)), rfl, ⟨_, rfl, rfl, hzk⟩, _, rfl, fun ek => ⟨fun _ => ?_, fun z => by cases z⟩, fun ek => ?_⟩))))))
      · have ek : areKeys k = false := by simpa using ek
        rw [ek]
        exact SD.f (sd_raise X1 tk rfl rfl)
      · have ek : areKeys k = true := by simpa using ek
        obtain ⟨z, rfl⟩ : ∃ z, k = .str z := by cases k <;> first | exact ⟨_, rfl⟩ | cases ek
        have zl := hzk z rfl
        rw [ek]
        have el : (decide ((1 : Int) ≤ (z.length : Int)) && decide ((z.length : Int) ≤ 10)) = lenOk (.str z) := by
          show _ = (decide (1 ≤ z.length) && decide (z.length ≤ 10))
          congr 1 <;> exact decide_eq_decide.mpr (by omega)
        refine zwF_or1 (ZT.f (zt_not (PTd.zt (PTd.eq (pt_chaind op_le op_le rd_B0 (fun _ => rd_B0) pd_int (pd_lenS B.len (pd_var 2) (by omega)) (fun _ => pd_glob g)) el) ?_)))
        refine ⟨fun eq => ?_, fun eq => ?_⟩
        · rw [show lenOk (.str z) = false by simpa using eq]
          exact SD.f (sd_raise X1 tk rfl rfl)
        · rw [show lenOk (.str z) = true by simpa using eq]
          exact SD.f (sd_nil (SD.f (sd_nil rfl)))
end
end K72

namespace K72
open PySem PySem.Spec PyProof.Rows L2 FP
structure Ty where
  ts : List Nat
  known : Nat
def yF (y : Ty) : Fs := [("typed", .str (txt y.ts)), ("known", .int (y.known : Int))]
def yO (C : Addr) (y : Ty) (D : Addr) : Os := [(D, .ins C (imF (yF y)))]
theorem yF_no {y : Ty} {m : Str} (h : (["typed", "known"] : List Str).contains m = false) : ((imF (yF y)).map (·.1)).contains m = false := h
theorem y_obj {C : Addr} {y : Ty} {D : Addr} : (D, Od.ins C (imF (yF y))) ∈ yO C y D := List.mem_cons_self
structure TyC (K : PySem.W.Frag) (C : Addr) : Prop where
  cl : Cls K C
  typed : NoAttr K C "typed"
  known : NoAttr K C "known"
def Ty.pkt (y : Ty) : PyData := if y.known = y.ts.length then .none else .tuple [.int (y.known : Int), .str (txt ((y.ts.drop y.known).take 10))]
def bF (n : Nat) : Fs := [("total", .int (n : Int))]
def bO (C : Addr) (n : Nat) (D : Addr) : Os := [(D, .ins C (imF (bF n)))]
theorem bF_no {n : Nat} {m : Str} (h : (["total"] : List Str).contains m = false) : ((imF (bF n)).map (·.1)).contains m = false := h
theorem b_obj {C : Addr} {n : Nat} {D : Addr} : (D, Od.ins C (imF (bF n))) ∈ bO C n D := List.mem_cons_self
structure BoC (K : PySem.W.Frag) (C : Addr) : Prop where
  cl : Cls K C
  total : NoAttr K C "total"
/-- what is new in a packet -/
def newOf (n a : Nat) (l : List Nat) : List Nat := if a ≤ n then l.drop (n - a) else []
theorem areKeys_txt {l : List Nat} : areKeys (.str (txt l)) = (noEnd l).all okSign := rfl
section
variable {P : Program} {w : World} {K : PySem.W.Frag} {mg : Str → Option Value} {base : Heap} {f C CP : Addr} {fd : FuncData} {θ : Nat}
def frYI : Fs → List PyData → Rs → Fs → Prop := fun fs ds r fs' => fs = [] ∧ ds = [] ∧ r = .ok .none ∧ fs' = yF ⟨[], 0⟩
theorem sc_yi : FnScope ["self"] ["self"] (defScope s_Typer___init__) := ⟨rfl, rfl, rfl, by decide +kernel, rfl, by decide +kernel, by decide +kernel⟩
theorem emp_is : ("" : Str) = txt [] := by decide +kernel
theorem ok_yi (F : Dm K "__init__" "Typer.__init__" s_Typer___init__ f fd) (hm : Meth K C "__init__" f) (YC : TyC K C) : WrOk P w K mg base 1 C "__init__" frYI := by
  refine wr_ok F hm sc_yi (fun _ _ _ _ _ _ us hl => match us, hl with | [_], _ => rfl) (fun fs ds s fs' h => by obtain ⟨_, rfl, _⟩ := h; rfl) (fun cdv A outer s H E qs a fs ds s0 fs' hr h => ?_)
  obtain ⟨rfl, rfl, rfl, rfl⟩ := h
  refine sd_fld (ω := ⟨qs, []⟩) 0 YC.cl YC.typed pd_str ?_ (show (0 : Nat) < 1000 by decide)
  refine sd_fld (ω := ⟨qs, []⟩) 0 YC.cl YC.known pd_int (sd_nil ⟨rfl, ?_⟩) (show (1 : Nat) < 1000 by decide)
  have e : putD "known" (.int 0) (putD "typed" (.str "") []) = yF ⟨[], 0⟩ := by
    rw [emp_is]
    rfl
  rw [e]
  exact List.mem_cons_self
def frBI : Fs → List PyData → Rs → Fs → Prop := fun fs ds r fs' => fs = [] ∧ ds = [] ∧ r = .ok .none ∧ fs' = bF 0
theorem sc_bi : FnScope ["self"] ["self"] (defScope s_Board___init__) := ⟨rfl, rfl, rfl, by decide +kernel, rfl, by decide +kernel, by decide +kernel⟩
theorem ok_bi (F : Dm K "__init__" "Board.__init__" s_Board___init__ f fd) (hm : Meth K C "__init__" f) (BC : BoC K C) : WrOk P w K mg base 1 C "__init__" frBI := by
  refine wr_ok F hm sc_bi (fun _ _ _ _ _ _ us hl => match us, hl with | [_], _ => rfl) (fun fs ds s fs' h => by obtain ⟨_, rfl, _⟩ := h; rfl) (fun cdv A outer s H E qs a fs ds s0 fs' hr h => ?_)
  obtain ⟨rfl, rfl, rfl, rfl⟩ := h
  refine sd_fld (ω := ⟨qs, []⟩) 0 BC.cl BC.total pd_int (sd_nil ⟨rfl, ?_⟩) (show (0 : Nat) < 1000 by decide)
  exact List.mem_cons_self
def frPress (C CP : Addr) : FrG := fun os as R => ∃ (y : Ty) (D : Addr) (d : PyData), os = yO C y D ∧ as = [.ad D, .im d] ∧ (∀ z, d = .str z → z.length ≤ 1000) ∧
  ((∃ l : List Nat, d = .str (txt l) ∧ areKeys d = true ∧ y.ts.length + l.length ≤ 50000 ∧ R = fun r os' => r = .ok (.im .none) ∧ os' = yO C ⟨y.ts ++ l, y.known⟩ D) ∨ (areKeys d = false ∧ R = fun r os' => r = .er CP ∧ os' = yO C y D))
theorem sc_press : FnScope ["self", "keys"] ["self", "keys"] (defScope s_Typer_press) := ⟨rfl, rfl, rfl, by decide +kernel, rfl, by decide +kernel, by decide +kernel⟩
theorem ok_press (F : Dm K "press" "Typer.press" s_Typer_press f fd) (hm : Meth K C "press" f) (YC : TyC K C) (X1 : ExcF K mg "BadPacket" CP) (G : DefF θ P w K mg base 2 "are_keys" frKeys) : GMF θ P w K mg base 3 C "press" (frPress C CP) := by
  refine gmF_ok F hm sc_press (fun _ _ _ _ _ _ us hl => match us, hl with | [_, _], _ => rfl) (fun os as R h => by obtain ⟨_, _, _, _, rfl, _⟩ := h; rfl) (fun cdv A outer s H E qs os as R hr h => ?_)
  obtain ⟨y, D, d, rfl, rfl, hz, h⟩ := h
  have tk : L2N.Takes (cxOf (L2N.CX P w) P w K mg base ["self", "keys"] "Typer.press" (defScope s_Typer_press) f cdv A outer s H E) (WOf E) := L2N.takes_of rfl rfl rfl rfl
  refine sdF_if (sb := []) (ztF_not (ztF_bool (yxF_call1 G hr takesF (PD.yxf (pd_var 1) ⟨d, .ok (.bool (areKeys d)), rfl, ⟨_, rfl, rfl, hz⟩, _, rfl, fun ek => SD.f ?_, fun ek => SD.f (sd_nil (SD.f ?_))⟩))))
  · rcases h with ⟨l, rfl, ok, _⟩ | ⟨no, rfl⟩
    · rw [ok] at ek
      cases ek
    · exact sd_raise X1 tk ⟨rfl, rfl⟩ rfl
  · rcases h with ⟨l, rfl, ok, few, rfl⟩ | ⟨no, rfl⟩
    · refine sd_fldcatS 0 0 (y := txt y.ts) (v := txt l) YC.cl YC.typed (fs := imF (yF y)) rfl rfl (pd_var 1) (by rw [txt_len, txt_len]; omega) ?_ (show 2 < 1000 by decide)
      refine sd_nil ⟨rfl, ?_⟩
      rw [txt_app]
      rfl
    · rw [no] at ek
      cases ek
def frYTick (C : Addr) : FrG := fun os as R => ∃ (y : Ty) (D : Addr), os = yO C y D ∧ as = [.ad D] ∧ y.ts.length ≤ 50000 ∧ y.known ≤ y.ts.length ∧ R = fun r os' => r = .ok (.im y.pkt) ∧ os' = yO C y D
theorem sc_ytick : FnScope ["self"] ["self"] (defScope s_Typer_tick) := ⟨rfl, rfl, rfl, by decide +kernel, rfl, by decide +kernel, by decide +kernel⟩
theorem ok_ytick (F : Dm K "tick" "Typer.tick" s_Typer_tick f fd) (hm : Meth K C "tick" f) (YC : TyC K C) (B : Bl mg) (g : GlD K mg "MOST_KEYS_SENT" (.int 10)) : GMOk P w K mg base 1 C "tick" (frYTick C) := by
  refine gm_ok F hm sc_ytick (fun _ _ _ _ _ _ us hl => match us, hl with | [_], _ => rfl) (fun os as R h => by obtain ⟨_, _, _, rfl, _⟩ := h; rfl) (fun cdv A outer s H E qs os as R hr h => ?_)
  obtain ⟨y, D, rfl, rfl, few, le, rfl⟩ := h
  have fk : ∀ {δ : De} {p q}, δ[0]? = some (some (.ad D)) → PD (cxOf (L2N.CX P w) P w K mg base ["self"] "Typer.tick" (defScope s_Typer_tick) f cdv A outer s H E) δ ⟨qs, yO C y D⟩ (.Attribute (.Name "self" p) "known" q) (.int (y.known : Int)) := fun {δ p q} e => PS1.pd (ps1_fld 0 YC.cl YC.known y_obj rfl e)
  have ft : ∀ {δ : De} {p q}, δ[0]? = some (some (.ad D)) → PD (cxOf (L2N.CX P w) P w K mg base ["self"] "Typer.tick" (defScope s_Typer_tick) f cdv A outer s H E) δ ⟨qs, yO C y D⟩ (.Attribute (.Name "self" p) "typed" q) (.str (txt y.ts)) := fun {δ p q} e => PS1.pd (ps1_fld 0 YC.cl YC.typed y_obj rfl e)
  have tl : (txt y.ts).length = y.ts.length := txt_len _
  refine sd_if (kk := decide (y.known = y.ts.length)) (PTd.eq (pt_cmpd op_eq rd_eqI (fk rfl) (pd_lenS B.len (ft rfl) (by rw [tl]; omega)) (nomark _)) (by rw [tl]; exact decide_eq_decide.mpr (by omega))) (fun hk => ?_) (fun hk => sd_nil ?_)
  · have e : y.pkt = .none := if_pos (of_decide_eq_true hk)
    rw [e]
    exact sd_ret pd_non ⟨rfl, rfl⟩
  · have e : y.pkt = .tuple [.int (y.known : Int), .str (txt ((y.ts.drop y.known).take 10))] := if_neg (of_decide_eq_false hk)
    rw [e]
    refine sd_ret (pd_tup (pds_cons (fk rfl) (pds_cons (PD.eq (pd_slS (i := some (y.known : Int)) (j := some ((y.known + 10 : Nat) : Int)) (ft rfl) ⟨_, rfl, fk rfl⟩ ⟨_, rfl, pd_add (fk rfl) (pd_glob g)⟩ (by rw [tl]; omega)) ?_) pds_nil))) ⟨rfl, rfl⟩
    rw [cutS_mid _ (by rw [tl]; exact le)]
    rfl
def frYHeard (C CP : Addr) : FrG := fun os as R => ∃ (y : Ty) (D : Addr) (d : PyData), os = yO C y D ∧ as = [.ad D, .im d] ∧ y.ts.length ≤ 50000 ∧
  ((∃ n : Nat, d = .int (n : Int) ∧ n ≤ y.ts.length ∧ R = fun r os' => r = .ok (.im .none) ∧ os' = yO C ⟨y.ts, max y.known n⟩ D) ∨ (isWithin d 0 (y.ts.length : Int) = false ∧ R = fun r os' => r = .er CP ∧ os' = yO C y D))
theorem sc_yheard : FnScope ["self", "many"] ["self", "many"] (defScope s_Typer_heard) := ⟨rfl, rfl, rfl, by decide +kernel, rfl, by decide +kernel, by decide +kernel⟩
theorem ok_yheard (F : Dm K "heard" "Typer.heard" s_Typer_heard f fd) (hm : Meth K C "heard" f) (YC : TyC K C) (B : Bl mg) (X1 : ExcF K mg "BadPacket" CP) (GW : DefOk P w K mg base 2 "is_within" frWithin) : GMOk P w K mg base 3 C "heard" (frYHeard C CP) := by
  refine gm_ok F hm sc_yheard (fun _ _ _ _ _ _ us hl => match us, hl with | [_, _], _ => rfl) (fun os as R h => by obtain ⟨_, _, _, _, rfl, _⟩ := h; rfl) (fun cdv A outer s H E qs os as R hr h => ?_)
  obtain ⟨y, D, d, rfl, rfl, few, h⟩ := h
  have tk : L2N.Takes (cxOf (L2N.CX P w) P w K mg base ["self", "many"] "Typer.heard" (defScope s_Typer_heard) f cdv A outer s H E) (WOf E) := L2N.takes_of rfl rfl rfl rfl
  have tl : (txt y.ts).length = y.ts.length := txt_len _
  rcases h with ⟨n, rfl, hn, rfl⟩ | ⟨no, rfl⟩
  · have wi : isWithin (.int (n : Int)) 0 ((txt y.ts).length : Int) = true := by
      rw [tl]
      show (decide ((0 : Int) ≤ (n : Int)) && decide ((n : Int) ≤ (y.ts.length : Int))) = true
      rw [decide_eq_true (by omega), decide_eq_true (by omega)]
      rfl
    refine sd_ifF (PTd.eq (pt_notd (pt_bool (pd_call GW hr (pds_cons (pd_var 1) (pds_cons pd_int (pds_cons (pd_lenS B.len (PS1.pd (ps1_fld 0 YC.cl YC.typed y_obj rfl)) (by rw [tl]; omega)) pds_nil))) ⟨_, _, _, rfl, rfl⟩))) (by rw [wi]; rfl)) ?_
    refine sd_fld (ω := ⟨qs, []⟩) (fs := yF y) (d := .int ((max y.known n : Nat) : Int)) 0 YC.cl YC.known (PD.eq (pd_max rfl B.max (PS1.pd (ps1_fld 0 YC.cl YC.known y_obj rfl)) (pd_var 1)) (congrArg PyData.int ?_)) (sd_nil ⟨rfl, rfl⟩) (show 2 < 1000 by decide)
    split <;> omega
  · have no' : isWithin d 0 ((txt y.ts).length : Int) = false := by rw [tl]; exact no
    refine sd_ifT (PTd.eq (pt_notd (pt_bool (pd_call GW hr (pds_cons (pd_var 1) (pds_cons pd_int (pds_cons (pd_lenS B.len (PS1.pd (ps1_fld 0 YC.cl YC.typed y_obj rfl)) (by rw [tl]; omega)) pds_nil))) ⟨_, _, _, rfl, rfl⟩))) (by rw [no']; rfl)) ?_
    exact sd_raise X1 tk ⟨rfl, rfl⟩ rfl
def frPressed (C : Addr) : FrG := fun os as R => ∃ (y : Ty) (D : Addr), os = yO C y D ∧ as = [.ad D] ∧ y.ts.length ≤ 50000 ∧ R = fun r os' => r = .ok (.im (.int (y.ts.length : Int))) ∧ os' = yO C y D
theorem sc_pressed : FnScope ["self"] ["self"] (defScope s_Typer_pressed) := ⟨rfl, rfl, rfl, by decide +kernel, rfl, by decide +kernel, by decide +kernel⟩
theorem ok_pressed (F : Dm K "pressed" "Typer.pressed" s_Typer_pressed f fd) (hm : Meth K C "pressed" f) (YC : TyC K C) (B : Bl mg) : GMOk P w K mg base 1 C "pressed" (frPressed C) := by
  refine gm_ok F hm sc_pressed (fun _ _ _ _ _ _ us hl => match us, hl with | [_], _ => rfl) (fun os as R h => by obtain ⟨_, _, _, rfl, _⟩ := h; rfl) (fun cdv A outer s H E qs os as R hr h => ?_)
  obtain ⟨y, D, rfl, rfl, few, rfl⟩ := h
  have tl : (txt y.ts).length = y.ts.length := txt_len _
  exact sd_ret (PD.eq (pd_lenS B.len (PS1.pd (ps1_fld 0 YC.cl YC.typed y_obj rfl)) (by rw [tl]; omega)) (by rw [tl])) ⟨rfl, rfl⟩
def frBTook (C CP : Addr) : FrG := fun os as R => ∃ (n : Nat) (D : Addr) (d : PyData), os = bO C n D ∧ as = [.ad D, .im d] ∧ (∀ a z, d = .tuple [a, .str z] → z.length ≤ 1000) ∧
  ((∃ (a : Nat) (l : List Nat), d = .tuple [.int (a : Int), .str (txt l)] ∧ isPk d = true ∧ l.length ≤ 10 ∧ R = fun r os' => r = .ok (.im (.tuple [.str (txt (newOf n a l)), .int ((n + (newOf n a l).length : Nat) : Int)])) ∧ os' = bO C (n + (newOf n a l).length) D) ∨ (isPk d = false ∧ R = fun r os' => r = .er CP ∧ os' = bO C n D))
abbrev NBt : List Str := ["self", "packet", "start", "keys", "new"]
theorem sc_btook : FnScope NBt ["self", "packet"] (defScope s_Board_took) := ⟨rfl, rfl, rfl, by decide +kernel, rfl, by decide +kernel, by decide +kernel⟩
theorem ok_btook (F : Dm K "took" "Board.took" s_Board_took f fd) (hm : Meth K C "took" f) (BC : BoC K C) (B : Bl mg) (G : DefF θ P w K mg base 3 "need_keys_packet" (frNk CP)) : GMF θ P w K mg base 4 C "took" (frBTook C CP) := by
  refine gmF_ok F hm sc_btook (fun _ _ _ _ _ _ us hl => match us, hl with | [_, _], _ => rfl) (fun os as R h => by obtain ⟨_, _, _, _, rfl, _⟩ := h; rfl) (fun cdv A outer s H E qs os as R hr h => ?_)
  obtain ⟨n, D, d, rfl, rfl, hz, h⟩ := h
  have tk : L2N.Takes (cxOf (L2N.CX P w) P w K mg base NBt "Board.took" (defScope s_Board_took) f cdv A outer s H E) (WOf E) := L2N.takes_of rfl rfl rfl rfl
  rcases h with ⟨a, l, rfl, ok, few, rfl⟩ | ⟨no, rfl⟩
  rotate_left
  · refine sdF_exprX (yxF_call1 G hr tk (PD.yxf (pd_var 1) ⟨d, .er CP, rfl, ⟨_, rfl, hz, by rw [no]; rfl⟩, ⟨rfl, rfl⟩⟩))
  refine sdF_exprX (yxF_call1 G hr tk (PD.yxf (pd_var 1) ⟨_, .ok .none, rfl, ⟨_, rfl, hz, by rw [ok]; rfl⟩, SD.f ?_⟩))
  have tl : (txt l).length = l.length := txt_len _
  have ft : ∀ {δ : De} {p q}, δ[0]? = some (some (.ad D)) → PD (cxOf (L2N.CX P w) P w K mg base NBt "Board.took" (defScope s_Board_took) f cdv A outer s H E) δ ⟨qs, bO C n D⟩ (.Attribute (.Name "self" p) "total" q) (.int (n : Int)) := fun {δ p q} e => PS1.pd (ps1_fld 0 BC.cl BC.total b_obj rfl e)
  refine sd_unp [2, 3] (ds := [.int (a : Int), .str (txt l)]) (pd_var 1) (pg_tup rfl (pgs_cons (pg_name sc_btook.nd rfl (Or.inl rfl)) (pgs_cons (pg_name sc_btook.nd rfl (Or.inl rfl)) pgs_nil))) rfl rfl ?_
  refine sd_set 4 (d := .str (txt (newOf n a l))) (pd_if (k := decide (a ≤ n)) (PTd.eq (pt_cmpd op_le rd_B0 (pd_var 2) (ft rfl) (nomark _)) (decide_eq_decide.mpr (by omega))) (fun hk => ?_) (fun hk => ?_)) ?_ sc_btook.nd
  · have hk := of_decide_eq_true hk
    have e : newOf n a l = l.drop (n - a) := if_pos hk
    rw [e]
    refine PD.eq (pd_slS (i := some ((n - a : Nat) : Int)) (j := none) (pd_var 3) ⟨_, rfl, PD.eq (pd_sub (ft rfl) (pd_var 2)) (congrArg PyData.int (by omega))⟩ rfl (by rw [tl]; omega)) ?_
    rw [cutS_from]
    rfl
  · have e : newOf n a l = [] := if_neg (of_decide_eq_false hk)
    rw [e]
    exact PD.eq pd_str (by rw [emp_is])
  have nl : (txt (newOf n a l)).length = (newOf n a l).length := txt_len _
  have few2 : (newOf n a l).length ≤ 10 := by
    unfold newOf
    split
    · rw [List.length_drop]; omega
    · exact Nat.zero_le _
  refine sd_fldaddS 0 0 (fs := imF (bF n)) (m := (n : Int)) (n := ((newOf n a l).length : Int)) BC.cl BC.total rfl rfl (PD.eq (pd_lenS B.len (pd_var 4) (by rw [nl]; omega)) (by rw [nl])) ?_ (show 1 < 1000 by decide)
  have e2 : ((n : Int) + ((newOf n a l).length : Int)) = ((n + (newOf n a l).length : Nat) : Int) := by omega
  rw [e2]
  refine (show SD _ _ _ _ _ ⟨qs, bO C (n + (newOf n a l).length) D⟩ _ from ?_)
  exact sd_ret (pd_tup (pds_cons (pd_var 4) (pds_cons (PS1.pd (ps1_fld 0 BC.cl BC.total b_obj rfl)) pds_nil))) ⟨rfl, rfl⟩
end
end K72

namespace K72
open PySem PySem.Spec PyProof.Rows L2 FP
section
variable {P : Program} {w : World} {K : PySem.W.Frag} {mg : Str → Option Value} {base : Heap} {f C : Addr} {fd : FuncData}
def cellAt (ns : List Int) (k : Nat) : Int := if ns = [] then (k : Int) * 7919 else ns.getD (k % ns.length) 0 + ((k / ns.length : Nat) : Int) * 104729
def frLCell : List PyData → Rs → Prop := fun ds r => ∃ (ns : List Int) (k : Nat), ds = [.list (ns.map .int), .int (k : Int)] ∧ ns.length ≤ 63 ∧ k ≤ 63 ∧ r = .ok (.int (cellAt ns k))
theorem sc_lcell : FnScope ["_law_script", "_law_k"] ["_law_script", "_law_k"] (defScope s__law_cell) := ⟨rfl, rfl, rfl, by decide +kernel, rfl, by decide +kernel, by decide +kernel⟩
theorem shp_ints (ns : List Int) : Shp 1 (.list (ns.map PyData.int)) := Shp.lst fun x h => by
  obtain ⟨n, _, rfl⟩ := List.mem_map.mp h
  exact .int n
theorem cmul_small {i j : Int} (h : -(2 ^ 64) < j ∧ j < 2 ^ 64) : CMul i j := .inr h
theorem ok_lcell (F : Df K "_law_cell" s__law_cell f fd) (hm : mg "_law_cell" = some (.ref f)) (B : Bl mg) : DefOk P w K mg base 1 "_law_cell" frLCell := by
  refine def_ok F hm sc_lcell (fun _ _ _ _ _ _ us hl => match us, hl with | [_, _], _ => rfl) (fun ds r h => by obtain ⟨_, _, rfl, _⟩ := h; rfl) (fun cdv A outer s H E qs ds r hr h => ?_)
  obtain ⟨ns, k, rfl, h1, h2, rfl⟩ := h
  refine sd_if (pt_cmpd (op_eqD hr.units) (rd_eqD (shp_ints ns).ok rfl) (pd_var 0) (PN.pd (pn_lst pds_nil)) (nomark _)) (fun hk => ?_) (fun hk => sd_nil ?_)
  · have e : ns = [] := by
      cases ns with
      | nil => rfl
      | cons n ns => cases hk
    subst e
    refine sd_ret (pd_mulS (cmul_small (by decide)) (pd_var 1) pd_int) ?_
    exact rfl
  · have hne : ns ≠ [] := fun e => by
      subst e
      cases hk
    have hl : 0 < ns.length := List.length_pos_iff.mpr hne
    have hlt : k % ns.length < ns.length := Nat.mod_lt _ hl
    have e1 : ((k : Int) % ((ns.map PyData.int).length : Nat) : Int) = ((k % ns.length : Nat) : Int) := by
      rw [List.length_map]
      omega
    have hat : atI (ns.map PyData.int) ((k : Int) % ((ns.map PyData.int).length : Nat) : Int) = some (.int (ns.getD (k % ns.length) 0)) := by
      rw [e1]
      refine atI_nat ?_
      rw [List.getElem?_map, List.getD_eq_getElem?_getD, List.getElem?_eq_getElem hlt]
      rfl
    have hL : (0 : Int) < (((ns.map PyData.int).length : Nat) : Int) := by rw [List.length_map]; omega
    refine sd_ret (pd_add (pd_ixL (PD.pl (pd_var 0)) (pd_mod hL (pd_var 1) (pd_lenL B.len (PD.pl (pd_var 0)))) hat) (pd_mulS (cmul_small (by decide)) (pd_fdiv (wide_div (b := 20) hL ?_ (by decide) (by decide)) (pd_var 1) (pd_lenL B.len (PD.pl (pd_var 0)))) pd_int)) ?_
    · rw [List.length_map]
      have : (2 : Nat) ^ 20 = 1048576 := by decide
      omega
    · show Rs.ok (.int (cellAt ns k)) = _
      unfold cellAt
      rw [if_neg hne]
      have e2 : ((k : Int) / (((ns.map PyData.int).length : Nat) : Int)) = ((k / ns.length : Nat) : Int) := by
        rw [List.length_map]
        omega
      rw [e2]
def M1 : Int := 340282366920938463463374607431768211507
def M2 : Int := 340282366920938463463374607431768211297
def M3 : Int := 18446744073709551557
def drawn (c k : Int) : Int :=
  let a := (c * 6364136223846793005 + (k + 1) * 1442695040888963407) % M1
  let b := a * a % M2
  ((b % M3 + 1) * (b / M3 + 1) * b) % M1
theorem M1p : (0 : Int) < M1 := by decide
theorem M2p : (0 : Int) < M2 := by decide
theorem M3p : (0 : Int) < M3 := by decide
def frDrawn : List PyData → Rs → Prop := fun ds r => ∃ c k : Int, ds = [.int c, .int k] ∧ r = .ok (.int (drawn c k))
theorem sc_drawn : FnScope ["_law_cell_here", "_law_k", "_law_more"] ["_law_cell_here", "_law_k"] (defScope s__law_drawn) := ⟨rfl, rfl, rfl, by decide +kernel, rfl, by decide +kernel, by decide +kernel⟩
theorem abs_lt {a : Int} {n : Nat} (h0 : 0 ≤ a) (h : a < ((2 ^ n : Nat) : Int)) : a.natAbs < 2 ^ n := by omega
theorem mod_abs (a : Int) {m : Int} (h : 0 < m) {n : Nat} (hm : m ≤ ((2 ^ n : Nat) : Int)) : (a % m).natAbs < 2 ^ n := abs_lt (Int.emod_nonneg _ (by omega)) (Int.lt_of_lt_of_le (Int.emod_lt_of_pos _ h) hm)
theorem ok_drawn (F : Df K "_law_drawn" s__law_drawn f fd) (hm : mg "_law_drawn" = some (.ref f)) : DefOk P w K mg base 1 "_law_drawn" frDrawn := by
  refine def_ok F hm sc_drawn (fun _ _ _ _ _ _ us hl => match us, hl with | [_, _], _ => rfl) (fun ds r h => by obtain ⟨_, _, rfl, _⟩ := h; rfl) (fun cdv A outer s H E qs ds r hr h => ?_)
  obtain ⟨c, k, rfl, rfl⟩ := h
  show SD _ _ _ _ _ _ (FP.Fin (.ok (.int (drawn c k))))
  refine sd_set 2 (pd_mod M1p (pd_add (pd_mulS (cmul_small (by decide)) (pd_var 0) pd_int) (pd_mulS (cmul_small (by decide)) (pd_add (pd_var 1) pd_int) pd_int)) pd_int) ?_ sc_drawn.nd
  have ha : ((c * 6364136223846793005 + (k + 1) * 1442695040888963407) % M1).natAbs < 2 ^ 129 := mod_abs _ M1p (by decide)
  have ed : drawn c k = (((((c * 6364136223846793005 + (k + 1) * 1442695040888963407) % M1) * ((c * 6364136223846793005 + (k + 1) * 1442695040888963407) % M1) % M2) % M3 + 1) * ((((c * 6364136223846793005 + (k + 1) * 1442695040888963407) % M1) * ((c * 6364136223846793005 + (k + 1) * 1442695040888963407) % M1) % M2) / M3 + 1) * (((c * 6364136223846793005 + (k + 1) * 1442695040888963407) % M1) * ((c * 6364136223846793005 + (k + 1) * 1442695040888963407) % M1) % M2)) % M1 := rfl
  rw [ed]
  generalize (c * 6364136223846793005 + (k + 1) * 1442695040888963407) % M1 = a at *
  refine sd_set 2 (pd_mod M2p (pd_mul (wide_mul ha ha (by decide) (by decide) (by decide)) (pd_var 2) (pd_var 2)) pd_int) ?_ sc_drawn.nd
  have hb : (a * a % M2).natAbs < 2 ^ 129 := mod_abs _ M2p (by decide)
  have hb0 : 0 ≤ a * a % M2 := Int.emod_nonneg _ (by decide)
  generalize a * a % M2 = b at *
  have h1 : (b % M3 + 1).natAbs < 2 ^ 65 := by
    have x1 := Int.emod_nonneg b (show M3 ≠ 0 by decide)
    have x2 := Int.emod_lt_of_pos b M3p
    have x3 : M3 + 1 < ((2 ^ 65 : Nat) : Int) := by decide
    exact abs_lt (by omega) (by omega)
  have h2 : (b / M3 + 1).natAbs < 2 ^ 130 := by
    have x1 : 0 ≤ b / M3 := Int.ediv_nonneg hb0 (by decide)
    have x2 : b / M3 ≤ b := Int.ediv_le_self _ hb0
    have x3 : b < ((2 ^ 129 : Nat) : Int) := by omega
    have x4 : ((2 ^ 129 : Nat) : Int) + 1 < ((2 ^ 130 : Nat) : Int) := by decide
    exact abs_lt (by omega) (by omega)
  have h3 : ((b % M3 + 1) * (b / M3 + 1)).natAbs < 2 ^ 195 := by
    rw [Int.natAbs_mul]
    calc (b % M3 + 1).natAbs * (b / M3 + 1).natAbs < 2 ^ 65 * 2 ^ 130 := Nat.mul_lt_mul'' h1 h2
      _ = 2 ^ 195 := by decide
  refine sd_set 2 (pd_mul (wide_mul h3 hb (by decide) (by decide) (by decide)) (pd_mul (wide_mul h1 h2 (by decide) (by decide) (by decide)) (pd_add (pd_mod M3p (pd_var 2) pd_int) pd_int) (pd_add (pd_fdiv (wide_div (b := 65) M3p (by decide) (by decide) (by decide)) (pd_var 2) pd_int) pd_int)) (pd_var 2)) ?_ sc_drawn.nd
  refine sd_ret (pd_mod M1p (pd_var 2) pd_int) ?_
  exact rfl
theorem mod_nat (m : Int) (n : Nat) (h : 0 < n) : ∃ j : Nat, m % (n : Int) = (j : Int) ∧ j < n := ⟨(m % (n : Int)).toNat, by have := Int.emod_nonneg m (show (n : Int) ≠ 0 by omega); omega, by have := Int.emod_nonneg m (show (n : Int) ≠ 0 by omega); have := Int.emod_lt_of_pos m (show (0 : Int) < n by omega); omega⟩
end
end K72

namespace K72
open PySem PySem.Spec PyProof.Rows L2 FP
structure Kp where
  a : Nat
  l : List Nat
def Kp.d (p : Kp) : PyData := .tuple [.int (p.a : Int), .str (txt p.l)]
def keySign (c : Nat) : Bool := decide (c = 10) || okSign c
theorem keys_all {l : List Nat} (h : ∀ c ∈ l, keySign c = true) : areKeys (.str (txt l)) = true := by
  rw [areKeys_txt, List.all_eq_true]
  intro c hc
  obtain ⟨m, n⟩ := List.mem_filter.mp hc
  have := h c m
  unfold keySign at this
  simp at n
  rw [decide_eq_false n] at this
  simpa using this
structure PkIn (ts : List Nat) (p : Kp) : Prop where
  inn : p.a + p.l.length ≤ ts.length
  eq : p.l = (ts.drop p.a).take p.l.length
  one : 1 ≤ p.l.length
  ten : p.l.length ≤ 10
theorem PkIn.ok {ts : List Nat} {p : Kp} (h : PkIn ts p) (sg : ∀ c ∈ ts, keySign c = true) : isPk p.d = true := by
  have a := keys_all (l := p.l) fun c hc => sg c (List.drop_subset _ _ (List.take_subset _ _ (by rw [← h.eq]; exact hc)))
  have n : natB (.int (p.a : Int)) = true := by
    show (!decide ((p.a : Int) < 0)) = true
    rw [decide_eq_false (by omega)]
    rfl
  have l : lenOk (.str (txt p.l)) = true := by
    show (decide (1 ≤ (txt p.l).length) && decide ((txt p.l).length ≤ 10)) = true
    rw [txt_len, decide_eq_true h.one, decide_eq_true h.ten]
    rfl
  show (natB (.int (p.a : Int)) && (areKeys (.str (txt p.l)) && lenOk (.str (txt p.l)))) = true
  rw [n, a, l]
  rfl
theorem PkIn.more {ts tx : List Nat} {p : Kp} (h : PkIn ts p) : PkIn (ts ++ tx) p := ⟨by rw [List.length_append]; have := h.inn; omega, by
  rw [List.drop_append_of_le_length (by have := h.inn; omega), List.take_append_of_le_length (by rw [List.length_drop]; have := h.inn; omega)]
  exact h.eq, h.one, h.ten⟩
/-- what is taken is what was typed -/
theorem new_of {ts : List Nat} {n : Nat} {p : Kp} (h : PkIn ts p) (hn : n ≤ ts.length) : ts.take n ++ newOf n p.a p.l = ts.take (n + (newOf n p.a p.l).length) ∧ n + (newOf n p.a p.l).length ≤ ts.length ∧ (p.a ≤ n → p.a + p.l.length ≤ n + (newOf n p.a p.l).length) := by
  have inn := h.inn
  unfold newOf
  by_cases e : p.a ≤ n
  · rw [if_pos e]
    have el : (p.l.drop (n - p.a)).length = p.l.length - (n - p.a) := List.length_drop
    have eq : p.l.drop (n - p.a) = (ts.drop n).take (p.l.length - (n - p.a)) := by
      have := h.eq
      calc p.l.drop (n - p.a) = ((ts.drop p.a).take p.l.length).drop (n - p.a) := by rw [← this]
        _ = ((ts.drop p.a).drop (n - p.a)).take (p.l.length - (n - p.a)) := by rw [List.drop_take]
        _ = _ := by rw [List.drop_drop, show p.a + (n - p.a) = n by omega]
    refine ⟨?_, by rw [el]; omega, fun _ => by rw [el]; omega⟩
    rw [el, eq, ← List.take_add]
  · rw [if_neg e]
    exact ⟨by rw [List.append_nil]; rfl, by simpa using hn, fun z => absurd z e⟩
structure St (y : Ty) (n : Nat) (ps : List Kp) (cs : List Nat) (b : Nat) : Prop where
  kn : y.known ≤ n
  le : n ≤ y.ts.length
  few : y.ts.length ≤ 6 * b
  pks : ∀ p ∈ ps, PkIn y.ts p
  co : ∀ c ∈ cs, c ≤ n
  sg : ∀ c ∈ y.ts, keySign c = true
  lp : ps.length ≤ b
  lc : cs.length ≤ b + 1
theorem St.press {y : Ty} {n : Nat} {ps : List Kp} {cs : List Nat} {b : Nat} (v : St y n ps cs b) {tx : List Nat} (h : ∀ c ∈ tx, keySign c = true) (hl : tx.length ≤ 6) : St ⟨y.ts ++ tx, y.known⟩ n ps cs (b + 1) :=
  ⟨v.kn, by show n ≤ (y.ts ++ tx).length; rw [List.length_append]; have := v.le; omega, by show (y.ts ++ tx).length ≤ _; rw [List.length_append]; have := v.few; omega, fun p hp => (v.pks p hp).more, v.co, fun c hc => (List.mem_append.mp hc).elim (v.sg c) (h c), Nat.le_succ_of_le v.lp, Nat.le_succ_of_le v.lc⟩
/-- the packet that is told -/
def Ty.kp (y : Ty) : Kp := ⟨y.known, (y.ts.drop y.known).take 10⟩
theorem Ty.pkt_some {y : Ty} (h : y.known ≠ y.ts.length) : y.pkt = y.kp.d := if_neg h
theorem Ty.pkt_none {y : Ty} (h : y.known = y.ts.length) : y.pkt = .none := if_pos h
theorem kp_in {y : Ty} (h : y.known < y.ts.length) : PkIn y.ts y.kp := by
  have el : y.kp.l.length = min 10 (y.ts.length - y.known) := by
    show ((y.ts.drop y.known).take 10).length = _
    rw [List.length_take, List.length_drop]
  have ea : y.kp.a = y.known := rfl
  refine ⟨by rw [el, ea]; omega, ?_, by rw [el]; omega, by rw [el]; omega⟩
  rw [el]
  show (y.ts.drop y.known).take 10 = (y.ts.drop y.known).take (min 10 (y.ts.length - y.known))
  by_cases q : 10 ≤ y.ts.length - y.known
  · rw [Nat.min_eq_left q]
  · rw [Nat.min_eq_right (by omega), List.take_of_length_le (by rw [List.length_drop]; omega), List.take_of_length_le (by rw [List.length_drop]; exact Nat.le_refl _)]
theorem St.sent {y : Ty} {n : Nat} {ps : List Kp} {cs : List Nat} {b : Nat} (v : St y n ps cs b) (h : y.known ≠ y.ts.length) (hp : ps.length < b) : St y n (ps ++ [y.kp]) cs b :=
  ⟨v.kn, v.le, v.few, fun p hp => by
    rcases List.mem_append.mp hp with q | q
    · exact v.pks p q
    · rw [List.mem_singleton.mp q]
      exact kp_in (by have := v.kn; have := v.le; omega), v.co, v.sg, by rw [List.length_append]; exact hp, v.lc⟩
/-- a packet is taken, its count is heard -/
theorem St.take {y : Ty} {n : Nat} {ps : List Kp} {cs : List Nat} {b : Nat} (v : St y n ps cs b) {p : Kp} (hp : p ∈ ps) (hc : cs.length ≤ b) : St y (n + (newOf n p.a p.l).length) ps (cs ++ [n + (newOf n p.a p.l).length]) b := by
  obtain ⟨_, h2, _⟩ := new_of (v.pks p hp) v.le
  exact ⟨by have := v.kn; omega, h2, v.few, v.pks, fun c hc => by
    rcases List.mem_append.mp hc with q | q
    · have := v.co c q
      omega
    · rw [List.mem_singleton.mp q]
      exact Nat.le_refl _, v.sg, v.lp, by rw [List.length_append]; exact Nat.succ_le_succ hc⟩
theorem St.hear {y : Ty} {n : Nat} {ps : List Kp} {cs : List Nat} {b : Nat} (v : St y n ps cs b) {c : Nat} (hc : c ≤ n) : St ⟨y.ts, max y.known c⟩ n ps cs b := ⟨by have := v.kn; show max y.known c ≤ n; omega, v.le, v.few, v.pks, v.co, v.sg, v.lp, v.lc⟩
theorem St.mono {y : Ty} {n : Nat} {ps : List Kp} {cs : List Nat} {b c : Nat} (v : St y n ps cs b) (h : b ≤ c) : St y n ps cs c := ⟨v.kn, v.le, by have := v.few; omega, v.pks, v.co, v.sg, Nat.le_trans v.lp h, by have := v.lc; omega⟩
def kSig (g : Int) (j : Nat) : Nat := ([97, 98, 32, 99, 10, 126] : List Nat).getD (drawn g (j : Int) % 6).toNat 97
def kTx (g : Int) : List Nat := (List.range (g % 7).toNat).map fun (j : Nat) => kSig g j
theorem kSig_ok (g : Int) (j : Nat) : keySign (kSig g j) = true := by
  unfold kSig
  have h1 := Int.emod_nonneg (drawn g (j : Int)) (show (6 : Int) ≠ 0 by decide)
  have h2 := Int.emod_lt_of_pos (drawn g (j : Int)) (show (0 : Int) < 6 by decide)
  generalize (drawn g (j : Int) % 6) = i at h1 h2
  obtain ⟨n, rfl⟩ : ∃ n : Nat, i = n := ⟨i.toNat, by omega⟩
  have : n = 0 ∨ n = 1 ∨ n = 2 ∨ n = 3 ∨ n = 4 ∨ n = 5 := by omega
  rcases this with rfl | rfl | rfl | rfl | rfl | rfl <;> decide +kernel
theorem kTx_ok (g : Int) : ∀ c ∈ kTx g, keySign c = true := fun c hc => by
  obtain ⟨j, _, rfl⟩ := List.mem_map.mp hc
  exact kSig_ok g j
theorem kTx_len (g : Int) : (kTx g).length ≤ 6 := by
  unfold kTx
  rw [List.length_map, List.length_range]
  have h1 := Int.emod_nonneg g (show (7 : Int) ≠ 0 by decide)
  have h2 := Int.emod_lt_of_pos g (show (0 : Int) < 7 by decide)
  omega
end K72

namespace K72
open PySem PySem.Spec PyProof.Rows L2 FP
theorem rd_neS {K : PySem.W.Frag} {n : Nat} {d e : PyData} (h : Shp n d) (he : d = e) (hn : n ≤ 64 := by decide) : RD K (rNeD K) d e (.bool false) := by
  subst he
  have z := rd_neD (K := K) (h.ok hn) (h.ok hn)
  rw [h.refl] at z
  exact z
theorem key_str {l : List Nat} (h : ∀ c ∈ l, keySign c = true) : PyData.strOk (txt l) = true := by
  show ((txt l).cps.all (· < 0x110000)) = true
  rw [Array.all_eq_true]
  intro i hi
  have := h (txt l).cps[i] (by show _ ∈ l; exact (Array.mem_toList_iff.mpr (Array.getElem_mem hi)))
  unfold keySign okSign at this
  simp only [Bool.or_eq_true, Bool.and_eq_true, decide_eq_true_eq] at this
  simp
  omega
theorem kp_shp {ts : List Nat} {p : Kp} (v : PkIn ts p) (sg : ∀ c ∈ ts, keySign c = true) : Shp 1 p.d := .tup fun x hx => by
  simp only [List.mem_cons, List.not_mem_nil, or_false] at hx
  rcases hx with rfl | rfl
  · exact .int _
  · exact .str (key_str fun c hc => sg c (List.drop_subset _ _ (List.take_subset _ _ (by rw [← v.eq]; exact hc))))
theorem kps_shp {ts : List Nat} {ps : List Kp} (v : ∀ p ∈ ps, PkIn ts p) (sg : ∀ c ∈ ts, keySign c = true) : Shp 2 (.list (ps.map Kp.d)) := .lst fun x hx => by
  obtain ⟨p, hp, rfl⟩ := List.mem_map.mp hx
  exact kp_shp (v p hp) sg
theorem starts_of {z y : Str} {r : List Nat} (h : z.cps.toList = y.cps.toList ++ r) : Txt.startswith z y = true := by
  have hl := congrArg List.length h
  rw [List.length_append, zlen, zlen] at hl
  unfold Txt.startswith Builtin.Str.subAt
  rw [decide_eq_true (by omega), Bool.true_and, Nat.zero_add, beq_iff_eq]
  apply Array.toList_inj.mp
  rw [Array.toList_extract, h]
  show ((y.cps.toList ++ r).drop 0).take (y.length - 0) = _
  rw [List.drop_zero, Nat.sub_zero, ← zlen y, List.take_left]
theorem starts_take (l : List Nat) (n : Nat) : Txt.startswith (txt l) (txt (l.take n)) = true := starts_of (r := l.drop n) (List.take_append_drop n l).symm
theorem atI_nat {α : Type} {xs : List α} {n : Nat} : atI xs (n : Int) = xs[n]? := by
  unfold atI ixN
  rw [if_pos (Int.natCast_nonneg n)]
  by_cases h : n < xs.length
  · rw [if_pos (Int.ofNat_lt.mpr h)]
    show xs[(n : Int).toNat]? = _
    rw [Int.toNat_natCast]
  · rw [if_neg (fun z => h (Int.ofNat_lt.mp z)), List.getElem?_eq_none (Nat.le_of_not_lt h)]
    rfl
section
variable {P : Program} {w : World} {K : PySem.W.Frag} {mg : Str → Option Value} {base : Heap} {f C C2 CS : Addr} {fd : FuncData} {θ : Nat}
structure Defs (θ : Nat) (P : Program) (w : World) (K : PySem.W.Frag) (mg : Str → Option Value) (base : Heap) (C C2 CS : Addr) : Prop where
  B : Bl mg
  cell : DefOk P w K mg base 1 "_law_cell" frLCell
  drawn : DefOk P w K mg base 1 "_law_drawn" frDrawn
  mky : ∃ g fd ps, Mk K C g ∧ FnOk P w K mg base (L2N.CX P w) 1 g fd ps (spW K C frYI) ∧ L2.Binds K fd ps []
  cls : mg "Typer" = some (.ref C)
  YC : TyC K C
  press : GMF θ P w K mg base 3 C "press" (frPress C (He.ga K "BadPacket"))
  tick : GMOk P w K mg base 1 C "tick" (frYTick C)
  heard : GMOk P w K mg base 3 C "heard" (frYHeard C (He.ga K "BadPacket"))
  pressed : GMOk P w K mg base 1 C "pressed" (frPressed C)
  mkb : ∃ g fd ps, Mk K C2 g ∧ FnOk P w K mg base (L2N.CX P w) 1 g fd ps (spW K C2 frBI) ∧ L2.Binds K fd ps []
  clsb : mg "Board" = some (.ref C2)
  BC : BoC K C2
  took : GMF θ P w K mg base 4 C2 "took" (frBTook C2 (He.ga K "BadPacket"))
  told : Told K mg "_law_told" s__law_told
  word : LC.Word2 P w K mg base 5 "_law_word" (fwA K)
  scr : mg "ScreenError" = some (.ref CS)
theorem sc_told : FnScope ["_law_deed", "_law_e"] ["_law_deed"] (defScope s__law_told) := ⟨rfl, rfl, rfl, by decide +kernel, rfl, by decide +kernel, by decide +kernel⟩
theorem told {X : Cx} {T : List (Addr × Str)} {δ : De} {ω : Om} {Rz : PyData → Om → Prop} {pos p lpos : Pos} {params : Arguments} {body : Expr} {scope : Scope} (Ds : Defs θ X.prog X.w X.K X.mg X.base C C2 CS) (L : LamT X T) (hT : T ≠ []) (hps : ω.ps = []) (hr : Room 6 X.A)
    (hb : ∀ (A : Around) (outer : List Env) (s : Shared) (H : Hp) (E : XK) (f c' : Addr), Room 4 (A.deeper (LamX.lamEnv X scope s.heap.objs.size f c')) → YX (LC.lamC X A outer s H E scope f c') (WOf E) T δ ω body (fun r ω1 => match r with | .ok (.im d) => Rz d ω1 | .ok (.ad _) => False | .er Z => PySem.W.exmOne X.K (.ref Z) (.ref CS) = some true ∧ ∃ d, fwA X.K Z d ∧ Rz d ω1))
    (hL : LamX.LamS X.env.scope scope) (hdef : defaultsOf params X.env = ([], []) := by rfl) (hbind : ∀ (q : Str) (cl : List (Str × Addr)) (pm cv ctv : Value), bindArgs (PySem.W.kla_fn "<lambda>" q params body scope cl pm cv ctv) ⟨[], []⟩ = pure [] := by intros; rfl)
    (hg : Gl X "_law_told" := by rfl) : ZE X T δ ω (.Call (.Name "_law_told" p) [.Lambda params body scope lpos] [] pos) Rz :=
  LC.ze_toldC (k := 4) (Ng := ["_law_deed", "_law_e"]) (e := "ScreenError") (n := "_law_e") (wd := "_law_word") Ds.told L hT hps hr Ds.word rfl sc_told sc_told.nd rfl (Or.inl rfl) rfl rfl rfl rfl Ds.scr (fun _ _ _ _ _ _ us hl => match us, hl with | [_], _ => rfl) hb hL hdef hbind hg (by decide) (by decide) (by decide) (by decide) (by decide) (by decide) (by decide)
theorem toldF {X : Cx} {T : List (Addr × Str)} {δ : De} {ω : Om} {Rz : PyData → Om → Prop} {pos p lpos : Pos} {params : Arguments} {body : Expr} {scope : Scope} (Ds : Defs θ X.prog X.w X.K X.mg X.base C C2 CS) (L : LamT X T) (hT : T ≠ []) (hps : ω.ps = []) (hr : Room 6 X.A)
    (hb : ∀ (A : Around) (outer : List Env) (s : Shared) (H : Hp) (E : XK) (f c' : Addr), Room 4 (A.deeper (LamX.lamEnv X scope s.heap.objs.size f c')) → YXF θ (LC.lamC X A outer s H E scope f c') (WOf E) T δ ω body (fun r ω1 => match r with | .ok (.im d) => Rz d ω1 | .ok (.ad _) => False | .er Z => PySem.W.exmOne X.K (.ref Z) (.ref CS) = some true ∧ ∃ d, fwA X.K Z d ∧ Rz d ω1))
    (hL : LamX.LamS X.env.scope scope) (hdef : defaultsOf params X.env = ([], []) := by rfl) (hbind : ∀ (q : Str) (cl : List (Str × Addr)) (pm cv ctv : Value), bindArgs (PySem.W.kla_fn "<lambda>" q params body scope cl pm cv ctv) ⟨[], []⟩ = pure [] := by intros; rfl)
    (hg : Gl X "_law_told" := by rfl) : YXF θ X (fun _ _ _ _ => False) T δ ω (.Call (.Name "_law_told" p) [.Lambda params body scope lpos] [] pos) (fun r ω1 => ∃ d, r = .ok (.im d) ∧ Rz d ω1) :=
  LC.zeF_told (k := 4) (Ng := ["_law_deed", "_law_e"]) (e := "ScreenError") (n := "_law_e") (wd := "_law_word") Ds.told L hT hps hr Ds.word rfl sc_told sc_told.nd rfl (Or.inl rfl) rfl rfl rfl rfl Ds.scr (fun _ _ _ _ _ _ us hl => match us, hl with | [_], _ => rfl) hb hL hdef hbind hg (by decide) (by decide) (by decide) (by decide) (by decide) (by decide) (by decide)
abbrev NL : List Str := ["_law_script", "_law_k", "_law_more", "_law_typer", "_law_board", "_law_pressed", "_law_there", "_law_packets", "_law_counts", "_law_j", "_law_here", "_law_text", "_law_packet", "_law_told_here", "_law_number", "_law_n"]
theorem sc_law : FnScope NL ["_law_script"] (defScope s_law) := ⟨rfl, rfl, rfl, by decide +kernel, rfl, by decide +kernel, by decide +kernel⟩
def forBody : List Stmt → List Stmt
  | .For _ _ b _ _ :: _ => b
  | _ => []
def ifBody : List Stmt → List Stmt
  | .If _ b _ _ :: _ => b
  | _ => []
abbrev bodyK : List Stmt := forBody (defBody s_law)
abbrev bodyJ : List Stmt := forBody (bodyK.drop 3)
abbrev bodyE : List Stmt := forBody (bodyK.drop 4)
abbrev XL (P : Program) (w : World) (K : PySem.W.Frag) (mg : Str → Option Value) (base : Heap) (f : Addr) (cdv : Value) (A : Around) (outer : List Env) (s : Shared) (H : Hp) (E : XK) : Cx := cxOf (L2N.CX P w) P w K mg base NL "law" (defScope s_law) f cdv A outer s H E
abbrev natD (n : Nat) : PyData := .int (n : Int)
abbrev dl (ns : List Int) (k m : Int) (Dy Db : Addr) (pr th : List Nat) (Lp Lc : Addr) (y9 y10 y11 y12 y13 y14 y15 : Option Sd) : De := [some (.im (.list (ns.map .int))), some (.im (.int k)), some (.im (.int m)), some (.ad Dy), some (.ad Db), some (.im (.str (txt pr))), some (.im (.str (txt th))), some (.ad Lp), some (.ad Lc), y9, y10, y11, y12, y13, y14, y15]
abbrev rs (ps : List Kp) (cs : List Nat) (Lp Lc : Addr) (g : Os) : Os := (Lp, .lst ((ps.map Kp.d).map .im)) :: (Lc, .lst ((cs.map natD).map .im)) :: g
abbrev om (C C2 : Addr) (y : Ty) (n : Nat) (ps : List Kp) (cs : List Nat) (Dy Db Lp Lc : Addr) (g : Os) : Om := ⟨[], yO C y Dy ++ (bO C2 n Db ++ rs ps cs Lp Lc g)⟩
theorem mp {y : Ty} {n : Nat} {ps : List Kp} {cs : List Nat} {Dy Db Lp Lc : Addr} {g : Os} : (Lp, Od.lst ((ps.map Kp.d).map .im)) ∈ (om C C2 y n ps cs Dy Db Lp Lc g).os := List.mem_append_right _ (List.mem_append_right _ List.mem_cons_self)
theorem mc {y : Ty} {n : Nat} {ps : List Kp} {cs : List Nat} {Dy Db Lp Lc : Addr} {g : Os} : (Lc, Od.lst ((cs.map natD).map .im)) ∈ (om C C2 y n ps cs Dy Db Lp Lc g).os := List.mem_append_right _ (List.mem_append_right _ (List.mem_cons_of_mem _ List.mem_cons_self))
theorem mpB {y : Ty} {n : Nat} {ps : List Kp} {cs : List Nat} {Dy Db Lp Lc : Addr} {g : Os} : (Lp, Od.lst ((ps.map Kp.d).map .im)) ∈ bO C2 n Db ++ (yO C y Dy ++ rs ps cs Lp Lc g) := List.mem_append_right _ (List.mem_append_right _ List.mem_cons_self)
set_option maxHeartbeats 16000000 in
/-- a packet is taken, a count is heard -/
theorem partT {cdv : Value} {A : Around} {outer : List Env} {sh : Shared} {H0 : Hp} {E : XK} {T : List (Addr × Str)} {ns : List Int} (Ds : Defs θ P w K mg base C C2 CS) (LT : LamT (XL P w K mg base f cdv A outer sh H0 E) T) (hT : T ≠ [])
    (hr : Room 6 (A.deeper (envOfC "law" (defScope s_law) sh.heap.objs.size f cdv))) {R : Out → Prop} {k m g : Int} {y : Ty} {n b : Nat} {ps : List Kp} {cs : List Nat} (v : St y n ps cs b) (hb : b ≤ 30) (hc : cs.length ≤ b) (hp : ps ≠ []) {Dy Db Lp Lc : Addr} {os : Os} {y9 y11 y12 y13 y14 y15 : Option Sd}
    (hR : ∀ y' n' cs' y13 y14, St y' n' ps cs' b → y'.ts = y.ts → R (.nx (dl ns k m Dy Db y'.ts (y'.ts.take n') Lp Lc y9 (some (.im (.int g))) y11 y12 y13 y14 y15) (om C C2 y' n' ps cs' Dy Db Lp Lc os))) :
    SDF θ (XL P w K mg base f cdv A outer sh H0 E) (WOf E) T (ifBody (bodyJ.drop 6)) (dl ns k m Dy Db y.ts (y.ts.take n) Lp Lc y9 (some (.im (.int g))) y11 y12 y13 y14 y15) (om C C2 y n ps cs Dy Db Lp Lc os) R := by
  have B := Ds.B
  have few := v.few
  have pos : 0 < ps.length := List.length_pos_iff.mpr hp
  obtain ⟨i, ei, li⟩ := mod_nat (g / 1024) ps.length pos
  obtain ⟨p, ep⟩ : ∃ p, ps[i]? = some p := ⟨_, List.getElem?_eq_getElem li⟩
  have hpm := List.mem_of_getElem? ep
  have pin := v.pks p hpm
  obtain ⟨e1, e2, _⟩ := new_of pin v.le
  have v2 := v.take hpm hc
  refine sdF_setX 13 (YXF.imp (YXF.any (toldF Ds LT hT rfl hr (fun A1 u1 s1 H1 E1 f1 c1 hr' => yxF_sec (yxF_methG 4 (bO C2 n Db) (yO C y Dy ++ rs ps cs Lp Lc os) Ds.took hr' LC.lamC_takes.toN Ds.BC.cl (List.mem_append_left _ b_obj) (bF_no (by decide +kernel)) (pss1_cons (PD.ps1 (pd_ixL (d := p.d) (i := (i : Int)) (pl_var 7 mpB) (PD.eq (pd_mod (show (0 : Int) < (ps.length : Int) by omega) (pd_fdiv (wide_div (b := 11) (by decide) (by decide) (by decide) (by decide)) (pd_var 10) pd_int) (PD.eq (pd_lenL B.len (pl_var 7 mpB)) (by rw [List.length_map]))) (congrArg PyData.int ei)) (by rw [atI_nat, List.getElem?_map, ep]; rfl))) pss1_nil) (Rr := fun r os' => r = .ok (.im (.tuple [.str (txt (newOf n p.a p.l)), .int ((n + (newOf n p.a p.l).length : Nat) : Int)])) ∧ os' = bO C2 (n + (newOf n p.a p.l).length) Db) ⟨n, Db, p.d, rfl, rfl, fun a z e => ?_, .inl ⟨p.a, p.l, rfl, pin.ok v.sg, pin.ten, rfl⟩⟩ (fun r os' hq => ?_))) (LamX.lamS_by (sc := defScope s_law) (by decide +kernel)) (Rz := fun d ω1 => d = .tuple [.str (txt (newOf n p.a p.l)), .int ((n + (newOf n p.a p.l).length : Nat) : Int)] ∧ ω1 = om C C2 y (n + (newOf n p.a p.l).length) ps cs Dy Db Lp Lc os))) fun r ω1 z => ?_) sc_law.nd
  · cases e
    rw [txt_len]
    exact Nat.le_trans pin.ten (by decide)
  · obtain ⟨rfl, rfl⟩ := hq
    exact ⟨_, rfl, rfl, rfl⟩
  obtain ⟨d, rfl, rfl, rfl⟩ := z
  generalize eN : newOf n p.a p.l = new at e1 e2 v2
  have tl : ∀ l : List Nat, (txt l).length = l.length := txt_len
  have thl : (y.ts.take (n + new.length)).length = n + new.length := by rw [List.length_take, Nat.min_eq_left e2]
  have nl : new.length ≤ y.ts.length := by omega
  have ft : PyData.str (txt (y.ts.take n) ++ txt new) = .str (txt (y.ts.take (n + new.length))) := by rw [txt_app, e1]
  refine SD.f ?_
  refine sd_set 6 (PD.eq (pd_catS (pd_var 6) (pd_ixT (d := .str (txt new)) (pd_var 13) pd_int rfl) (by rw [tl, tl, List.length_take]; omega)) ft) ?_ sc_law.nd
  refine sd_ifF (PWd.pt (PWd.eq (pw_ord (x := false) (pt_notd (k := true) (pt_bool (pd_isi B.isi B.tuple bb_tuple (pd_var 13) (k_tuple _)))) (fun _ => pw_ord (x := false) (PTd.eq (pt_cmpd op_ne rd_neI (pd_ixT (d := .int ((n + new.length : Nat) : Int)) (pd_var 13) pd_int rfl) (pd_lenS B.len (pd_var 6) (by rw [tl, thl]; omega)) (nomark _)) (by rw [tl, thl]; simp)) (fun _ => pw_or1d (pt_notd (k := true) (pt_bool (PD.eq (pd_starts (pd_var 5) (pd_var 6)) (by rw [starts_take]))))))) rfl)) ?_
  refine sd_appS (j := 3) (xs := (cs.map natD).map .im) (d := natD (n + new.length)) (ps1_var 8) rfl (pd_ixT (d := .int ((n + new.length : Nat) : Int)) (pd_var 13) pd_int rfl) ?_ (by rw [List.length_map, List.length_map]; omega)
  have ef : (cs.map natD).map Sd.im ++ [.im (natD (n + new.length))] = ((cs ++ [n + new.length]).map natD).map .im := by
    rw [List.map_append, List.map_append]
    rfl
  rw [ef]
  refine (show SD _ _ _ _ _ (om C C2 y (n + new.length) ps (cs ++ [n + new.length]) Dy Db Lp Lc os) _ from ?_)
  have lc : 0 < (cs ++ [n + new.length]).length := by rw [List.length_append]; exact Nat.succ_pos _
  obtain ⟨j, ej, lj⟩ := mod_nat (g / 2 ^ 20) (cs ++ [n + new.length]).length lc
  obtain ⟨c, ec⟩ : ∃ c, (cs ++ [n + new.length])[j]? = some c := ⟨_, List.getElem?_eq_getElem lj⟩
  have hcm := v2.co c (List.mem_of_getElem? ec)
  refine sd_set 14 (d := natD c) (pd_ixL (i := (j : Int)) (pl_var 8 mc) (PD.eq (pd_mod (show (0 : Int) < ((cs ++ [n + new.length]).length : Int) by omega) (pd_fdiv (wide_div (b := 21) (by decide) (by decide) (by decide) (by decide)) (pd_var 10) (pd_pow ⟨by decide, by decide, by decide⟩ pd_int pd_int)) (PD.eq (pd_lenL B.len (pl_var 8 mc)) (by rw [List.length_map]))) (congrArg PyData.int ej)) (by rw [atI_nat, List.getElem?_map, ec]; rfl)) ?_ sc_law.nd
  refine sd_ifZF (zt_cmp op_notN (ZE.imp (told Ds LT hT rfl hr (fun A1 u1 s1 H1 E1 f1 c1 hr' => yx_methG 3 (yO C y Dy) (bO C2 (n + new.length) Db ++ rs ps (cs ++ [n + new.length]) Lp Lc os) Ds.heard (hr'.mono (by decide)) LC.lamC_takes.toN Ds.YC.cl (List.mem_append_left _ y_obj) (yF_no (by decide +kernel)) (pss1_cons (PD.ps1 (pd_var 14)) pss1_nil) (Rr := fun r os' => r = .ok (.im .none) ∧ os' = yO C ⟨y.ts, max y.known c⟩ Dy) ⟨y, Dy, natD c, rfl, rfl, by omega, .inl ⟨c, rfl, by have := v2.le; omega, rfl⟩⟩ (fun r os' hq => ?_)) (LamX.lamS_by (sc := defScope s_law) (by decide +kernel)) (Rz := fun d ω1 => d = .none ∧ ω1 = om C C2 ⟨y.ts, max y.known c⟩ (n + new.length) ps (cs ++ [n + new.length]) Dy Db Lp Lc os)) fun d ω1 z => ?_) (nomark _))
  · obtain ⟨rfl, rfl⟩ := hq
    exact ⟨rfl, rfl⟩
  · obtain ⟨rfl, rfl⟩ := z
    exact PD.ze pd_non ⟨false, rd_notN0, rfl, sd_nil (hR _ _ _ _ _ (v2.hear hcm) rfl)⟩
end
end K72

namespace K72
open PySem PySem.Spec PyProof.Rows L2 FP
section
variable {P : Program} {w : World} {K : PySem.W.Frag} {mg : Str → Option Value} {base : Heap} {f C C2 CS : Addr} {fd : FuncData} {θ : Nat}
theorem signs_is : ("ab c\n~" : Str) = txt [97, 98, 32, 99, 10, 126] := by decide +kernel
theorem kSig_at (g : Int) (j : Nat) : atI (txt [97, 98, 32, 99, 10, 126]).cps.toList (drawn g (j : Int) % 6) = some (kSig g j) := by
  unfold kSig
  have h1 := Int.emod_nonneg (drawn g (j : Int)) (show (6 : Int) ≠ 0 by decide)
  have h2 := Int.emod_lt_of_pos (drawn g (j : Int)) (show (0 : Int) < 6 by decide)
  generalize (drawn g (j : Int) % 6) = i at h1 h2
  obtain ⟨n, rfl⟩ : ∃ n : Nat, i = n := ⟨i.toNat, by omega⟩
  rw [atI_nat]
  have : n = 0 ∨ n = 1 ∨ n = 2 ∨ n = 3 ∨ n = 4 ∨ n = 5 := by omega
  rcases this with rfl | rfl | rfl | rfl | rfl | rfl <;> rfl
theorem ones_sum : ∀ cs : List Nat, ((cs.map fun c => (⟨#[c]⟩ : Str)).map (·.length)).sum = cs.length
  | [] => rfl
  | c :: cs => by
    rw [List.map_cons, List.map_cons, List.sum_cons, ones_sum cs, List.length_cons]
    show 1 + cs.length = _
    omega
set_option maxHeartbeats 16000000 in
/-- a turn -/
theorem turn {cdv : Value} {A : Around} {outer : List Env} {sh : Shared} {H0 : Hp} {E : XK} {T : List (Addr × Str)} {ns : List Int} (Ds : Defs θ P w K mg base C C2 CS) (LT : LamT (XL P w K mg base f cdv A outer sh H0 E) T) (hT : T ≠ [])
    (hr : Room 6 (A.deeper (envOfC "law" (defScope s_law) sh.heap.objs.size f cdv))) {R : Out → Prop} {k m : Int} {i : Nat} {y : Ty} {n b : Nat} {ps : List Kp} {cs : List Nat} (v : St y n ps cs b) (hb : b < 20) {Dy Db Lp Lc : Addr} {os : Os} {y10 y11 y12 y13 y14 y15 : Option Sd}
    (hR : ∀ y' n' ps' cs' y10 y11 y12 y13 y14 y15, St y' n' ps' cs' (b + 1) → R (.nx (dl ns k m Dy Db y'.ts (y'.ts.take n') Lp Lc (some (.im (.int (i : Int)))) y10 y11 y12 y13 y14 y15) (om C C2 y' n' ps' cs' Dy Db Lp Lc os))) :
    SDF θ (XL P w K mg base f cdv A outer sh H0 E) (WOf E) T bodyJ (dl ns k m Dy Db y.ts (y.ts.take n) Lp Lc (some (.im (.int (i : Int)))) y10 y11 y12 y13 y14 y15) (om C C2 y n ps cs Dy Db Lp Lc os) R := by
  have B := Ds.B
  have hr1 : Room 1 (A.deeper (envOfC "law" (defScope s_law) sh.heap.objs.size f cdv)) := hr.mono (by decide)
  have tl : ∀ l : List Nat, (txt l).length = l.length := txt_len
  have few := v.few
  refine sdF_app (l1 := bodyJ.take 2) (l2 := bodyJ.drop 2) ?_
  refine sd_set 10 (pd_call Ds.drawn hr1 (pds_cons (pd_var 2) (pds_cons (pd_add pd_int (pd_var 9)) pds_nil)) ⟨_, _, rfl, rfl⟩) ?_ sc_law.nd
  generalize drawn m (10 + (i : Int)) = g
  have g1 := Int.emod_nonneg g (show (7 : Int) ≠ 0 by decide)
  have g2 := Int.emod_lt_of_pos g (show (0 : Int) < 7 by decide)
  refine sd_set 11 (d := .str (txt (kTx g))) (PD.eq (pd_join (z := "") (ys := (kTx g).map fun c => (⟨#[c]⟩ : Str)) pd_str (PN.pl (pn_lc (y := "_law_n") (j := 15) (items := rangeD 0 (g % 7).toNat) (ys := ((kTx g).map fun c => (⟨#[c]⟩ : Str)).map .str) rfl sc_law.nd (PWk.ws (wk_range1 (j := g % 7) B.range (pd_mod (by decide) (pd_var 10) pd_int) (by omega))) ?len (blkOk_by (N := NL) (sc := defScope s_law) (by decide +kernel)) (fun _ _ _ _ _ => pg_name sc_law.nd rfl (Or.inl rfl)) ?el (by rw [rangeD_len]; omega))) ?sz) (by rw [show ("" : Str) = Str.ofString "" from rfl, glued_ones]; rfl)) ?_ sc_law.nd
  case len =>
    unfold kTx
    rw [List.length_map, List.length_map, List.length_map, List.length_range, rangeD_len]
  case sz =>
    rw [ones_sum, List.length_map]
    have := kTx_len g
    have e0 : ("" : Str).length = 0 := by decide +kernel
    rw [e0]
    omega
  case el =>
    intro j d z hd hz D o s2 H2 C2' cl fp
    have hlt := (List.getElem?_eq_some_iff.mp hd).1
    rw [rangeD_len] at hlt
    rw [rangeD_get hlt] at hd
    cases hd
    unfold kTx at hz
    rw [List.map_map, List.map_map, List.getElem?_map, List.getElem?_range hlt] at hz
    cases hz
    rw [Int.zero_add]
    exact pd_ixS (PD.eq pd_str (congrArg PyData.str signs_is)) (pd_mod (by decide) (pd_call Ds.drawn hr1 (pds_cons (pd_var 10) (pds_cons (pd_var 15) pds_nil)) ⟨_, _, rfl, rfl⟩) pd_int) (by rw [tl]; decide) (kSig_at g j)
  refine sd_nil ?_
  refine (show SDF θ (XL P w K mg base f cdv A outer sh H0 E) (WOf E) T (bodyJ.drop 2) (dl ns k m Dy Db y.ts (y.ts.take n) Lp Lc (some (.im (.int (i : Int)))) (some (.im (.int g))) (some (.im (.str (txt (kTx g))))) y12 y13 y14 y15) (om C C2 y n ps cs Dy Db Lp Lc os) R from ?_)
  have kl := kTx_len g
  have ko := kTx_ok g
  generalize kTx g = tx at kl ko
  -- the text is pressed
  have v1 := v.press ko kl
  refine sdF_ifZF (ztF_cmp op_notN (YXF.imp (toldF Ds LT hT rfl hr (fun A1 u1 s1 H1 E1 f1 c1 hr' => yxF_methG 3 (yO C y Dy) (bO C2 n Db ++ rs ps cs Lp Lc os) Ds.press (hr'.mono (by decide)) LC.lamC_takes.toN Ds.YC.cl (List.mem_append_left _ y_obj) (yF_no (by decide +kernel)) (pss1_cons (PD.ps1 (pd_var 11)) pss1_nil) (Rr := fun r os' => r = .ok (.im .none) ∧ os' = yO C ⟨y.ts ++ tx, y.known⟩ Dy) ⟨y, Dy, _, rfl, rfl, fun z e => by cases e; rw [tl]; omega, .inl ⟨tx, rfl, keys_all ko, by omega, rfl⟩⟩ (fun r os' hq => ?_)) (LamX.lamS_by (sc := defScope s_law) (by decide +kernel)) (Rz := fun d ω1 => d = .none ∧ ω1 = om C C2 ⟨y.ts ++ tx, y.known⟩ n ps cs Dy Db Lp Lc os)) fun r ω1 z => ?_) (nomark _))
  · obtain ⟨rfl, rfl⟩ := hq
    exact ⟨rfl, rfl⟩
  obtain ⟨d, rfl, rfl, rfl⟩ := z
  refine ⟨_, rfl, PD.ze pd_non ⟨false, rd_notN0, rfl, ?_⟩⟩
  have et : y.ts.take n = (y.ts ++ tx).take n := (List.take_append_of_le_length v.le).symm
  rw [et]
  obtain ⟨y1, e1⟩ : ∃ y1 : Ty, (⟨y.ts ++ tx, y.known⟩ : Ty) = y1 := ⟨_, rfl⟩
  have e2 : y.ts ++ tx = y1.ts := by rw [← e1]
  rw [e1] at v1 ⊢
  rw [e2]
  have few1 := v1.few
  -- what is told
  refine sdF_app (l1 := (bodyJ.drop 3).take 3) (l2 := bodyJ.drop 6) ?_
  refine sd_set 5 (d := .str (txt y1.ts)) (PD.eq (pd_catS (pd_var 5) (pd_var 11) (by rw [tl, tl]; omega)) (by rw [txt_app, e2])) ?_ sc_law.nd
  refine sd_setZ 12 (told Ds LT hT rfl hr (fun A1 u1 s1 H1 E1 f1 c1 hr' => yx_methG0 3 (yO C y1 Dy) (bO C2 n Db ++ rs ps cs Lp Lc os) Ds.tick (hr'.mono (by decide)) LC.lamC_takes.toN Ds.YC.cl (List.mem_append_left _ y_obj) (yF_no (by decide +kernel)) ⟨y1, Dy, rfl, rfl, by omega, by have := v1.kn; have := v1.le; omega, rfl⟩ (fun r os' hq => ?_)) (LamX.lamS_by (sc := defScope s_law) (by decide +kernel))) sc_law.nd
  obtain ⟨rfl, rfl⟩ := hq
  refine (show SD (XL P w K mg base f cdv A outer sh H0 E) (WOf E) T (((bodyJ.drop 3).take 3).drop 2) (dl ns k m Dy Db y1.ts (y1.ts.take n) Lp Lc (some (.im (.int (i : Int)))) (some (.im (.int g))) (some (.im (.str (txt tx)))) (some (.im y1.pkt)) y13 y14 y15) (om C C2 y1 n ps cs Dy Db Lp Lc os) _ from ?_)
  have last : ∀ {ps' : List Kp} {y12 : Option Sd}, St y1 n ps' cs (b + 1) → SDF θ (XL P w K mg base f cdv A outer sh H0 E) (WOf E) T (bodyJ.drop 6) (dl ns k m Dy Db y1.ts (y1.ts.take n) Lp Lc (some (.im (.int (i : Int)))) (some (.im (.int g))) (some (.im (.str (txt tx)))) y12 y13 y14 y15) (om C C2 y1 n ps' cs Dy Db Lp Lc os) R := fun {ps' y12} v3 => by
    have shp := kps_shp v3.pks v3.sg
    refine sdF_if (sb := []) (ZT.f (PTd.zt (k := !(ps'.map Kp.d).isEmpty && decide (g / 64 % 3 > 0)) (PWd.pt (pw_andd (PTd.eq (pt_neL hr.units (shp.ok (by decide)) rfl (pl_var 7 mp) (PN.pd (pn_lst pds_nil))) (by rw [eqv_nil])) (fun _ => pw_and1d (pt_cmpd op_gt rd_B0 (pd_mod (by decide) (pd_fdiv (wide_div (b := 7) (by decide) (by decide) (by decide) (by decide)) (pd_var 10) pd_int) pd_int) pd_int (nomark _))))) ⟨fun hk => ?_, fun _ => sdF_nil (sdF_nil (hR _ _ _ _ _ _ _ _ _ _ v3))⟩))
    have ne : ps' ≠ [] := fun z => by
      rw [z] at hk
      cases hk
    have lcb : cs.length ≤ b + 1 := v.lc
    exact partT Ds LT hT hr v3 (by omega) lcb ne fun y' n' cs' y13 y14 v' ets => sdF_nil (hR _ _ _ _ _ _ _ _ _ _ v')
  by_cases hk : y1.known = y1.ts.length
  · have ep := Ty.pkt_none hk
    refine sd_ifF (pt_cmpd op_notN rd_notN0 (PD.eq (pd_var 12) ep) pd_non (nomark _)) (sd_nil (last v1))
  · have ep := Ty.pkt_some hk
    have v2 := v1.sent hk (by have := v.lp; omega)
    have pin := kp_in (y := y1) (by have := v1.kn; have := v1.le; omega)
    refine sd_ifT (pt_cmpd op_notN (rd_notN (da := y1.kp.d) (by intro z; cases z)) (PD.eq (pd_var 12) ep) pd_non (nomark _)) ?_
    refine sd_appS (j := 2) (xs := (ps.map Kp.d).map .im) (d := y1.kp.d) (ps1_var 7) rfl (PD.eq (pd_var 12) ep) ?_ (by rw [List.length_map, List.length_map]; have := v.lp; omega)
    have ef : (ps.map Kp.d).map Sd.im ++ [.im y1.kp.d] = ((ps ++ [y1.kp]).map Kp.d).map .im := by
      rw [List.map_append, List.map_append]
      rfl
    rw [ef]
    refine (show SD _ _ _ _ _ (om C C2 y1 n (ps ++ [y1.kp]) cs Dy Db Lp Lc os) _ from ?_)
    have ed : y1.pkt = .tuple [.int (y1.known : Int), .str (txt y1.kp.l)] := ep
    have shl : Shp 1 (.str (txt y1.kp.l)) := .str (key_str fun c hc => v1.sg c (List.drop_subset _ _ (List.take_subset _ _ (by rw [← pin.eq]; exact hc))))
    have cut : PyData.str (cutS (txt y1.ts) (some (y1.known : Int)) (some ((y1.known + 10 : Nat) : Int))) = .str (txt y1.kp.l) := by
      rw [cutS_mid _ (by rw [tl]; have := v1.kn; have := v1.le; omega)]
      rfl
    refine sd_ifZF (zt_cmp (op_neD hr.units) (PD.ze (pd_ixT (d := .str (txt y1.kp.l)) (PD.eq (pd_var 12) ed) pd_int rfl) (PD.ze (PD.eq (pd_slS (i := some (y1.known : Int)) (j := some ((y1.known + 10 : Nat) : Int)) (pd_var 5) ⟨_, rfl, pd_ixT (d := .int (y1.known : Int)) (PD.eq (pd_var 12) ed) pd_int rfl⟩ ⟨_, rfl, PD.eq (pd_add (pd_ixT (d := .int (y1.known : Int)) (PD.eq (pd_var 12) ed) pd_int rfl) pd_int) rfl⟩ (by rw [tl]; omega)) cut) ⟨false, rd_neS shl rfl, rfl, ?_⟩)) (nomark _))
    exact sd_nil (sd_nil (last v2))
set_option maxHeartbeats 16000000 in
/-- what is known behind i turns of the last loop -/
theorem endTurn {cdv : Value} {A : Around} {outer : List Env} {sh : Shared} {H0 : Hp} {E : XK} {T : List (Addr × Str)} {ns : List Int} (Ds : Defs θ P w K mg base C C2 CS)
    (hr : Room 6 (A.deeper (envOfC "law" (defScope s_law) sh.heap.objs.size f cdv))) {R : Out → Prop} {k m : Int} {i : Nat} {y : Ty} {n b : Nat} {ps : List Kp} {cs : List Nat} (v : St y n ps cs b) (hb : b ≤ 30) {Dy Db Lp Lc : Addr} {os : Os} {y9 y10 y11 y12 y13 y14 y15 : Option Sd}
    (hR : ∀ y' n' y12 y13, St y' n' ps cs b → y'.ts = y.ts → (y.known < y.ts.length → y.known < y'.known ∧ y'.known = n') → (y.known = y.ts.length → y' = y ∧ n' = n) → R (.nx (dl ns k m Dy Db y'.ts (y'.ts.take n') Lp Lc y9 y10 y11 y12 y13 y14 y15) (om C C2 y' n' ps cs Dy Db Lp Lc os))) :
    SDF θ (XL P w K mg base f cdv A outer sh H0 E) (WOf E) T bodyE (dl ns k m Dy Db y.ts (y.ts.take n) Lp Lc y9 y10 y11 y12 y13 y14 y15) (om C C2 y n ps cs Dy Db Lp Lc os) R := by
  have B := Ds.B
  have tl : ∀ l : List Nat, (txt l).length = l.length := txt_len
  have few := v.few
  have kn := v.kn
  have le := v.le
  have tk : L2N.Takes (XL P w K mg base f cdv A outer sh H0 E) (WOf E) := L2N.takes_of rfl rfl rfl rfl
  refine sdF_app (l1 := bodyE.take 1) (l2 := bodyE.drop 1) ?_
  refine sd_setZ 12 (YX.ze (yx_methG0 3 (yO C y Dy) (bO C2 n Db ++ rs ps cs Lp Lc os) Ds.tick (hr.mono (by decide)) takesF Ds.YC.cl (List.mem_append_left _ y_obj) (yF_no (by decide +kernel)) ⟨y, Dy, rfl, rfl, by omega, by omega, rfl⟩ (fun r os' hq => ?_))) sc_law.nd
  obtain ⟨rfl, rfl⟩ := hq
  refine sd_nil ?_
  refine (show SDF θ (XL P w K mg base f cdv A outer sh H0 E) (WOf E) T (bodyE.drop 1) (dl ns k m Dy Db y.ts (y.ts.take n) Lp Lc y9 y10 y11 (some (.im y.pkt)) y13 y14 y15) (om C C2 y n ps cs Dy Db Lp Lc os) R from ?_)
  by_cases hk : y.known = y.ts.length
  · have ep := Ty.pkt_none hk
    refine sdF_if (sb := []) (ZT.f (PTd.zt (pt_cmpd op_notN rd_notN0 (PD.eq (pd_var 12) ep) pd_non (nomark _)) ⟨(fun z => by cases z), fun _ => sdF_nil (sdF_nil (hR _ _ _ _ v rfl (fun z => by omega) fun _ => ⟨rfl, rfl⟩))⟩))
  · have ep := Ty.pkt_some hk
    have lt : y.known < y.ts.length := by omega
    have pin := kp_in lt
    obtain ⟨e1, e2, e3⟩ := new_of pin v.le
    have e3 := e3 kn
    have one := pin.one
    refine sdF_if (sb := []) (ZT.f (PTd.zt (pt_cmpd op_notN (rd_notN (da := y.kp.d) (by intro z; cases z)) (PD.eq (pd_var 12) ep) pd_non (nomark _)) ⟨fun _ => ?_, fun z => by cases z⟩))
    refine sdF_setX 13 (yxF_sec (yxF_methG 4 (bO C2 n Db) (yO C y Dy ++ rs ps cs Lp Lc os) Ds.took (hr.mono (by decide)) tk Ds.BC.cl (List.mem_append_left _ b_obj) (bF_no (by decide +kernel)) (pss1_cons (PD.ps1 (PD.eq (pd_var 12) ep)) pss1_nil) (Rr := fun r os' => r = .ok (.im (.tuple [.str (txt (newOf n y.kp.a y.kp.l)), .int ((n + (newOf n y.kp.a y.kp.l).length : Nat) : Int)])) ∧ os' = bO C2 (n + (newOf n y.kp.a y.kp.l).length) Db) ⟨n, Db, y.kp.d, rfl, rfl, fun a z e => ?_, .inl ⟨y.kp.a, y.kp.l, rfl, pin.ok v.sg, pin.ten, rfl⟩⟩ (fun r os' hq => ?_))) sc_law.nd
    · cases e
      rw [txt_len]
      exact Nat.le_trans pin.ten (by decide)
    obtain ⟨rfl, rfl⟩ := hq
    refine ⟨_, rfl, ?_⟩
    have ek : y.kp.a = y.known := rfl
    generalize eN : newOf n y.kp.a y.kp.l = new at e1 e2 e3
    have nl : new.length ≤ y.ts.length := by omega
    have ft : PyData.str (txt (y.ts.take n) ++ txt new) = .str (txt (y.ts.take (n + new.length))) := by rw [txt_app, e1]
    refine SD.f ?_
    refine sd_set 6 (PD.eq (pd_catS (pd_var 6) (pd_ixT (d := .str (txt new)) (pd_var 13) pd_int rfl) (by rw [tl, tl, List.length_take]; omega)) ft) ?_ sc_law.nd
    refine sd_exprX (YX.ex (yx_methG 3 (yO C y Dy) (bO C2 (n + new.length) Db ++ rs ps cs Lp Lc os) Ds.heard (hr.mono (by decide)) tk Ds.YC.cl (List.mem_append_left _ y_obj) (yF_no (by decide +kernel)) (pss1_cons (PD.ps1 (pd_ixT (d := .int ((n + new.length : Nat) : Int)) (pd_var 13) pd_int rfl)) pss1_nil) (Rr := fun r os' => r = .ok (.im .none) ∧ os' = yO C ⟨y.ts, max y.known (n + new.length)⟩ Dy) ⟨y, Dy, _, rfl, rfl, by omega, .inl ⟨n + new.length, rfl, e2, rfl⟩⟩ (Z := fun r ω' => r = .ok (.im .none) ∧ ω' = om C C2 ⟨y.ts, max y.known (n + new.length)⟩ (n + new.length) ps cs Dy Db Lp Lc os) (fun r os' hq => ?_)) fun r ω' hq => ?_)
    · obtain ⟨rfl, rfl⟩ := hq
      exact ⟨rfl, rfl⟩
    obtain ⟨rfl, rfl⟩ := hq
    have em : max y.known (n + new.length) = n + new.length := by omega
    rw [em]
    refine sd_nil (sdF_nil (hR ⟨y.ts, n + new.length⟩ (n + new.length) _ _ ⟨Nat.le_refl _, e2, v.few, v.pks, fun c hc => by have := v.co c hc; omega, v.sg, v.lp, v.lc⟩ rfl (fun _ => ⟨?_, rfl⟩) (fun z => absurd z hk)))
    show y.known < n + new.length
    omega
end
end K72

namespace K72
open PySem PySem.Spec PyProof.Rows L2 FP
section
variable {P : Program} {w : World} {K : PySem.W.Frag} {mg : Str → Option Value} {base : Heap} {f C C2 CS : Addr} {fd : FuncData} {θ : Nat}
theorem rangeD_at {n j : Nat} {d : PyData} (h : (rangeD 0 n)[j]? = some d) : j < n ∧ d = .int (j : Int) := by
  have hlt := (List.getElem?_eq_some_iff.mp h).1
  rw [rangeD_len] at hlt
  rw [rangeD_get hlt] at h
  cases h
  exact ⟨hlt, by rw [Int.zero_add]⟩
set_option maxHeartbeats 16000000 in
/-- the end of a cell -/
theorem partEnd {cdv : Value} {A : Around} {outer : List Env} {sh : Shared} {H0 : Hp} {E : XK} {T : List (Addr × Str)} {ns : List Int} (Ds : Defs θ P w K mg base C C2 CS)
    (hr : Room 6 (A.deeper (envOfC "law" (defScope s_law) sh.heap.objs.size f cdv))) {R : Out → Prop} {k m : Int} {y : Ty} {n b : Nat} {ps : List Kp} {cs : List Nat} (v : St y n ps cs b) (hb : b ≤ 30) (hf : y.known = y.ts.length) {Dy Db Lp Lc : Addr} {os : Os} {y9 y10 y11 y12 y13 y14 y15 : Option Sd}
    (hR : ∀ (ω : Om), ω.ps = [] → R (.nx (dl ns k m Dy Db y.ts (y.ts.take n) Lp Lc y9 y10 y11 y12 y13 y14 y15) ω)) :
    SD (XL P w K mg base f cdv A outer sh H0 E) (WOf E) T (bodyK.drop 5) (dl ns k m Dy Db y.ts (y.ts.take n) Lp Lc y9 y10 y11 y12 y13 y14 y15) (om C C2 y n ps cs Dy Db Lp Lc os) R := by
  have B := Ds.B
  have tl : ∀ l : List Nat, (txt l).length = l.length := txt_len
  have few := v.few
  have kn := v.kn
  have le := v.le
  have en : n = y.ts.length := by omega
  have et : y.ts.take n = y.ts := List.take_of_length_le (by omega)
  have shl : Shp 1 (.str (txt y.ts)) := .str (key_str v.sg)
  refine sd_ifZF (ZW.zt (zw_or (zt_cmp (op_neD hr.units) (PD.ze (PD.eq (pd_var 6) (by rw [et])) (PD.ze (pd_var 5) ⟨false, rd_neS (d := .str (txt y.ts)) shl rfl, (fun z => by cases z), fun _ => ?_⟩)) (nomark _))))
  refine zw_or (zt_cmp op_notN (YX.ze (yx_methG0 3 (yO C y Dy) (bO C2 n Db ++ rs ps cs Lp Lc os) Ds.tick (hr.mono (by decide)) takesF Ds.YC.cl (List.mem_append_left _ y_obj) (yF_no (by decide +kernel)) ⟨y, Dy, rfl, rfl, by omega, by omega, rfl⟩ (fun r os' hq => ?_))) (nomark _))
  obtain ⟨rfl, rfl⟩ := hq
  refine PD.ze pd_non ⟨_, by rw [Ty.pkt_none hf]; exact rd_notN0, (fun z => by cases z), fun _ => ?_⟩
  refine zw_or1 (zt_cmp op_ne (YX.ze (yx_methG0 3 (yO C y Dy) (bO C2 n Db ++ rs ps cs Lp Lc os) Ds.pressed (hr.mono (by decide)) takesF Ds.YC.cl (List.mem_append_left _ y_obj) (yF_no (by decide +kernel)) ⟨y, Dy, rfl, rfl, by omega, rfl⟩ (fun r os' hq => ?_))) (nomark _))
  obtain ⟨rfl, rfl⟩ := hq
  refine PD.ze (pd_lenS B.len (pd_var 5) (by rw [tl]; omega)) ⟨_, rd_neI, ?_⟩
  rw [tl, decide_eq_true rfl]
  exact ⟨rfl, sd_nil (hR _ rfl)⟩
set_option maxHeartbeats 16000000 in
theorem law_body {cdv : Value} {A : Around} {outer : List Env} {sh : Shared} {H0 : Hp} {E : XK} {T : List (Addr × Str)} {ns : List Int} (Ds : Defs θ P w K mg base C C2 CS) (LT : LamT (XL P w K mg base f cdv A outer sh H0 E) T) (hT : T ≠ [])
    (hr : Room 6 (A.deeper (envOfC "law" (defScope s_law) sh.heap.objs.size f cdv))) (hn : ns.length ≤ 63) :
    SDF θ (cxOf (L2N.CX P w) P w K mg base NL "law" (defScope s_law) f cdv A outer sh H0 E) (WOf E) T (defBody s_law) (startD NL [.list (ns.map .int)]) ⟨[], []⟩ FinT := by
  have B := Ds.B
  have hr1 : Room 1 (A.deeper (envOfC "law" (defScope s_law) sh.heap.objs.size f cdv)) := hr.mono (by decide)
  have tl : ∀ l : List Nat, (txt l).length = l.length := txt_len
  refine sdF_for 1 (items := rangeD 0 ((if (if ((ns.map PyData.int).length : Int) < 3 then ((ns.map PyData.int).length : Int) else 3) > 1 then (if ((ns.map PyData.int).length : Int) < 3 then ((ns.map PyData.int).length : Int) else 3) else 1) : Int).toNat)
    (fun i δ' ω' => ω'.ps = [] ∧ ∃ y1 y2 y3 y4 y5 y6 y7 y8 y9 y10 y11 y12 y13 y14 y15, δ' = [some (.im (.list (ns.map .int))), y1, y2, y3, y4, y5, y6, y7, y8, y9, y10, y11, y12, y13, y14, y15])
    (wk_range1 B.range (pd_max rfl B.max pd_int (pd_min rfl B.min pd_int (pd_lenL B.len (PD.pl (pd_var 0))))) ?_) ⟨rfl, _, _, _, _, _, _, _, _, _, _, _, _, _, _, _, rfl⟩ ?_ ?_ (pg_name sc_law.nd rfl (Or.inl rfl)) (passes_of rfl) rfl
  · split <;> (try split) <;> omega
  · rintro k d δ' ⟨pss, os⟩ hd ⟨hps, y1, y2, y3, y4, y5, y6, y7, y8, y9, y10, y11, y12, y13, y14, y15, rfl⟩
    have hps : pss = [] := hps
    subst hps
    have hk4 : k < 5 ∧ d = .int (k : Int) := by
      have hlt := (List.getElem?_eq_some_iff.mp hd).1
      rw [rangeD_len] at hlt
      rw [rangeD_get hlt] at hd
      cases hd
      refine ⟨?_, by rw [Int.zero_add]⟩
      revert hlt
      split <;> (try split) <;> omega
    obtain ⟨hk4, rfl⟩ := hk4
    refine sdF_app (l1 := bodyK.take 3) (l2 := bodyK.drop 3) ?_
    refine sd_set 2 (pd_call Ds.drawn hr1 (pds_cons (pd_call Ds.cell hr1 (pds_cons (pd_var 0) (pds_cons (pd_var 1) pds_nil)) ⟨ns, k, rfl, hn, by omega, rfl⟩) (pds_cons (pd_var 1) pds_nil)) ⟨_, _, rfl, rfl⟩) ?_ sc_law.nd
    generalize drawn (cellAt ns k) (k : Int) = m
    obtain ⟨g1, fd1, ps1, M1, F1, b1⟩ := Ds.mky
    obtain ⟨g2, fd2, ps2, M2, F2, b2⟩ := Ds.mkb
    refine sd_unpX (n := 2) [3, 4] (ax_nw (nw_make0 M1 F1 b1 (hr.mono (by decide)) Ds.cls ⟨rfl, rfl, rfl, rfl⟩) fun Dy => ax_nw (nw_make0 M2 F2 b2 (hr.mono (by decide)) Ds.clsb ⟨rfl, rfl, rfl, rfl⟩) fun Db => ax_nil ⟨rfl, ?_⟩) (pg_tup rfl (pgs_cons (pg_name sc_law.nd rfl (Or.inr rfl)) (pgs_cons (pg_name sc_law.nd rfl (Or.inr rfl)) pgs_nil))) rfl
    refine sd_unpX (n := 4) [5, 6, 7, 8] (ax_pd (d := .str (txt [])) (PD.eq pd_str (by rw [emp_is])) (ax_pd (d := .str (txt [])) (PD.eq pd_str (by rw [emp_is])) (ax_nw (PN.nw (pn_lst pds_nil)) fun Lp => ax_nw (PN.nw (pn_lst (pds_cons pd_int pds_nil))) fun Lc => ax_nil ⟨rfl, ?_⟩))) (pg_tup rfl (pgs_cons (pg_name sc_law.nd rfl (Or.inl rfl)) (pgs_cons (pg_name sc_law.nd rfl (Or.inl rfl)) (pgs_cons (pg_name sc_law.nd rfl (Or.inr rfl)) (pgs_cons (pg_name sc_law.nd rfl (Or.inl rfl)) pgs_nil))))) rfl
    refine sd_perm (os' := (om C C2 ⟨[], 0⟩ 0 [] [0] Dy Db Lp Lc os).os) ?pm (sd_nil ?_)
    case pm =>
      refine List.Perm.trans (List.Perm.swap _ _ _) ?_
      show (((Lp, _) :: (Lc, _) :: (Db, _) :: (Dy, _) :: os : Os)).Perm ((Dy, _) :: (Db, _) :: (Lp, _) :: (Lc, _) :: os)
      exact (List.Perm.cons _ (List.Perm.cons _ (List.Perm.swap _ _ _))).trans ((List.perm_middle (l₁ := [(Lp, _), (Lc, _)]) (a := (Dy, _))).trans (List.Perm.cons _ (List.perm_middle (l₁ := [(Lp, _), (Lc, _)]) (a := (Db, _)))))
    obtain ⟨n3, e3, l3⟩ := mod_nat (m / 64) 9 (by decide)
    refine sdF_for 9 (items := rangeD 0 (4 + (n3 : Int)).toNat) (fun i δ' ω' => ∃ y n ps cs y9 y10 y11 y12 y13 y14 y15, St y n ps cs i ∧ ω' = om C C2 y n ps cs Dy Db Lp Lc os ∧ δ' = dl ns k m Dy Db y.ts (y.ts.take n) Lp Lc y9 y10 y11 y12 y13 y14 y15)
      (wk_range1 (j := 4 + (n3 : Int)) B.range (pd_add pd_int (PD.eq (pd_mod (by decide) (pd_fdiv (wide_div (b := 7) (by decide) (by decide) (by decide) (by decide)) (pd_var 2) pd_int) pd_int) (congrArg PyData.int e3))) (by omega))
      ⟨⟨[], 0⟩, 0, [], [0], _, _, _, _, _, _, _, ⟨Nat.le_refl _, Nat.le_refl _, Nat.le_refl _, (fun p hp => nomatch hp), (fun c hc => by rw [List.mem_singleton.mp hc]; exact Nat.le_refl _), (fun c hc => nomatch hc), Nat.le_refl _, Nat.le_refl _⟩, rfl, rfl⟩ ?_ ?_ (pg_name sc_law.nd rfl (Or.inl rfl)) (passes_of rfl) rfl
    · rintro i d δ' ω' hd ⟨y, n, ps, cs, y9, y10, y11, y12, y13, y14, y15, v, rfl, rfl⟩
      obtain ⟨hj, rfl⟩ := rangeD_at hd
      have hj : i < 12 := Nat.lt_of_lt_of_le hj (show (4 + (n3 : Int)).toNat ≤ 12 by omega)
      exact turn (i := i) Ds LT hT hr v (by omega) fun y' n' ps' cs' y10 y11 y12 y13 y14 y15 v' => ⟨y', n', ps', cs', _, y10, y11, y12, y13, y14, y15, v', rfl, rfl⟩
    · rintro δ' ω' ⟨y, n, ps, cs, y9, y10, y11, y12, y13, y14, y15, v, rfl, rfl⟩
      have lb : (rangeD 0 (4 + (n3 : Int)).toNat).length ≤ 12 := by
        rw [rangeD_len]
        omega
      generalize (rangeD 0 (4 + (n3 : Int)).toNat).length = b at v lb
      have few := v.few
      refine (show SDF θ (XL P w K mg base f cdv A outer sh H0 E) (WOf E) T (bodyK.drop 4) _ _ _ from ?_)
      refine sdF_for 9 (items := rangeD 0 ((y.ts.length : Int) + 2).toNat) (fun i δ' ω' => ∃ y' n' y9 y12 y13, St y' n' ps cs b ∧ y'.ts = y.ts ∧ min i y.ts.length ≤ y'.known ∧ ω' = om C C2 y' n' ps cs Dy Db Lp Lc os ∧ δ' = dl ns k m Dy Db y'.ts (y'.ts.take n') Lp Lc y9 y10 y11 y12 y13 y14 y15)
        (wk_range1 (j := (y.ts.length : Int) + 2) B.range (pd_add (PD.eq (pd_lenS B.len (pd_var 5) (by rw [tl]; omega)) (by rw [tl])) pd_int) (by omega))
        ⟨y, n, _, _, _, v, rfl, by omega, rfl, rfl⟩ ?_ ?_ (pg_name sc_law.nd rfl (Or.inl rfl)) (passes_of rfl) rfl
      · rintro i d δ' ω' hd ⟨y', n', y9, y12, y13, v', et, hi, rfl, rfl⟩
        obtain ⟨hj, rfl⟩ := rangeD_at hd
        have kn := v'.kn
        have le := v'.le
        rw [et] at le
        refine endTurn (i := i) Ds hr v' (by omega) fun y2 n2 y12 y13 v2 et2 h1 h2 => ?_
        refine ⟨y2, n2, _, y12, y13, v2, et2.trans et, ?_, rfl, rfl⟩
        rw [et] at h1 h2
        by_cases q : y'.known < y.ts.length
        · have := (h1 q).1
          omega
        · obtain ⟨rfl, _⟩ := h2 (by omega)
          omega
      · rintro δ' ω' ⟨y', n', y9, y12, y13, v', et, hi, rfl, rfl⟩
        have kn := v'.kn
        have le := v'.le
        rw [rangeD_len] at hi
        rw [et] at le
        refine SD.f (partEnd Ds hr v' (by omega) (by rw [et]; omega) fun ω hω => ⟨hω, _, _, _, _, _, _, _, _, _, _, _, _, _, _, _, rfl⟩)
  · rintro δ' ω' ⟨hps, y1, y2, y3, y4, y5, y6, y7, y8, y9, y10, y11, y12, y13, y14, y15, rfl⟩
    exact SD.f (sd_ret pd_bl rfl)
end
end K72

namespace K72
open PySem PySem.Spec PyProof.Rows L2 FP
theorem facts {l : PySem.W.OpenLaw} {w : World} {K : PySem.W.Frag} {h : Heap} {mg : Str → Option Value} {f : Addr} (KX : K.In h) (G : h.Ns mainGlobals mg) (hfa : mg ("law" : Str) = some (.ref f)) (c : He.SaysX fa fn ts tf ex w h K) :
    LawF 388 l w K 7 63 "_law_script" mg f h := by
  have cd := c.t.d
  have gl : ∀ x, He.Fa.glo x ∈ fa → mg x = some (.ref (He.ga K x)) := fun x hx => He.glo_ok KX G (cd.facts hx)
  have fr : ∀ x, He.Fa.free x ∈ fa → mg x = none := fun x hx => He.free_ok KX G (cd.facts hx)
  have df : ∀ (x : Str) (st : Stmt), dOf x st ∈ fn → ∃ fd, Df K x st (He.ga K x) fd := fun x st hx => cd.defs hx
  obtain ⟨x0, cm⟩ := He.ba c.more
  obtain ⟨x1, cm⟩ := He.ba cm
  have x2 := cm
  have B : Bl mg := ⟨fr _ (fam (by decide +kernel)), fr _ (fam (by decide +kernel)), fr _ (fam (by decide +kernel)), fr _ (fam (by decide +kernel)), fr _ (fam (by decide +kernel)), fr _ (fam (by decide +kernel)), fr _ (fam (by decide +kernel)), fr _ (fam (by decide +kernel)), fr _ (fam (by decide +kernel)), fr _ (fam (by decide +kernel)), fr _ (fam (by decide +kernel))⟩
  have dm_Typer : ∀ (m q : Str) (st : Stmt), (⟨("Typer", some m), m, q, defArgs st, defBody st, defScope st, [], []⟩ : He.DefD) ∈ fn → ∃ fd, Dm K m q st (He.ma K (He.ga K "Typer") m) fd := fun m q st hx => cd.defs hx
  have me_Typer : ∀ m, He.Fa.meth "Typer" m ∈ fa → Meth K (He.ga K "Typer") m (He.ma K (He.ga K "Typer") m) := fun m hx => He.meth_ok (cd.facts hx)
  have na_Typer : ∀ m, He.Fa.noat "Typer" m ∈ fa → NoAttr K (He.ga K "Typer") m := fun m hx => He.noat_ok (cd.facts hx)
  have MK_Typer : Mk K (He.ga K "Typer") (He.ma K (He.ga K "Typer") "__init__") := He.mkr_ok (cd.facts (fam (by decide +kernel)))
  have dm_Board : ∀ (m q : Str) (st : Stmt), (⟨("Board", some m), m, q, defArgs st, defBody st, defScope st, [], []⟩ : He.DefD) ∈ fn → ∃ fd, Dm K m q st (He.ma K (He.ga K "Board") m) fd := fun m q st hx => cd.defs hx
  have me_Board : ∀ m, He.Fa.meth "Board" m ∈ fa → Meth K (He.ga K "Board") m (He.ma K (He.ga K "Board") m) := fun m hx => He.meth_ok (cd.facts hx)
  have na_Board : ∀ m, He.Fa.noat "Board" m ∈ fa → NoAttr K (He.ga K "Board") m := fun m hx => He.noat_ok (cd.facts hx)
  have MK_Board : Mk K (He.ga K "Board") (He.ma K (He.ga K "Board") "__init__") := He.mkr_ok (cd.facts (fam (by decide +kernel)))
  have YC : TyC K (He.ga K "Typer") := ⟨He.cls_ok (cd.facts (fam (by decide +kernel))), na_Typer _ (fam (by decide +kernel)), na_Typer _ (fam (by decide +kernel))⟩
  have BC : BoC K (He.ga K "Board") := ⟨He.cls_ok (cd.facts (fam (by decide +kernel))), na_Board _ (fam (by decide +kernel))⟩
  have GT : GlT mg "LINE_END" "\n" 388 := tokB_ok KX G x0
  have i_PERCENT : GlD K mg "PERCENT" (.int 37) := gld_int KX G (cd.facts (fam (by decide +kernel)))
  have X_BadPacket : ExcF K mg "BadPacket" (He.ga K "BadPacket") := exc_of KX G (cd.facts (fam (by decide +kernel))) (cd.facts (fam (by decide +kernel)))
  have i_MOST_KEYS_SENT : GlD K mg "MOST_KEYS_SENT" (.int 10) := gld_int KX G (cd.facts (fam (by decide +kernel)))
  refine law_atF KX G hfa c (params := defArgs s_law) (body := defBody s_law) (scope := defScope s_law) (fnm 10 rfl) (fam (by decide +kernel)) sc_law (fun _ _ _ _ _ _ us hl => match us, hl with | [_], _ => rfl) (fun base hB hN T cdv A outer s H E ns hT L hr h1 h2 => ?_)
  obtain ⟨_, F_is_whole⟩ := df "is_whole" s_is_whole (fnm 0 rfl)
  have G_whole := ok_whole (P := l.prog) (w := w) (mg := mg) (base := base) F_is_whole (gl _ (fam (by decide +kernel))) B
  obtain ⟨_, F_is_within⟩ := df "is_within" s_is_within (fnm 1 rfl)
  have G_within := ok_within (P := l.prog) (w := w) (mg := mg) (base := base) F_is_within (gl _ (fam (by decide +kernel))) G_whole
  obtain ⟨_, F_is_tuple_of⟩ := df "is_tuple_of" s_is_tuple_of (fnm 2 rfl)
  have G_tupleof := ok_tupleof (P := l.prog) (w := w) (mg := mg) (base := base) F_is_tuple_of (gl _ (fam (by decide +kernel))) B
  obtain ⟨_, F_are_signs⟩ := df "are_signs" s_are_signs (fnm 3 rfl)
  have G_signs := ok_signs (P := l.prog) (w := w) (mg := mg) (base := base) F_are_signs (gl _ (fam (by decide +kernel))) B i_PERCENT
  obtain ⟨_, F__law_cell⟩ := df "_law_cell" s__law_cell (fnm 6 rfl)
  have G_lcell := ok_lcell (P := l.prog) (w := w) (mg := mg) (base := base) F__law_cell (gl _ (fam (by decide +kernel))) B
  obtain ⟨_, F__law_drawn⟩ := df "_law_drawn" s__law_drawn (fnm 7 rfl)
  have G_drawn := ok_drawn (P := l.prog) (w := w) (mg := mg) (base := base) F__law_drawn (gl _ (fam (by decide +kernel)))
  obtain ⟨_, F_are_keys⟩ := df "are_keys" s_are_keys (fnm 4 rfl)
  have G_keys := ok_keys (P := l.prog) (w := w) (mg := mg) (base := base) F_are_keys (gl _ (fam (by decide +kernel))) B GT G_signs
  obtain ⟨_, F_need_keys_packet⟩ := df "need_keys_packet" s_need_keys_packet (fnm 5 rfl)
  have G_nk := ok_nk (P := l.prog) (w := w) (mg := mg) (base := base) F_need_keys_packet (gl _ (fam (by decide +kernel))) B X_BadPacket i_MOST_KEYS_SENT G_tupleof G_whole G_keys
  obtain ⟨_, M_Typer___init__⟩ := dm_Typer "__init__" "Typer.__init__" s_Typer___init__ (fnm 11 rfl)
  have G_yi := ok_yi (P := l.prog) (w := w) (mg := mg) (base := base) M_Typer___init__ ⟨MK_Typer.init, MK_Typer.fn, M_Typer___init__.kp⟩ YC
  obtain ⟨_, M_Board___init__⟩ := dm_Board "__init__" "Board.__init__" s_Board___init__ (fnm 16 rfl)
  have G_bi := ok_bi (P := l.prog) (w := w) (mg := mg) (base := base) M_Board___init__ ⟨MK_Board.init, MK_Board.fn, M_Board___init__.kp⟩ BC
  obtain ⟨_, M_Typer_press⟩ := dm_Typer "press" "Typer.press" s_Typer_press (fnm 12 rfl)
  have G_press := ok_press (P := l.prog) (w := w) (mg := mg) (base := base) M_Typer_press (me_Typer _ (fam (by decide +kernel))) YC X_BadPacket G_keys
  obtain ⟨_, M_Typer_tick⟩ := dm_Typer "tick" "Typer.tick" s_Typer_tick (fnm 13 rfl)
  have G_ytick := ok_ytick (P := l.prog) (w := w) (mg := mg) (base := base) M_Typer_tick (me_Typer _ (fam (by decide +kernel))) YC B i_MOST_KEYS_SENT
  obtain ⟨_, M_Typer_heard⟩ := dm_Typer "heard" "Typer.heard" s_Typer_heard (fnm 14 rfl)
  have G_yheard := ok_yheard (P := l.prog) (w := w) (mg := mg) (base := base) M_Typer_heard (me_Typer _ (fam (by decide +kernel))) YC B X_BadPacket G_within
  obtain ⟨_, M_Typer_pressed⟩ := dm_Typer "pressed" "Typer.pressed" s_Typer_pressed (fnm 15 rfl)
  have G_pressed := ok_pressed (P := l.prog) (w := w) (mg := mg) (base := base) M_Typer_pressed (me_Typer _ (fam (by decide +kernel))) YC B
  obtain ⟨_, M_Board_took⟩ := dm_Board "took" "Board.took" s_Board_took (fnm 17 rfl)
  have G_btook := ok_btook (P := l.prog) (w := w) (mg := mg) (base := base) M_Board_took (me_Board _ (fam (by decide +kernel))) BC B G_nk
  obtain ⟨ec_BadPacket, ka_BadPacket, kv_BadPacket⟩ := wordB_ok x1
  obtain ⟨_, F__law_word⟩ := df "_law_word" s__law_word (fnm 8 rfl)
  obtain ⟨_, F__law_told⟩ := df "_law_told" s__law_told (fnm 9 rfl)
  have WD := fun (k : Nat) (hk : 1 ≤ k) => word_mono (ok_word (P := l.prog) (w := w) (base := base) F__law_word (gl _ (fam (by decide +kernel))) B.isi B.int (fr _ (fam (by decide +kernel))) (fr _ (fam (by decide +kernel))) (fun c hc => by
    simp only [List.mem_cons, List.not_mem_nil, or_false] at hc
    rcases hc with rfl | rfl | rfl | rfl | rfl | rfl | rfl | rfl | rfl <;> exact gl _ (fam (by decide +kernel))) ⟨ec_BadPacket, ka_BadPacket, kv_BadPacket⟩) hk
  have mk1 : ∃ g fd ps, Mk K (He.ga K "Typer") g ∧ FnOk l.prog w K mg base (L2N.CX l.prog w) 1 g fd ps (spW K (He.ga K "Typer") frYI) ∧ L2.Binds K fd ps [] := by
    obtain ⟨g, fd, ps, FI, M, b⟩ := G_yi.ex
    have e := M.at_.symm.trans MK_Typer.init
    cases e
    exact ⟨_, fd, ps, MK_Typer, FI, b⟩
  have mk2 : ∃ g fd ps, Mk K (He.ga K "Board") g ∧ FnOk l.prog w K mg base (L2N.CX l.prog w) 1 g fd ps (spW K (He.ga K "Board") frBI) ∧ L2.Binds K fd ps [] := by
    obtain ⟨g, fd, ps, FI, M, b⟩ := G_bi.ex
    have e := M.at_.symm.trans MK_Board.init
    cases e
    exact ⟨_, fd, ps, MK_Board, FI, b⟩
  exact law_body (CS := He.ga K "ScreenError") ⟨B, (G_lcell.mono (by decide)), (G_drawn.mono (by decide)), mk1, (gl _ (fam (by decide +kernel))), YC, (G_press.mono (by decide)), (G_ytick.mono (by decide)), (G_yheard.mono (by decide)), (G_pressed.mono (by decide)), mk2, (gl _ (fam (by decide +kernel))), BC, (G_btook.mono (by decide)), ⟨_, _, F__law_told, gl _ (fam (by decide +kernel))⟩, (WD _ (by decide)), (gl _ (fam (by decide +kernel)))⟩ L hT hr h1
end K72
open PySem PySem.W PySem.Calls PyProof.Rows
set_option maxRecDepth 100000 in
set_option maxHeartbeats 0 in
theorem PySem.Challenge.cw_farpanes_k72_whole_keys_lost_holds : PySem.Challenge.rw_farpanes_k72_whole_keys_lost.Holds := by
  w_on; o_law
  refine FP.law_tok (l := PySem.Challenge.rw_farpanes_k72_whole_keys_lost) (n := 63) (θ := 388) (q := view (OpenLaw.row PySem.Challenge.rw_farpanes_k72_whole_keys_lost).prog [29]) (H := K72.hk) (ob := K72.ob) (M := 8000) (loose := K72.loose) (d := HandSHeadRun.topDef (OpenLaw.row PySem.Challenge.rw_farpanes_k72_whole_keys_lost).prog 29) K72.ob_eq
    (by kernel_rfl) (fun s => by kernel_rfl) K72.run (by kernel_rfl) (by kernel_rfl) (by kernel_rfl) (by rfl) (by first | assumption | decide +kernel) (by decide +kernel) ⟨rfl, rfl, rfl, rfl, rfl, by decide +kernel⟩ ?hw rfl (by kernel_rfl) (fun w s e => FP.hookT_tok w s e) ?hc
  case hw => w_witness2
  case hc =>
    refine FP.law_run (k := 7) (x := "_law_script") (by decide) ⟨rfl, by decide, by decide⟩ ?F
    intro w mg fa h Y G hmg0
    obtain ⟨K, KX, c⟩ := Y
    have hmg : mg ("law" : PySem.Str) = some (.ref fa) := by
      have e : (HandSHeadRun.topDef (OpenLaw.row PySem.Challenge.rw_farpanes_k72_whole_keys_lost).prog 29).name = ("law" : PySem.Str) := by kernel_rfl
      rw [← e]
      exact hmg0
    exact ⟨K, KX, K72.facts KX G hmg c⟩

