import PyProof.Rows.All
import Wide.All
import OpenK.AllK
import Wide.FinOn
import HandS.ForMost
import HandS.ForExc
import HandS.Lambda
import HandS.EndTab
import HandS.HeadWalk
import HandS.HeadHook4
import HandS.Head2
import HandS.IsInst
import HandS.TupMul
import HandS.TupAny
import HandS.Wide
import HandS.ExcCtx
import HandS.HotCalls
import HandS.ExcIs
import PyProof.SumAny
import PyProof.RulesMatchSeq
import PyProof.Rows.MatchSeqLen
import HandS.More
import HandS.Zip
import PyProof.Rows.SeqMore
import HandS.Flow
import HandS.StrMore
import HandS.Text
import HandS.Iter
import PyProof.Rows.ChunkEnd
import HandS.Dict
import HandS.Style
import HandS.Small
import PyProof.Draws
import KE.GoesMore
import HandS.TupLe
import HandS.SetFor
import KE.KMinKey
import HandS.SortKw
import KE.KSortKeySt
import HandS.Conv
import KE.GoesZip
import KE.GoesEnum
import KE.KItemsList
import HandS.Deep
import HandS.DictComp
import HandS.WordsDict
import HandS.SetKeys
import KE.DataMinMax
import KE.IntTextLaws
import HandS.FStr
import HandS.Star
import HandS.NoneIn
import PyProof.StrLawsFrom
import HandS.ReplaceDef
import HandS.ReplaceLit
import PyProof.DictUpdate
import HandS.SuiteRaise
import HandS.Flt
import HandS.RaiseFrom
import PySem.Challenge.RW_farpanes_k93_films_refused
set_option Elab.async false
set_option linter.all false
set_option maxRecDepth 100000
set_option maxHeartbeats 4000000
set_option autoImplicit false
namespace FP
open PySem PySem.Spec PyProof.Rows L2

def hid (ps : List Addr) (H : Hp) : Hp := fun b => if b ∈ ps then none else H b
theorem hid_of {ps : List Addr} {H : Hp} {b : Addr} {o : HO} (n : b ∉ ps) (h : H b = some o) : hid ps H b = some o := by
  unfold hid
  rw [if_neg n]
  exact h
theorem hid_out {ps : List Addr} {H : Hp} {b : Addr} {o : HO} (h : hid ps H b = some o) : b ∉ ps ∧ H b = some o := by
  unfold hid at h
  by_cases c : b ∈ ps
  · rw [if_pos c] at h
    cases h
  · rw [if_neg c] at h
    exact ⟨c, h⟩
theorem hid_sub {ps : List Addr} {H : Hp} : Same (hid ps H) H := fun _ _ h => (hid_out h).2
theorem hid_same {ps : List Addr} {H H' : Hp} (e : Same H H') : Same (hid ps H) (hid ps H') := fun _ _ h => hid_of (hid_out h).1 (e _ _ (hid_out h).2)
theorem hid_nil {H : Hp} : hid [] H = H := by
  funext b
  unfold hid
  rw [if_neg (by simp)]
theorem same_new {H : Hp} {p : Addr} {o : HO} (h : H p = none) : Same H (upd H p o) := fun b x e => by
  rw [upd_ne (ne_of_none e h)]
  exact e
theorem same_sqt {K : PySem.W.Frag} {H H' : Hp} {a : Addr} {xs : List V} (e : Same H H') (h : SqT K H a xs) : SqT K H' a xs := by
  rcases h with (h | ⟨o, h⟩) | h
  · exact .inl (.inl (e _ _ h))
  · exact .inl (.inr ⟨o, e _ _ h⟩)
  · exact .inr h
mutual
theorem dp_mono {K : PySem.W.Frag} {H H' : Hp} (e : Same H H') : ∀ (d : PyData) (v : V), Dp K H v d → Dp K H' v d
  | .none, _, h => by
    cases h
    exact .non
  | .bool b, _, h => by
    cases h
    exact .bl b
  | .int i, _, h => by
    cases h
    exact .int i
  | .str x, _, h => by
    cases h
    exact .str x
  | .list ds, _, h => by
    cases h with
    | lst hs ha => exact .lst (e.seq hs) (dpa_mono e ds _ ha)
  | .tuple ds, _, h => by
    cases h with
    | tup hs ha => exact .tup (same_sqt e hs) (dpa_mono e ds _ ha)
  | .dict kvs, _, h => by cases h
theorem dpa_mono {K : PySem.W.Frag} {H H' : Hp} (e : Same H H') : ∀ (ds : List PyData) (vs : List V), DpAll K H vs ds → DpAll K H' vs ds
  | [], _, h => by
    cases h
    exact .nil
  | d :: ds, _, h => by
    cases h with
    | cons a b => exact .cons (dp_mono e d _ a) (dpa_mono e ds _ b)
end
theorem dpm {K : PySem.W.Frag} {H H' : Hp} (e : Same H H') {d : PyData} {v : V} (h : Dp K H v d) : Dp K H' v d := dp_mono e d v h
theorem dpam {K : PySem.W.Frag} {H H' : Hp} (e : Same H H') {ds : List PyData} {vs : List V} (h : DpAll K H vs ds) : DpAll K H' vs ds := dpa_mono e ds vs h
theorem dpa_len {K : PySem.W.Frag} {H : Hp} : ∀ {ds : List PyData} {vs : List V}, DpAll K H vs ds → vs.length = ds.length
  | [], _, .nil => rfl
  | _ :: _, _, .cons _ t => by rw [List.length_cons, List.length_cons, dpa_len t]
theorem dpa_get {K : PySem.W.Frag} {H : Hp} : ∀ {ds : List PyData} {vs : List V} {i : Nat} {d : PyData}, DpAll K H vs ds → ds[i]? = some d → ∃ v, vs[i]? = some v ∧ Dp K H v d
  | [], _, _, _, .nil, h => by simp at h
  | _ :: _, _ :: _, 0, _, .cons a _, h => by
    simp at h
    subst h
    exact ⟨_, rfl, a⟩
  | _ :: ds, _ :: vs, i + 1, d, .cons _ t, h => by
    obtain ⟨v, h1, h2⟩ := dpa_get (i := i) (d := d) t (by simpa using h)
    exact ⟨v, by simpa using h1, h2⟩
theorem dpa_get' {K : PySem.W.Frag} {H : Hp} : ∀ {ds : List PyData} {vs : List V} {i : Nat} {v : V}, DpAll K H vs ds → vs[i]? = some v → ∃ d, ds[i]? = some d ∧ Dp K H v d
  | [], _, _, _, .nil, h => by simp at h
  | _ :: _, _ :: _, 0, _, .cons a _, h => by
    simp at h
    subst h
    exact ⟨_, rfl, a⟩
  | _ :: ds, _ :: vs, i + 1, v, .cons _ t, h => by
    obtain ⟨d, h1, h2⟩ := dpa_get' (i := i) (v := v) t (by simpa using h)
    exact ⟨d, by simpa using h1, h2⟩
theorem dpa_app {K : PySem.W.Frag} {H : Hp} : ∀ {ds es : List PyData} {vs us : List V}, DpAll K H vs ds → DpAll K H us es → DpAll K H (vs ++ us) (ds ++ es)
  | _, _, _, _, .nil, h => h
  | _, _, _, _, .cons a t, h => .cons a (dpa_app t h)
theorem dpa_take {K : PySem.W.Frag} {H : Hp} : ∀ (n : Nat) {ds : List PyData} {vs : List V}, DpAll K H vs ds → DpAll K H (vs.take n) (ds.take n)
  | 0, _, _, _ => .nil
  | _ + 1, _, _, .nil => .nil
  | n + 1, _, _, .cons a t => .cons a (dpa_take n t)
theorem dpa_drop {K : PySem.W.Frag} {H : Hp} : ∀ (n : Nat) {ds : List PyData} {vs : List V}, DpAll K H vs ds → DpAll K H (vs.drop n) (ds.drop n)
  | 0, _, _, h => h
  | _ + 1, _, _, .nil => .nil
  | n + 1, _, _, .cons _ t => dpa_drop n t
theorem dpa_rep {K : PySem.W.Frag} {H : Hp} {ds : List PyData} {vs : List V} (h : DpAll K H vs ds) : ∀ n : Nat, DpAll K H (List.replicate n vs).flatten (List.replicate n ds).flatten
  | 0 => .nil
  | n + 1 => by
    rw [List.replicate_succ, List.replicate_succ, List.flatten_cons, List.flatten_cons]
    exact dpa_app h (dpa_rep h n)

theorem hid_more {ps qs : List Addr} {H : Hp} (h : ∀ b, b ∈ ps → b ∈ qs) : Same (hid qs H) (hid ps H) := fun b o e => by
  obtain ⟨n, e2⟩ := hid_out e
  exact hid_of (fun z => n (h b z)) e2
theorem hid_cons {p : Addr} {ps : List Addr} {H : Hp} : Same (hid (p :: ps) H) (hid ps H) := hid_more fun _ h => List.mem_cons_of_mem _ h
theorem hid_new {p : Addr} {ps : List Addr} {G H : Hp} (hp : G p = none) (e : Same G H) : Same (hid ps G) (hid (p :: ps) H) := fun b o h => by
  obtain ⟨n, e2⟩ := hid_out h
  refine hid_of (fun z => ?_) (e b o e2)
  rcases List.mem_cons.mp z with q | q
  · rw [q, hp] at e2
    cases e2
  · exact n q
inductive Sd where
  | im (d : PyData)
  | ad (a : Addr)
inductive Od where
  | lst (xs : List Sd)
  | ins (C : Addr) (fs : List (Str × Sd))
  | dct (kvs : List (Key × Sd))
  | tup (xs : List Sd)
abbrev De := List (Option Sd)
/-- ps: what the caller keeps for himself; os: objects of one's own -/
structure Om where
  ps : List Addr
  os : List (Addr × Od)
def ads (ω : Om) : List Addr := ω.ps ++ ω.os.map (·.1)
def SdV (K : PySem.W.Frag) (H : Hp) : Sd → V → Prop
  | .im d, v => Dp K H v d
  | .ad a, v => v = .ref a
theorem sdv_mono {K : PySem.W.Frag} {H H' : Hp} (e : Same H H') : ∀ {r : Sd} {v : V}, SdV K H r v → SdV K H' r v
  | .im _, _, h => dpm e h
  | .ad _, _, h => h
theorem dpa_im {K : PySem.W.Frag} {H : Hp} : ∀ {xs : List PyData} {vs : List V}, Paired (SdV K H) (xs.map .im) vs → DpAll K H vs xs
  | [], _, h => by
    cases h
    exact .nil
  | x :: xs, _, h => by
    cases h with
    | cons a b => exact .cons a (dpa_im b)
theorem im_dpa {K : PySem.W.Frag} {H : Hp} : ∀ {xs : List PyData} {vs : List V}, DpAll K H vs xs → Paired (SdV K H) (xs.map .im) vs
  | _, _, .nil => .nil
  | _, _, .cons a b => .cons a (im_dpa b)
def OdV (K : PySem.W.Frag) (Hh H : Hp) (a : Addr) : Od → Prop
  | .lst xs => ∃ vs, H a = some (.lst vs) ∧ Paired (SdV K Hh) xs vs
  | .ins C fs => ∃ dx vs, H a = some (.ins C dx vs) ∧ Paired (fun (p : Str × Sd) (q : Str × V) => p.1 = q.1 ∧ SdV K Hh p.2 q.2) fs vs
  | .dct kvs => ∃ vs, H a = some (.dK vs) ∧ Paired (fun (p : Key × Sd) (q : Key × V) => p.1 = q.1 ∧ SdV K Hh p.2 q.2) kvs vs
  | .tup xs => ∃ vs, H a = some (.tup vs) ∧ Paired (SdV K Hh) xs vs
theorem odv_keep {K : PySem.W.Frag} {G G' H H' : Hp} {a : Addr} (g : ∀ {r : Sd} {v : V}, SdV K G r v → SdV K G' r v) (e : ∀ u, (∀ ps, u ≠ .tbl ps) → H a = some u → H' a = some u) : ∀ {o : Od}, OdV K G H a o → OdV K G' H' a o
  | .lst _, ⟨vs, h, p⟩ => ⟨vs, e _ (fun _ z => by cases z) h, L2.Paired.mapP p fun _ _ q => g q⟩
  | .ins _ _, ⟨dx, vs, h, p⟩ => ⟨dx, vs, e _ (fun _ z => by cases z) h, L2.Paired.mapP p fun _ _ q => ⟨q.1, g q.2⟩⟩
  | .dct _, ⟨vs, h, p⟩ => ⟨vs, e _ (fun _ z => by cases z) h, L2.Paired.mapP p fun _ _ q => ⟨q.1, g q.2⟩⟩
  | .tup _, ⟨vs, h, p⟩ => ⟨vs, e _ (fun _ z => by cases z) h, L2.Paired.mapP p fun _ _ q => g q⟩
theorem odv_mono {K : PySem.W.Frag} {G G' H H' : Hp} {a : Addr} (g : Same G G') (e : Same H H') {o : Od} (h : OdV K G H a o) : OdV K G' H' a o := odv_keep (fun q => sdv_mono g q) (fun u _ q => e a u q) h
theorem odv_at {K : PySem.W.Frag} {G H : Hp} {a : Addr} : ∀ {o : Od}, OdV K G H a o → ∃ u, H a = some u ∧ (∀ ps, u ≠ .tbl ps) ∧ ∀ c q, u ≠ LamX.CodeO c q
  | .lst _, ⟨_, h, _⟩ => ⟨_, h, fun _ z => (by cases z), fun _ _ z => (by unfold LamX.CodeO at z; cases z)⟩
  | .ins _ _, ⟨_, _, h, _⟩ => ⟨_, h, fun _ z => (by cases z), fun _ _ z => (by unfold LamX.CodeO at z; cases z)⟩
  | .dct _, ⟨_, h, _⟩ => ⟨_, h, fun _ z => (by cases z), fun _ _ z => (by unfold LamX.CodeO at z; cases z)⟩
  | .tup _, ⟨_, h, _⟩ => ⟨_, h, fun _ z => (by cases z), fun _ _ z => (by unfold LamX.CodeO at z; cases z)⟩
theorem odv_some {K : PySem.W.Frag} {G H : Hp} {a : Addr} {o : Od} (h : OdV K G H a o) : H a ≠ none := by
  obtain ⟨u, e, _⟩ := odv_at h
  rw [e]
  simp
/-- the objects alone -/
structure Ro (K : PySem.W.Frag) (H : Hp) (ω : Om) : Prop where
  ob : ∀ a o, (a, o) ∈ ω.os → OdV K (hid (ads ω) H) H a o
  nd : (ω.os.map (·.1)).Nodup
  th : ∀ a ∈ ω.ps, H a ≠ none
structure Rl (K : PySem.W.Frag) (H : Hp) (σ : L2.St) (δ : De) (ω : Om) : Prop where
  len : σ.length = δ.length
  sl : ∀ (i : Nat) (r : Sd), δ[i]? = some (some r) → ∃ v, σ[i]? = some (some v) ∧ SdV K (hid (ads ω) H) r v
  ro : Ro K H ω
section
variable {K : PySem.W.Frag} {H H' : Hp} {σ : L2.St} {δ : De} {ω : Om}
theorem there_mono {ps : List Addr} (t : ∀ a ∈ ps, H a ≠ none) (e : Same H H') : ∀ a ∈ ps, H' a ≠ none := fun a h z => by
  have q := t a h
  cases g : H a with
  | none => exact q g
  | some o =>
    rw [e a o g] at z
    cases z
theorem Ro.mono (r : Ro K H ω) (e : Same H H') : Ro K H' ω := ⟨fun a o h => odv_mono (hid_same e) e (r.ob a o h), r.nd, there_mono r.th e⟩
theorem Rl.mono (r : Rl K H σ δ ω) (e : Same H H') : Rl K H' σ δ ω := ⟨r.len, fun i x h => by
  obtain ⟨v, h1, h2⟩ := r.sl i x h
  exact ⟨v, h1, sdv_mono (hid_same e) h2⟩, r.ro.mono e⟩
theorem Ro.there (r : Ro K H ω) : ∀ a ∈ ads ω, H a ≠ none := fun a h => by
  rcases List.mem_append.mp h with h | h
  · exact r.th a h
  · obtain ⟨p, hp, e⟩ := List.mem_map.mp h
    subst e
    exact odv_some (r.ob p.1 p.2 hp)
theorem Ro.nil {ps : List Addr} (h : ∀ a ∈ ps, H a ≠ none) : Ro K H ⟨ps, []⟩ := ⟨fun _ _ h => (List.not_mem_nil h).elim, List.nodup_nil, h⟩
theorem ads_nil {ps : List Addr} : ads ⟨ps, []⟩ = ps := by
  show ps ++ [] = ps
  rw [List.append_nil]
theorem new_out {ps : List Addr} (t : ∀ a ∈ ps, H a ≠ none) {p : Addr} (h : H p = none) : p ∉ ps := fun z => t p z h
theorem Rl.set (r : Rl K H σ δ ω) {i : Nat} {x : Sd} {v : V} (h : SdV K (hid (ads ω) H) x v) : Rl K H (σ.set i (some v)) (δ.set i (some x)) ω := by
  refine ⟨by rw [List.length_set, List.length_set, r.len], fun j y hj => ?_, r.ro⟩
  by_cases hij : i = j
  · subst hij
    have hl : i < δ.length := by
      have := (List.getElem?_eq_some_iff.mp hj).1
      rwa [List.length_set] at this
    rw [List.getElem?_set_self hl] at hj
    cases hj
    exact ⟨v, List.getElem?_set_self (by rw [r.len]; exact hl), h⟩
  · rw [List.getElem?_set_ne hij] at hj
    obtain ⟨u, h1, h2⟩ := r.sl j y hj
    exact ⟨u, by rw [List.getElem?_set_ne hij]; exact h1, h2⟩
end

section
variable {X : Cx}
@[irreducible] def wpe (X : Cx) (e : Expr) : TE := fun σ H Q => ∀ pins s, Inv X pins σ H s → wpAny (model X.prog X.w) X.A (eval e X.env) (EP X pins σ Q) X.xe s
@[irreducible] def wpt (X : Cx) (e : Expr) : TT := fun σ H Q => ∀ pins s, Inv X pins σ H s → wpAny (model X.prog X.w) X.A (isTrue e X.env (eval e X.env)) (TP X pins σ Q) X.xe s
@[irreducible] def wpa (X : Cx) (es : List Expr) : TA := fun σ H Q => ∀ (pos : Pos) pins s, Inv X pins σ H s → wpAny (model X.prog X.w) X.A (spliced (backTo pos (starEach es X.env))) (AP X pins σ Q) X.xe s
@[irreducible] def wps (X : Cx) (st : Stmt) : TS := fun D σ H => ∀ pins s, Inv X pins σ H s → wpAny (model X.prog X.w) X.A (exec st X.env) (SP X pins D) X.xe s
@[irreducible] def wpss (X : Cx) (st : List Stmt) : TS := fun D σ H => ∀ pins s, Inv X pins σ H s → wpAny (model X.prog X.w) X.A (execs st X.env) (SP X pins D) X.xe s
theorem pe_w {e : Expr} : PE X e (wpe X e) := ⟨fun pins s σ H Q I h => by unfold wpe at h; exact h pins s I⟩
theorem pt_w {e : Expr} : PT X e (wpt X e) := ⟨fun pins s σ H Q I h => by unfold wpt at h; exact h pins s I⟩
theorem pa_w {es : List Expr} : PA X es (wpa X es) := ⟨fun pos pins s σ H Q I h => by unfold wpa at h; exact h pos pins s I⟩
theorem ps_w {st : Stmt} : PS X st (wps X st) := ⟨fun pins s σ H D I h => by unfold wps at h; exact h pins s I⟩
theorem pss_w {st : List Stmt} : PSs X st (wpss X st) := ⟨fun pins s σ H D I h => by unfold wpss at h; exact h pins s I⟩
theorem we {e : Expr} {t : TE} {σ : L2.St} {H : Hp} {Q : VK} (h : PE X e t) (q : t σ H Q) : wpe X e σ H Q := by unfold wpe; exact fun pins s I => h.run pins s σ H Q I q
theorem wt {e : Expr} {t : TT} {σ : L2.St} {H : Hp} {Q : Bool → Hp → Prop} (h : PT X e t) (q : t σ H Q) : wpt X e σ H Q := by unfold wpt; exact fun pins s I => h.run pins s σ H Q I q
theorem wa {es : List Expr} {t : TA} {σ : L2.St} {H : Hp} {Q : List V → Hp → Prop} (h : PA X es t) (q : t σ H Q) : wpa X es σ H Q := by unfold wpa; exact fun pos pins s I => h.run pos pins s σ H Q I q
theorem ws {st : Stmt} {t : TS} {σ : L2.St} {H : Hp} {D : Ends} (h : PS X st t) (q : t D σ H) : wps X st D σ H := by unfold wps; exact fun pins s I => h.run pins s σ H D I q
theorem wss {st : List Stmt} {t : TS} {σ : L2.St} {H : Hp} {D : Ends} (h : PSs X st t) (q : t D σ H) : wpss X st D σ H := by unfold wpss; exact fun pins s I => h.run pins s σ H D I q
end
def PD (X : Cx) (δ : De) (ω : Om) (e : Expr) (d : PyData) : Prop :=
  ∀ σ H, Rl X.K H σ δ ω → ∀ Q : VK, (∀ v H', Same H H' → Dp X.K (hid (ads ω) H') v d → Q v H') → wpe X e σ H Q
def PDs (X : Cx) (δ : De) (ω : Om) (es : List Expr) (ds : List PyData) : Prop :=
  ∀ σ H, Rl X.K H σ δ ω → ∀ Q : List V → Hp → Prop, (∀ vs H', Same H H' → DpAll X.K (hid (ads ω) H') vs ds → Q vs H') → wpa X es σ H Q
def PTd (X : Cx) (δ : De) (ω : Om) (e : Expr) (b : Bool) : Prop :=
  ∀ σ H, Rl X.K H σ δ ω → ∀ Q : Bool → Hp → Prop, (∀ H', Same H H' → Q b H') → wpt X e σ H Q
/-- a list that is read -/
def PL (X : Cx) (δ : De) (ω : Om) (e : Expr) (ds : List PyData) : Prop :=
  ∀ σ H, Rl X.K H σ δ ω → ∀ Q : VK, (∀ p vs H', Same H H' → SqL X.K H' p vs → DpAll X.K (hid (ads ω) H') vs ds → Q (.ref p) H') → wpe X e σ H Q
/-- a new list -/
def PN (X : Cx) (δ : De) (ω : Om) (e : Expr) (ds : List PyData) : Prop :=
  ∀ σ H, Rl X.K H σ δ ω → ∀ Q : VK, (∀ p vs H', Same H H' → H p = none → H' p = some (.lst vs) → DpAll X.K (hid (p :: ads ω) H') vs ds → Q (.ref p) H') → wpe X e σ H Q
section
variable {X : Cx} {δ : De} {ω : Om} {a b c e : Expr} {es : List Expr} {d da db dc dz : PyData} {ds : List PyData} {pos : Pos}
theorem PD.eq (h : PD X δ ω e d) (q : d = dz) : PD X δ ω e dz := q ▸ h
theorem PN.pl (h : PN X δ ω e ds) : PL X δ ω e ds := fun σ H r Q k => h σ H r Q fun p vs H' s _ h1 h2 => k p vs H' s (SqL.of h1) (dpam hid_cons h2)
theorem PN.pd (h : PN X δ ω e ds) : PD X δ ω e (.list ds) := fun σ H r Q k => h σ H r Q fun p vs H' s n h1 h2 => k (.ref p) H' s (.lst (SqL.of (hid_of (new_out r.ro.there n) h1)) (dpam hid_cons h2))
theorem PD.pl (h : PD X δ ω e (.list ds)) : PL X δ ω e ds := fun σ H r Q k => h σ H r Q fun v H' s h1 => by
  cases h1 with
  | lst hs ha => exact k _ _ H' s (hid_sub.seq hs) ha
theorem pds_nil : PDs X δ ω [] [] := fun σ H _ Q k => wa pa_nil (k [] H (Same.refl H) .nil)
theorem pds_cons (ha : PD X δ ω e d) (hr : PDs X δ ω es ds) (hs : starEach (e :: es) X.env = (false, eval e X.env) :: starEach es X.env := by rfl) : PDs X δ ω (e :: es) (d :: ds) := fun σ H r Q k =>
  wa (pa_cons pe_w pa_w hs) (ha σ H r _ fun v H1 s1 d1 => hr σ H1 (r.mono s1) _ fun vs H2 s2 d2 => k (v :: vs) H2 (s1.trans s2) (.cons (dpm (hid_same s2) d1) d2))

theorem pd_var (i : Nat) {x : Str} (hd : δ[i]? = some (some (.im d)) := by rfl) (hN : X.N[i]? = some x := by rfl) (hv : Vis X.env.scope x := by first | exact Or.inl rfl | exact Or.inr (Or.inl rfl) | exact Or.inr (Or.inr rfl))
    (h1 : (x == ("__debug__" : Str)) = false := by decide) (h2 : (x == ("__classdict__" : Str)) = false := by decide) : PD X δ ω (.Name x pos) d := fun σ H r Q k => by
  obtain ⟨v, e1, e2⟩ := r.sl i _ hd
  exact we (pe_var hN hv h1 h2) ⟨v, e1, k v H (Same.refl H) e2⟩
theorem pl_var (i : Nat) {x : Str} {p : Addr} {xs : List PyData} (hm : (p, Od.lst (xs.map .im)) ∈ ω.os) (hd : δ[i]? = some (some (.ad p)) := by rfl) (hN : X.N[i]? = some x := by rfl) (hv : Vis X.env.scope x := by first | exact Or.inl rfl | exact Or.inr (Or.inl rfl) | exact Or.inr (Or.inr rfl))
    (h1 : (x == ("__debug__" : Str)) = false := by decide) (h2 : (x == ("__classdict__" : Str)) = false := by decide) : PL X δ ω (.Name x pos) xs := fun σ H r Q k => by
  obtain ⟨v, e1, e2⟩ := r.sl i _ hd
  obtain ⟨vs, e3, e4⟩ := r.ro.ob _ _ hm
  have e2 : v = .ref p := e2
  subst e2
  exact we (pe_var hN hv h1 h2) ⟨_, e1, k p vs H (Same.refl H) (SqL.of e3) (dpa_im e4)⟩
theorem pd_int {i : Int} {j : Nat} : PD X δ ω (.Constant (.int i) j pos) (.int i) := fun σ H _ Q k => we pe_int (k _ H (Same.refl H) (.int i))
theorem pd_str {x : Str} {j : Nat} : PD X δ ω (.Constant (.str x) j pos) (.str x) := fun σ H _ Q k => we pe_str (k _ H (Same.refl H) (.str x))
theorem pd_bl {x : Bool} {j : Nat} : PD X δ ω (.Constant (.bool x) j pos) (.bool x) := fun σ H _ Q k => we pe_bl (k _ H (Same.refl H) (.bl x))
theorem pd_non {j : Nat} : PD X δ ω (.Constant .none j pos) .none := fun σ H _ Q k => we pe_non (k _ H (Same.refl H) .non)
/-- a constant of the module -/
def GlD (K : PySem.W.Frag) (mg : Str → Option Value) (x : Str) (d : PyData) : Prop := ∃ v u, mg x = some u ∧ RelV v u ∧ ∀ H, Dp K H v d
theorem pd_glob {x : Str} (h : GlD X.K X.mg x d) (hg : Gl X x := by rfl) (hd : (x == ("__debug__" : Str)) = false := by decide) : PD X δ ω (.Name x pos) d := fun σ H _ Q k => by
  obtain ⟨v, u, h1, h2, h3⟩ := h
  exact we (pe_glob hg h1 h2 hd) (k v H (Same.refl H) (h3 _))

def RD (K : PySem.W.Frag) (r : R2) (da db dz : PyData) : Prop :=
  ∀ (ps : List Addr) (x y : V) (H : Hp), (∀ a ∈ ps, H a ≠ none) → Dp K (hid ps H) x da → Dp K (hid ps H) y db → ∀ Q : VK, (∀ z H', Same H H' → Dp K (hid ps H') z dz → Q z H') → r x y H Q
theorem pd_op {op : Operator} {r : R2} (ho : OpR X (binaryOp op) r) (hr : RD X.K r da db dz) (ha : PD X δ ω a da) (hb : PD X δ ω b db) : PD X δ ω (.BinOp a op b pos) dz := fun σ H rl Q k =>
  we (pe_op ho pe_w pe_w) (ha σ H rl _ fun x H1 s1 d1 => hb σ H1 (rl.mono s1) _ fun y H2 s2 d2 =>
    hr _ x y H2 (there_mono rl.ro.there (s1.trans s2)) (dpm (hid_same s2) d1) d2 Q fun z H3 s3 d3 => k z H3 ((s1.trans s2).trans s3) d3)
theorem pd_cmp {op : CmpOp} {r : R2} (ho : OpR X (compareOp op) r) (hr : RD X.K r da db dz) (ha : PD X δ ω a da) (hb : PD X δ ω b db) (hm : behindInMarks op b = false) : PD X δ ω (.Compare a [op] [b] pos) dz := fun σ H rl Q k =>
  we (pe_cmpR ho pe_w pe_w hm) (ha σ H rl _ fun x H1 s1 d1 => hb σ H1 (rl.mono s1) _ fun y H2 s2 d2 =>
    hr _ x y H2 (there_mono rl.ro.there (s1.trans s2)) (dpm (hid_same s2) d1) d2 Q fun z H3 s3 d3 => k z H3 ((s1.trans s2).trans s3) d3)
theorem rd_I0 {K : PySem.W.Frag} {g : Int → Int → Int} {i j : Int} : RD K (rI0 fun i j => .int (g i j)) (.int i) (.int j) (.int (g i j)) := fun ps x y H _ hx hy Q k => by
  cases hx
  cases hy
  exact ⟨i, j, rfl, rfl, k _ H (Same.refl H) (.int _)⟩
theorem rd_B0 {K : PySem.W.Frag} {g : Int → Int → Bool} {i j : Int} : RD K (rI0 fun i j => .bl (g i j)) (.int i) (.int j) (.bool (g i j)) := fun ps x y H _ hx hy Q k => by
  cases hx
  cases hy
  exact ⟨i, j, rfl, rfl, k _ H (Same.refl H) (.bl _)⟩
theorem rd_I {K : PySem.W.Frag} {C : Int → Int → Prop} {g : Int → Int → Int} {i j : Int} (hc : C i j) : RD K (rI C fun i j => .int (g i j)) (.int i) (.int j) (.int (g i j)) := fun ps x y H _ hx hy Q k => by
  cases hx
  cases hy
  exact ⟨i, j, rfl, rfl, hc, k _ H (Same.refl H) (.int _)⟩
theorem pd_add {i j : Int} (ha : PD X δ ω a (.int i)) (hb : PD X δ ω b (.int j)) : PD X δ ω (.BinOp a .Add b pos) (.int (i + j)) := pd_op op_add rd_I0 ha hb
theorem pd_sub {i j : Int} (ha : PD X δ ω a (.int i)) (hb : PD X δ ω b (.int j)) : PD X δ ω (.BinOp a .Sub b pos) (.int (i - j)) := pd_op op_sub rd_I0 ha hb
theorem pd_mul {i j : Int} (hc : CMulW i j) (ha : PD X δ ω a (.int i)) (hb : PD X δ ω b (.int j)) : PD X δ ω (.BinOp a .Mult b pos) (.int (i * j)) := pd_op op_mulW (rd_I hc) ha hb
theorem pd_mulS {i j : Int} (hc : CMul i j) (ha : PD X δ ω a (.int i)) (hb : PD X δ ω b (.int j)) : PD X δ ω (.BinOp a .Mult b pos) (.int (i * j)) := pd_op op_mul (rd_I hc) ha hb
theorem pd_mod {i j : Int} (hc : 0 < j) (ha : PD X δ ω a (.int i)) (hb : PD X δ ω b (.int j)) : PD X δ ω (.BinOp a .Mod b pos) (.int (i % j)) := pd_op op_mod (rd_I (C := fun _ j => 0 < j) hc) ha hb
theorem pd_fdiv {i j : Int} (hc : CDivW i j) (ha : PD X δ ω a (.int i)) (hb : PD X δ ω b (.int j)) : PD X δ ω (.BinOp a .FloorDiv b pos) (.int (i / j)) := pd_op op_fdivW (rd_I hc) ha hb
theorem pd_ge {i j : Int} (ha : PD X δ ω a (.int i)) (hb : PD X δ ω b (.int j)) : PD X δ ω (.Compare a [.GtE] [b] pos) (.bool (decide (j ≤ i))) := pd_cmp op_ge rd_B0 ha hb (nomark _)
theorem rd_eqI {K : PySem.W.Frag} {i j : Int} : RD K rEq (.int i) (.int j) (.bool (decide (i = j))) := fun ps x y H _ hx hy Q k => by
  cases hx
  cases hy
  refine ⟨rfl, ?_⟩
  have e : decide (V.int i = V.int j) = decide (i = j) := by
    by_cases c : i = j
    · subst c
      simp
    · rw [decide_eq_false c, decide_eq_false (fun z => c (V.int.inj z))]
  rw [e]
  exact k _ H (Same.refl H) (.bl _)
theorem rd_neI {K : PySem.W.Frag} {i j : Int} : RD K rNe (.int i) (.int j) (.bool (!decide (i = j))) := fun ps x y H _ hx hy Q k => by
  cases hx
  cases hy
  refine ⟨rfl, ?_⟩
  have e : decide (V.int i = V.int j) = decide (i = j) := by
    by_cases c : i = j
    · subst c
      simp
    · rw [decide_eq_false c, decide_eq_false (fun z => c (V.int.inj z))]
  rw [e]
  exact k _ H (Same.refl H) (.bl _)
theorem pd_eqI {i j : Int} (ha : PD X δ ω a (.int i)) (hb : PD X δ ω b (.int j)) : PD X δ ω (.Compare a [.Eq] [b] pos) (.bool (decide (i = j))) := pd_cmp op_eq rd_eqI ha hb (nomark _)
theorem pd_neI {i j : Int} (ha : PD X δ ω a (.int i)) (hb : PD X δ ω b (.int j)) : PD X δ ω (.Compare a [.NotEq] [b] pos) (.bool (!decide (i = j))) := pd_cmp op_ne rd_neI ha hb (nomark _)
theorem rd_eqD {K : PySem.W.Frag} (h1 : SeqAt.shaped da = true) (h2 : SeqAt.shaped db = true) : RD K (rEqD K) da db (.bool (PyData.eqv da db)) := fun ps x y H _ hx hy Q k =>
  ⟨da, db, dpm hid_sub hx, dpm hid_sub hy, h1, h2, k _ H (Same.refl H) (.bl _)⟩
theorem rd_neD {K : PySem.W.Frag} (h1 : SeqAt.shaped da = true) (h2 : SeqAt.shaped db = true) : RD K (rNeD K) da db (.bool (!PyData.eqv da db)) := fun ps x y H _ hx hy Q k =>
  ⟨da, db, dpm hid_sub hx, dpm hid_sub hy, h1, h2, k _ H (Same.refl H) (.bl _)⟩
theorem pd_tup {x1} (h : PDs X δ ω es ds) (hz : ds.length ≤ 1000 := by first | decide | (simp only [List.length_cons, List.length_nil]; omega)) : PD X δ ω (.Tuple es x1 pos) (.tuple ds) := fun σ H r Q k =>
  we (pe_tup pa_w) (h σ H r _ fun vs H1 s1 d1 => ⟨Nat.le_of_lt (small1000 (by rw [dpa_len d1]; exact hz)), fun p hp => k _ _ (s1.trans (same_new hp))
    (.tup (SqT.of (hid_of (new_out (there_mono r.ro.there s1) hp) upd_same)) (dpam (hid_same (same_new hp)) d1))⟩)
theorem pn_lst (h : PDs X δ ω es ds) (hz : ds.length ≤ 1000 := by first | decide | (simp only [List.length_cons, List.length_nil]; omega)) : PN X δ ω (.List es pos) ds := fun σ H r Q k =>
  we (pe_lst pa_w) (h σ H r _ fun vs H1 s1 d1 => ⟨Nat.le_of_lt (small1000 (by rw [dpa_len d1]; exact hz)), fun p hp => k p vs _ (s1.trans (same_new hp)) (s1.free hp) upd_same (dpam (hid_new hp (same_new hp)) d1)⟩)
theorem atI_dp {K : PySem.W.Frag} {H : Hp} {ds : List PyData} {vs : List V} {i : Int} (h : DpAll K H vs ds) (ha : atI ds i = some d) : ∃ v, atI vs i = some v ∧ Dp K H v d := by
  unfold atI at ha ⊢
  rw [dpa_len h]
  cases e : ixN ds.length i with
  | none =>
    rw [e] at ha
    cases ha
  | some j =>
    rw [e] at ha
    exact dpa_get h ha
theorem atI0 {α : Type} {x : α} {xs : List α} : atI (x :: xs) 0 = some x := atI_nat (j := 0) rfl
theorem atI1 {α : Type} {x y : α} {xs : List α} : atI (x :: y :: xs) 1 = some y := atI_nat (j := 1) rfl
theorem pd_ixT {i : Int} (ha : PD X δ ω a (.tuple ds)) (hb : PD X δ ω b (.int i)) (hi : atI ds i = some d) (hs : PlainIx b := by exact fun _ _ => rfl) : PD X δ ω (.Subscript a b pos) d := fun σ H rl Q k =>
  we (pe_ix ix_tup pe_w pe_w hs) (ha σ H rl _ fun x H1 s1 d1 => hb σ H1 (rl.mono s1) _ fun y H2 s2 d2 => by
    cases d2
    cases d1 with
    | tup hs ha =>
      obtain ⟨v, h1, h2⟩ := atI_dp ha hi
      exact ⟨_, _, _, v, rfl, rfl, same_sqt s2 (same_sqt hid_sub hs), h1, k v H2 (s1.trans s2) (dpm (hid_same s2) h2)⟩)
theorem pd_ixL {i : Int} (ha : PL X δ ω a ds) (hb : PD X δ ω b (.int i)) (hi : atI ds i = some d) (hs : PlainIx b := by exact fun _ _ => rfl) : PD X δ ω (.Subscript a b pos) d := fun σ H rl Q k =>
  we (pe_ix ix_list pe_w pe_w hs) (ha σ H rl _ fun p vs H1 s1 h1 d1 => hb σ H1 (rl.mono s1) _ fun y H2 s2 d2 => by
    cases d2
    obtain ⟨v, h3, h4⟩ := atI_dp d1 hi
    exact ⟨_, _, _, v, rfl, rfl, s2.seq h1, h3, k v H2 (s1.trans s2) (dpm (hid_same s2) h4)⟩)
theorem pd_lenT {p : Pos} (hm : X.mg "len" = none) (ha : PD X δ ω a (.tuple ds)) (hg : Gl X "len" := by rfl) (hs : starEach [a] X.env = (false, eval a X.env) :: starEach [] X.env := by rfl) : PD X δ ω (.Call (.Name "len" p) [a] [] pos) (.int ds.length) := fun σ H rl Q k =>
  we (pe_callB call_len_seq hg hm PySem.boot_len (pa_cons pe_w pa_nil hs) (he := hs)) (ha σ H rl _ fun x H1 s1 d1 => by
    cases d1 with
    | tup h1 h2 =>
      refine ⟨_, _, rfl, .inr (same_sqt hid_sub h1), ?_⟩
      rw [dpa_len h2]
      exact k _ H1 s1 (.int _))
theorem pd_lenL {p : Pos} (hm : X.mg "len" = none) (ha : PL X δ ω a ds) (hg : Gl X "len" := by rfl) (hs : starEach [a] X.env = (false, eval a X.env) :: starEach [] X.env := by rfl) : PD X δ ω (.Call (.Name "len" p) [a] [] pos) (.int ds.length) := fun σ H rl Q k =>
  we (pe_callB call_len_seq hg hm PySem.boot_len (pa_cons pe_w pa_nil hs) (he := hs)) (ha σ H rl _ fun x vs H1 s1 h1 d1 => by
    refine ⟨_, _, rfl, .inl h1, ?_⟩
    rw [dpa_len d1]
    exact k _ H1 s1 (.int _))
theorem pd_lenS {p : Pos} {z : Str} (hm : X.mg "len" = none) (ha : PD X δ ω a (.str z)) (hz : z.length ≤ 100000) (hg : Gl X "len" := by rfl) (hs : starEach [a] X.env = (false, eval a X.env) :: starEach [] X.env := by rfl) : PD X δ ω (.Call (.Name "len" p) [a] [] pos) (.int z.length) := fun σ H rl Q k =>
  we (pe_callB call_len hg hm PySem.boot_len (pa_cons pe_w pa_nil hs) (he := hs)) (ha σ H rl _ fun x H1 s1 d1 => by
    cases d1
    exact ⟨_, _, rfl, ⟨Nat.le_trans hz (by decide), rfl⟩, k _ H1 s1 (.int _)⟩)

theorem pt_bool {k : Bool} (h : PD X δ ω e (.bool k)) (he : ∀ whole, isTrue e X.env whole = (do let v ← whole; standAt e.pos; holding [v] (truthy v)) := by intro _; rfl) : PTd X δ ω e k := fun σ H r Q q =>
  wt (pt_val pe_w he) (h σ H r _ fun v H1 s1 d1 => by
    cases d1
    exact ⟨_, rfl, q H1 s1⟩)
theorem pt_cmpd {op : CmpOp} {r : R2} {k : Bool} (ho : OpR X (compareOp op) r) (hr : RD X.K r da db (.bool k)) (ha : PD X δ ω a da) (hb : PD X δ ω b db) (hm : behindInMarks op b = false) : PTd X δ ω (.Compare a [op] [b] pos) k := fun σ H rl Q q =>
  wt (pt_cmpR ho pe_w pe_w hm) (ha σ H rl _ fun x H1 s1 d1 => hb σ H1 (rl.mono s1) _ fun y H2 s2 d2 =>
    hr _ x y H2 (there_mono rl.ro.there (s1.trans s2)) (dpm (hid_same s2) d1) d2 _ fun z H3 s3 d3 => by
      cases d3
      exact ⟨_, rfl, q H3 ((s1.trans s2).trans s3)⟩)
theorem pt_notd {k : Bool} (h : PTd X δ ω e k) : PTd X δ ω (.UnaryOp .Not e pos) (!k) := fun σ H r Q q => wt (pt_not pt_w) (h σ H r _ fun H1 s1 => q H1 s1)
theorem pt_truT {k : Bool} (h : PD X δ ω e (.tuple ds)) (hk : k = !ds.isEmpty) (he : ∀ whole, isTrue e X.env whole = (do let v ← whole; standAt e.pos; holding [v] (truthy v)) := by intro _; rfl) : PTd X δ ω e k := fun σ H r Q q =>
  wt (pt_truth pe_w he) (h σ H r _ fun v H1 s1 d1 => by
    cases d1 with
    | tup h1 h2 =>
      refine ⟨k, ?_, q H1 s1⟩
      refine .inr (.inl ⟨_, same_sqt hid_sub h1, ?_⟩)
      rw [hk]
      cases h2 <;> rfl)
end
end FP

namespace FP
open PySem PySem.Spec PyProof.Rows L2
@[irreducible] def wpw (X : Cx) (e : Expr) : TT := fun σ H Q => ∀ (whole : Sem Value) pins s, Inv X pins σ H s → wpAny (model X.prog X.w) X.A (isTrue e X.env whole) (TP X pins σ Q) X.xe s
theorem pw_w {X : Cx} {e : Expr} : PW X e (wpw X e) := ⟨fun whole pins s σ H Q I h => by unfold wpw at h; exact h whole pins s I⟩
theorem ww {X : Cx} {e : Expr} {t : TT} {σ : L2.St} {H : Hp} {Q : Bool → Hp → Prop} (h : PW X e t) (q : t σ H Q) : wpw X e σ H Q := by unfold wpw; exact fun whole pins s I => h.run whole pins s σ H Q I q
def PWd (X : Cx) (δ : De) (ω : Om) (e : Expr) (b : Bool) : Prop :=
  ∀ σ H, Rl X.K H σ δ ω → ∀ Q : Bool → Hp → Prop, (∀ H', Same H H' → Q b H') → wpw X e σ H Q
section
variable {X : Cx} {δ : De} {ω : Om} {a b c e : Expr} {es r : List Expr} {d da db dc dz : PyData} {ds : List PyData} {pos : Pos} {k x y : Bool}
theorem PWd.pt (h : PWd X δ ω e k) : PTd X δ ω e k := fun σ H rl Q q => wt (PW.pt pw_w) (h σ H rl Q q)
theorem pw_or1d (h : PTd X δ ω a k) : PWd X δ ω (.BoolOp .Or [a] pos) k := fun σ H rl Q q => ww (pw_or1 pt_w) (h σ H rl Q q)
theorem pw_ord (h : PTd X δ ω a x) (h2 : x = false → PWd X δ ω (.BoolOp .Or (b :: r) pos) y) : PWd X δ ω (.BoolOp .Or (a :: b :: r) pos) (x || y) := fun σ H rl Q q =>
  ww (pw_or pt_w pw_w) (h σ H rl _ fun H1 s1 => by
    cases x with
    | true => exact iteT (q H1 s1)
    | false => exact iteF (h2 rfl σ H1 (rl.mono s1) Q fun H2 s2 => q H2 (s1.trans s2)))
theorem pw_orT (h : PTd X δ ω a true) : PWd X δ ω (.BoolOp .Or (a :: b :: r) pos) true := fun σ H rl Q q => ww (pw_or pt_w pw_w) (h σ H rl _ fun H1 s1 => iteT (q H1 s1))
theorem pd_one {op : PySem.BoolOp} (h : PD X δ ω a d) : PD X δ ω (.BoolOp op [a] pos) d := fun σ H rl Q q => we (pe_one pe_w) (h σ H rl Q q)
theorem pd_and (h : PD X δ ω a (.bool x)) (h2 : x = true → PD X δ ω (.BoolOp .And (b :: r) pos) (.bool y)) : PD X δ ω (.BoolOp .And (a :: b :: r) pos) (.bool (x && y)) := fun σ H rl Q q =>
  we (pe_and pe_w pe_w) (h σ H rl _ fun v H1 s1 d1 => by
    cases d1
    refine ⟨x, rfl, ?_⟩
    cases x with
    | true => exact iteT (h2 rfl σ H1 (rl.mono s1) Q fun v H2 s2 => q v H2 (s1.trans s2))
    | false => exact iteF (q _ H1 s1 (.bl _)))
theorem pd_andF (h : PD X δ ω a (.bool false)) : PD X δ ω (.BoolOp .And (a :: b :: r) pos) (.bool false) := fun σ H rl Q q =>
  we (pe_and pe_w pe_w) (h σ H rl _ fun v H1 s1 d1 => by
    cases d1
    exact ⟨false, rfl, iteF (q _ H1 s1 (.bl _))⟩)
theorem pd_not (h : PD X δ ω a (.bool x)) : PD X δ ω (.UnaryOp .Not a pos) (.bool (!x)) := fun σ H rl Q q =>
  we (pe_not pe_w) (h σ H rl _ fun v H1 s1 d1 => by
    cases d1
    exact ⟨x, rfl, q _ H1 s1 (.bl _)⟩)
/-- a < b < c -/
theorem pd_chain {op op' : CmpOp} {r r' : R2} (ho : OpR X (compareOp op) r) (ho' : OpR X (compareOp op') r') (hr : RD X.K r da db (.bool x)) (hr' : x = true → RD X.K r' db dc (.bool y)) (ha : PD X δ ω a da) (hb : PD X δ ω b db) (hc : x = true → PD X δ ω c dc)
    (h1 : lastMarks [op, op'] [b, c] = false := by with_unfolding_all rfl) : PD X δ ω (.Compare a [op, op'] [b, c] pos) (.bool (x && y)) := fun σ H rl Q q =>
  we (pe_chain ho ho' pe_w pe_w pe_w h1) (ha σ H rl _ fun u H1 s1 d1 => hb σ H1 (rl.mono s1) _ fun v H2 s2 d2 =>
    hr _ u v H2 (there_mono rl.ro.there (s1.trans s2)) (dpm (hid_same s2) d1) d2 _ fun z H3 s3 d3 => by
      cases d3
      refine ⟨x, rfl, ?_⟩
      cases x with
      | true => exact iteT (hc rfl σ H3 (rl.mono ((s1.trans s2).trans s3)) _ fun t H4 s4 d4 => hr' rfl _ v t H4 (there_mono rl.ro.there (((s1.trans s2).trans s3).trans s4)) (dpm (hid_same (s3.trans s4)) d2) d4 Q fun z H5 s5 d5 => q z H5 ((((s1.trans s2).trans s3).trans s4).trans s5) d5)
      | false => exact iteF (q _ H3 ((s1.trans s2).trans s3) (.bl _)))

def RC (K : PySem.W.Frag) (r : List V → Hp → VK → Prop) (ds : List PyData) (dz : PyData) : Prop :=
  ∀ (ps : List Addr) (vs : List V) (H : Hp), (∀ a ∈ ps, H a ≠ none) → DpAll K (hid ps H) vs ds → ∀ Q : VK, (∀ z H', Same H H' → Dp K (hid ps H') z dz → Q z H') → r vs H Q
theorem pd_callB {id : String} {r : List V → Hp → VK → Prop} {x : Str} {p : Pos} (hc : CallR X (.builtin id) r) (hr : RC X.K r ds dz) (hm : X.mg x = none) (hv : bootBuiltins x = some (.builtin id)) (ha : PDs X δ ω (a :: es) ds) (hg : Gl X x := by rfl)
    (hn : x ≠ "__name__" := by decide) (hdb : (x == ("__debug__" : Str)) = false := by decide) (he : starEach (a :: es) X.env = (false, eval a X.env) :: starEach es X.env := by rfl) (hpl : (backTo pos (starEach es X.env)).any (·.1) = false := by rfl) :
    PD X δ ω (.Call (.Name x p) (a :: es) [] pos) dz := fun σ H rl Q k =>
  we (pe_callB hc hg hm hv pa_w hn hdb he hpl) (ha σ H rl _ fun vs H1 s1 d1 => hr _ vs H1 (there_mono rl.ro.there s1) d1 Q fun z H2 s2 d2 => k z H2 (s1.trans s2) d2)
theorem pd_callTy {T : String} {r : List V → Hp → VK → Prop} {x : Str} {p : Pos} (hc : CallR X (.type T) r) (hr : RC X.K r ds dz) (hm : X.mg x = none) (hv : bootBuiltins x = some (.type T)) (ha : PDs X δ ω (a :: es) ds) (hg : Gl X x := by rfl)
    (hn : x ≠ "__name__" := by decide) (hdb : (x == ("__debug__" : Str)) = false := by decide) (he : starEach (a :: es) X.env = (false, eval a X.env) :: starEach es X.env := by rfl) (hpl : (backTo pos (starEach es X.env)).any (·.1) = false := by rfl) :
    PD X δ ω (.Call (.Name x p) (a :: es) [] pos) dz := fun σ H rl Q k =>
  we (pe_callTy hc hg hm hv pa_w hn hdb he hpl) (ha σ H rl _ fun vs H1 s1 d1 => hr _ vs H1 (there_mono rl.ro.there s1) d1 Q fun z H2 s2 d2 => k z H2 (s1.trans s2) d2)
theorem pd_min {p : Pos} {i j : Int} (hc : X.calm = true) (hm : X.mg "min" = none) (ha : PD X δ ω a (.int i)) (hb : PD X δ ω b (.int j)) (hg : Gl X "min" := by rfl)
    (he : starEach [a, b] X.env = (false, eval a X.env) :: starEach [b] X.env := by rfl) (hb2 : starEach [b] X.env = (false, eval b X.env) :: starEach [] X.env := by rfl) (hpl : (backTo pos (starEach [b] X.env)).any (·.1) = false := by rfl) :
    PD X δ ω (.Call (.Name "min" p) [a, b] [] pos) (.int (if j < i then j else i)) :=
  pd_callB (call_min2 hc) (fun ps vs H _ h Q k => by
    cases h with
    | cons h1 h2 =>
      cases h2 with
      | cons h3 h4 =>
        cases h4
        cases h1
        cases h3
        exact ⟨i, j, rfl, k _ H (Same.refl H) (.int _)⟩) hm (by decide +kernel) (pds_cons ha (pds_cons hb pds_nil hb2) he) hg (by decide) (by decide) he hpl
theorem pd_max {p : Pos} {i j : Int} (hc : X.calm = true) (hm : X.mg "max" = none) (ha : PD X δ ω a (.int i)) (hb : PD X δ ω b (.int j)) (hg : Gl X "max" := by rfl)
    (he : starEach [a, b] X.env = (false, eval a X.env) :: starEach [b] X.env := by rfl) (hb2 : starEach [b] X.env = (false, eval b X.env) :: starEach [] X.env := by rfl) (hpl : (backTo pos (starEach [b] X.env)).any (·.1) = false := by rfl) :
    PD X δ ω (.Call (.Name "max" p) [a, b] [] pos) (.int (if j > i then j else i)) :=
  pd_callB (call_max2 hc) (fun ps vs H _ h Q k => by
    cases h with
    | cons h1 h2 =>
      cases h2 with
      | cons h3 h4 =>
        cases h4
        cases h1
        cases h3
        exact ⟨i, j, rfl, k _ H (Same.refl H) (.int _)⟩) hm (by decide +kernel) (pds_cons ha (pds_cons hb pds_nil hb2) he) hg (by decide) (by decide) he hpl
theorem pd_ord {p : Pos} {z : Str} {i : Nat} (hm : X.mg "ord" = none) (ha : PD X δ ω a (.str z)) (hz : z.length = 1) (hi : z.cps.getD 0 0 = i) (hg : Gl X "ord" := by rfl)
    (he : starEach [a] X.env = (false, eval a X.env) :: starEach [] X.env := by rfl) : PD X δ ω (.Call (.Name "ord" p) [a] [] pos) (.int (i : Nat)) :=
  pd_callB call_ord (fun ps vs H _ h Q k => by
    cases h with
    | cons h1 h2 =>
      cases h2
      cases h1
      refine ⟨z, rfl, hz, ?_⟩
      rw [hi]
      exact k _ H (Same.refl H) (.int _)) hm (by decide +kernel) (pds_cons ha pds_nil he) hg (by decide) (by decide) he (by rfl)
theorem dpa_bl {K : PySem.W.Frag} {H : Hp} : ∀ {bs : List Bool} {vs : List V}, DpAll K H vs (bs.map .bool) → vs = bs.map V.bl
  | [], _, h => by
    cases h
    rfl
  | b :: bs, _, h => by
    cases h with
    | cons x y =>
      cases x
      rw [List.map_cons, dpa_bl y]
/-- all of a list of truths -/
theorem pd_all {p : Pos} {bs : List Bool} (hc : X.calm = true) (hm : X.mg "all" = none) (ha : PL X δ ω a (bs.map .bool)) (hg : Gl X "all" := by rfl)
    (he : starEach [a] X.env = (false, eval a X.env) :: starEach [] X.env := by rfl) : PD X δ ω (.Call (.Name "all" p) [a] [] pos) (.bool (bs.all id)) := fun σ H rl Q k =>
  we (pe_callB (cr_all hc) hg hm (by decide +kernel) (pa_cons pe_w pa_nil he) (he := he)) (ha σ H rl _ fun q vs H1 s1 h1 d1 => by
    have ev : vs = bs.map V.bl := dpa_bl d1
    subst ev
    exact ⟨q, bs, rfl, h1, k _ H1 s1 (.bl _)⟩)
/-- tuple of a list -/
theorem pd_tupleL {p : Pos} (hm : X.mg "tuple" = none) (ha : PL X δ ω a ds) (hg : Gl X "tuple" := by rfl) (he : starEach [a] X.env = (false, eval a X.env) :: starEach [] X.env := by rfl) : PD X δ ω (.Call (.Name "tuple" p) [a] [] pos) (.tuple ds) := fun σ H rl Q k =>
  we (pe_callTy call_tuple_of hg hm (by decide +kernel) (pa_cons pe_w pa_nil he) (he := he)) (ha σ H rl _ fun q vs H1 s1 h1 d1 =>
    ⟨q, vs, rfl, .inl ⟨h1, fun l hl => k _ _ (s1.trans (same_new hl)) (.tup (SqT.of (hid_of (new_out (there_mono rl.ro.there s1) hl) upd_same)) (dpam (hid_same (same_new hl)) d1))⟩⟩)
/-- isinstance of a built-in class -/
def kindD : PyData → String
  | .none => "NoneType"
  | .bool _ => "bool"
  | .int _ => "int"
  | .str _ => "str"
  | .list _ => "list"
  | .tuple _ => "tuple"
  | .dict _ => "dict"
theorem tyx_of {K : PySem.W.Frag} {H : Hp} {v : V} (h : Dp K H v d) : TyX K H v (.type (kindD d)) := by
  cases h with
  | non => exact .base .non
  | bl b => exact .base (.bl b)
  | int i => exact .base (.int i)
  | str x => exact .base (.str x)
  | lst h _ =>
    rcases h with (h | ⟨o, h⟩) | ⟨o, its, n, h, c, _⟩
    · exact .base (.lst h)
    · exact .base (.frz h)
    · exact .kList h c
  | tup h _ =>
    rcases h with (h | ⟨o, h⟩) | ⟨o, its, n, h, c, _⟩
    · exact .base (.tup h)
    · exact .fTuple h
    · exact .kTuple h c
theorem pd_isi {p p2 : Pos} {t : String} {x : Str} (hm : X.mg "isinstance" = none) (hmx : X.mg x = none) (hbx : bootBuiltins x = some (.type t)) (ha : PD X δ ω a d) (hk : kitB (kindD d) t = some k) (hg : Gl X "isinstance" := by rfl) (hgx : Gl X x := by rfl)
    (hnx : x ≠ "__name__" := by decide) (hdx : (x == ("__debug__" : Str)) = false := by decide)
    (he : starEach [a, .Name x p2] X.env = (false, eval a X.env) :: starEach [.Name x p2] X.env := by rfl) (he2 : starEach [.Name x p2] X.env = (false, eval (.Name x p2) X.env) :: starEach [] X.env := by rfl) (hpl : (backTo pos (starEach [.Name x p2] X.env)).any (·.1) = false := by rfl) :
    PD X δ ω (.Call (.Name "isinstance" p) [a, .Name x p2] [] pos) (.bool k) := fun σ H rl Q q =>
  we (pe_callB call_isi hg hm (by decide +kernel) (pa_cons pe_w (pa_cons (pe_bltn (v := .ty t) hgx hmx hbx rfl hnx hdx) pa_nil he2) he) (he := he) (hpl := hpl)) (ha σ H rl _ fun v H1 s1 d1 =>
    ⟨v, .ty t, _, _, k, rfl, .ty t, tyx_of (dpm hid_sub d1), kit_ty hk, q _ H1 s1 (.bl _)⟩)
end
end FP

namespace FP
open PySem PySem.Spec PyProof.Rows L2
inductive Rs where
  | ok (d : PyData)
  | er (C : Addr)
def RsQ (K : PySem.W.Frag) (ps : List Addr) (H : Hp) (Q : VK) (E : XK) : Rs → Prop
  | .ok d => ∀ v H', Same H H' → Dp K (hid ps H') v d → Q v H'
  | .er C => ∀ H', Same H H' → E (.ref C) none H'
def spD (K : PySem.W.Frag) (fr : List PyData → Rs → Prop) : Sp := fun vs H Q E => ∃ ps ds r, (∀ a ∈ ps, H a ≠ none) ∧ DpAll K (hid ps H) vs ds ∧ fr ds r ∧ RsQ K ps H Q E r
structure DefOk (P : Program) (w : World) (K : PySem.W.Frag) (mg : Str → Option Value) (base : Heap) (k : Nat) (x : Str) (fr : List PyData → Rs → Prop) : Prop where
  ex : ∃ f fd ps, FnOk P w K mg base (L2N.CX P w) k f fd ps (spD K fr) ∧ mg x = some (.ref f) ∧ PySem.W.keepIn K (.ref f) = true ∧ L2.Binds K fd ps []
theorem DefOk.mono {P : Program} {w : World} {K : PySem.W.Frag} {mg : Str → Option Value} {base : Heap} {j k : Nat} {x : Str} {fr : List PyData → Rs → Prop} (G : DefOk P w K mg base j x fr) (h : j ≤ k) : DefOk P w K mg base k x fr := by
  obtain ⟨f, fd, ps, F, m, kp, b⟩ := G.ex
  exact ⟨f, fd, ps, F.mono h, m, kp, b⟩
theorem passN {X : Cx} : Passes (L2N.CX X.prog X.w) X E0 := fun _ _ _ _ _ _ _ h => by
  obtain ⟨_, _, _, _, _, _, _, _, _, _, _, _, z⟩ := h
  cases z
section
variable {X : Cx} {δ : De} {ω : Om} {a b c e : Expr} {es r : List Expr} {d da db dc dz : PyData} {ds : List PyData} {pos p : Pos} {k : Nat} {x : Str} {fr : List PyData → Rs → Prop}
theorem pd_call (G : DefOk X.prog X.w X.K X.mg X.base k x fr) (hr : Room k X.A) (ha : PDs X δ ω (a :: es) ds) (hf : fr ds (.ok d)) (hg : Gl X x := by rfl) (hdb : (x == ("__debug__" : Str)) = false := by decide)
    (he : starEach (a :: es) X.env = (false, eval a X.env) :: starEach es X.env := by rfl) (hpl : (backTo pos (starEach es X.env)).any (·.1) = false := by rfl) : PD X δ ω (.Call (.Name x p) (a :: es) [] pos) d := fun σ H rl Q q => by
  obtain ⟨f, fd, ps, F, m, kp, b⟩ := G.ex
  refine we (pe_call F hr hg m kp b .nil passN pa_w hdb he hpl) (ha σ H rl _ fun vs H1 s1 d1 => ?_)
  show spD X.K fr (vs ++ []) H1 Q E0
  rw [List.append_nil]
  exact ⟨ads ω, ds, .ok d, there_mono rl.ro.there s1, d1, hf, fun v H' s' d' => q v H' (s1.trans s') d'⟩
end

/-- what stays in a loop -/
def Pt (T : List (Addr × Str)) (o : HO) : Prop := T = [] ∨ ∀ ps, o ≠ .tbl ps
def Ke (T : List (Addr × Str)) (G H : Hp) : Prop := ∀ b o, G b = some o → Pt T o → H b = some o
theorem ke_same {T : List (Addr × Str)} {G H : Hp} (h : Same G H) : Ke T G H := fun b o e _ => h b o e
theorem pt_tup {T : List (Addr × Str)} {xs : List V} : Pt T (.tup xs) := .inr fun _ z => by cases z
theorem pt_lst {T : List (Addr × Str)} {xs : List V} : Pt T (.lst xs) := .inr fun _ z => by cases z
theorem pt_frz {T : List (Addr × Str)} {o : Obj} {u : HO} : Pt T (.frz o u) := .inr fun _ z => by cases z
theorem ke_sqt {T : List (Addr × Str)} {K : PySem.W.Frag} {G H : Hp} {a : Addr} {xs : List V} (e : Ke T G H) (h : SqT K G a xs) : SqT K H a xs := by
  rcases h with (h | ⟨o, h⟩) | h
  · exact .inl (.inl (e _ _ h pt_tup))
  · exact .inl (.inr ⟨o, e _ _ h pt_frz⟩)
  · exact .inr h
theorem ke_sql {T : List (Addr × Str)} {K : PySem.W.Frag} {G H : Hp} {a : Addr} {xs : List V} (e : Ke T G H) (h : SqL K G a xs) : SqL K H a xs := by
  rcases h with (h | ⟨o, h⟩) | h
  · exact .inl (.inl (e _ _ h pt_lst))
  · exact .inl (.inr ⟨o, e _ _ h pt_frz⟩)
  · exact .inr h
mutual
theorem dp_ke {T : List (Addr × Str)} {K : PySem.W.Frag} {H H' : Hp} (e : Ke T H H') : ∀ (d : PyData) (v : V), Dp K H v d → Dp K H' v d
  | .none, _, h => by
    cases h
    exact .non
  | .bool b, _, h => by
    cases h
    exact .bl b
  | .int i, _, h => by
    cases h
    exact .int i
  | .str x, _, h => by
    cases h
    exact .str x
  | .list ds, _, h => by
    cases h with
    | lst hs ha => exact .lst (ke_sql e hs) (dpa_ke e ds _ ha)
  | .tuple ds, _, h => by
    cases h with
    | tup hs ha => exact .tup (ke_sqt e hs) (dpa_ke e ds _ ha)
  | .dict kvs, _, h => by cases h
theorem dpa_ke {T : List (Addr × Str)} {K : PySem.W.Frag} {H H' : Hp} (e : Ke T H H') : ∀ (ds : List PyData) (vs : List V), DpAll K H vs ds → DpAll K H' vs ds
  | [], _, h => by
    cases h
    exact .nil
  | d :: ds, _, h => by
    cases h with
    | cons a b => exact .cons (dp_ke e d _ a) (dpa_ke e ds _ b)
end
def Wk (K : PySem.W.Frag) (G : Hp → Prop) (B : Hp) (J : It) (items : List PyData) : Prop :=
  ∀ H', G H' → (∀ i, i < items.length → J.go i H') ∧ J.stop items.length H' ∧ ∀ i x H'', i < items.length → J.yld i H' x H'' → H'' = H' ∧ ∃ d, items[i]? = some d ∧ Dp K B x d
def PWs (X : Cx) (δ : De) (ω : Om) (tg iter : Expr) (items : List PyData) : Prop :=
  ∃ wi, PI X tg iter wi ∧ ∀ σ H, Rl X.K H σ δ ω → ∀ R : It → Hp → Prop, (∀ J H', Same H H' → Wk X.K (Same H') (hid (ads ω) H') J items → R J H') → wi σ H R
def PWk (X : Cx) (δ : De) (ω : Om) (tg iter : Expr) (items : List PyData) : Prop :=
  ∃ wi, PI X tg iter wi ∧ ∀ σ H, Rl X.K H σ δ ω → ∀ R : It → Hp → Prop, (∀ J H', Same H H' → (∀ T, Wk X.K (Ke T (hid (ads ω) H')) (hid (ads ω) H') J items) → R J H') → wi σ H R
section
variable {X : Cx} {δ : De} {ω : Om} {a b c e tg iter : Expr} {es r : List Expr} {d da db dc dz : PyData} {ds : List PyData} {pos p : Pos} {k : Nat} {x : Str}
theorem PWk.ws (h : PWk X δ ω tg iter ds) : PWs X δ ω tg iter ds := by
  obtain ⟨wi, h1, h2⟩ := h
  exact ⟨wi, h1, fun σ H rl R k => h2 σ H rl R fun J H' s w => k J H' s fun H2 s2 => w [] H2 (ke_same ((hid_same s2).trans hid_sub))⟩
theorem wk_tup (h : PD X δ ω iter (.tuple ds)) : PWk X δ ω tg iter ds := by
  refine ⟨iTup X.K (wpe X iter), pi_tup pe_w, fun σ H rl R k => h σ H rl _ fun v H1 s1 d1 => ?_⟩
  cases d1 with
  | tup h1 h2 =>
    rename_i q vs
    refine ⟨q, rfl, ⟨vs, same_sqt hid_sub h1⟩, k _ H1 s1 fun T H2 g => ⟨fun i hi => ?_, ⟨vs, ke_sqt g h1, Nat.le_of_eq (dpa_len h2)⟩, fun i y H3 _ z => ?_⟩⟩
    · obtain ⟨y, e1, _⟩ := dpa_get h2 (List.getElem?_eq_getElem hi)
      exact ⟨vs, y, ke_sqt g h1, e1⟩
    · obtain ⟨e1, e2⟩ := z
      exact ⟨e1, dpa_get' h2 (e2 vs (ke_sqt g h1))⟩
theorem wk_lst (h : PD X δ ω iter (.list ds)) : PWk X δ ω tg iter ds := by
  refine ⟨iList X.K (wpe X iter), pi_list pe_w, fun σ H rl R k => h σ H rl _ fun v H1 s1 d1 => ?_⟩
  cases d1 with
  | lst h1 h2 =>
    rename_i q vs
    refine ⟨q, rfl, ⟨vs, hid_sub.seq h1⟩, k _ H1 s1 fun T H2 g => ⟨fun i hi => ?_, ⟨vs, ke_sql g h1, Nat.le_of_eq (dpa_len h2)⟩, fun i y H3 _ z => ?_⟩⟩
    · obtain ⟨y, e1, _⟩ := dpa_get h2 (List.getElem?_eq_getElem hi)
      exact ⟨vs, y, ke_sql g h1, e1⟩
    · obtain ⟨e1, e2⟩ := z
      exact ⟨e1, dpa_get' h2 (e2 vs (ke_sql g h1))⟩
def signsD (z : Str) : List PyData := z.cps.toList.map fun c => .str ⟨#[c]⟩
theorem wk_str {z : Str} (h : PD X δ ω iter (.str z)) : PWk X δ ω tg iter (signsD z) := by
  refine ⟨iStr (wpe X iter), pi_str pe_w, fun σ H rl R k => h σ H rl _ fun v H1 s1 d1 => ?_⟩
  cases d1
  have hl : (signsD z).length = z.cps.size := by
    unfold signsD
    rw [List.length_map, Array.length_toList]
  refine ⟨z, rfl, k _ H1 s1 fun T H2 g => ⟨fun i hi => ?_, ?_, fun i y H3 hi w => ?_⟩⟩
  · show i < z.cps.size
    rw [← hl]
    exact hi
  · show z.cps.size ≤ (signsD z).length
    rw [hl]
    exact Nat.le_refl _
  · obtain ⟨e1, c, e2, e3⟩ := w
    subst e3
    refine ⟨e1, .str ⟨#[c]⟩, ?_, .str _⟩
    unfold signsD
    rw [List.getElem?_map, Array.getElem?_toList, e2]
    rfl
def rangeD (lo : Int) (n : Nat) : List PyData := (List.range n).map fun (i : Nat) => .int (lo + (i : Int))
theorem rangeD_len (lo : Int) (n : Nat) : (rangeD lo n).length = n := by
  unfold rangeD
  rw [List.length_map, List.length_range]
theorem rangeD_get {lo : Int} {n i : Nat} (h : i < n) : (rangeD lo n)[i]? = some (.int (lo + (i : Int))) := by
  unfold rangeD
  rw [List.getElem?_map, List.getElem?_range h]
  rfl
theorem wk_range1 {j : Int} (hm : X.mg "range" = none) (ha : PD X δ ω a (.int j)) (hj : 0 ≤ j ∧ j ≤ 100000) (hg : Gl X "range" := by rfl) (hs : starEach [a] X.env = [(false, eval a X.env)] := by rfl) (he : starEach [a] X.env = (false, eval a X.env) :: starEach [] X.env := by rfl) :
    PWk X δ ω tg (.Call (.Name "range" p) [a] [] pos) (rangeD 0 j.toNat) := by
  refine ⟨_, pi_range1 hg hm (pa_cons pe_w pa_nil he) hs, fun σ H rl R k => ha σ H rl _ fun v H1 s1 d1 => ?_⟩
  cases d1
  refine ⟨j, rfl, by omega, by omega, k _ H1 s1 fun T H2 g => ⟨fun i hi => ?_, ?_, fun i y H3 hi w => ?_⟩⟩
  · rw [rangeD_len] at hi
    exact hi
  · show j.toNat ≤ (rangeD 0 j.toNat).length
    rw [rangeD_len]
    exact Nat.le_refl _
  · obtain ⟨e1, e2⟩ := w
    subst e2
    rw [rangeD_len] at hi
    exact ⟨e1, _, rangeD_get hi, .int _⟩

/-- the list under way, as an object of one's own -/
def omD (ω : Om) (D : Addr) (o : Od) : Om := ⟨ω.ps, (D, o) :: ω.os⟩
theorem ads_omD {ω : Om} {D : Addr} {o : Od} {b : Addr} : b ∈ ads (omD ω D o) ↔ b = D ∨ b ∈ ads ω := by
  show b ∈ ω.ps ++ D :: ω.os.map (·.1) ↔ b = D ∨ b ∈ ω.ps ++ ω.os.map (·.1)
  simp only [List.mem_append, List.mem_cons]
  constructor
  · rintro (h | h | h)
    · exact .inr (.inl h)
    · exact .inl h
    · exact .inr (.inr h)
  · rintro (h | h | h)
    · exact .inr (.inl h)
    · exact .inl h
    · exact .inr (.inr h)
/-- from a heap that has no D to one that has it: what was seen is seen -/
theorem hid_in {ω : Om} {D : Addr} {o : Od} {G H : Hp} (hD : G D = none) (e : Same G H) : Same (hid (ads ω) G) (hid (ads (omD ω D o)) H) := fun b u h => by
  obtain ⟨n, e2⟩ := hid_out h
  refine hid_of (fun z => ?_) (e b u e2)
  rcases ads_omD.mp z with q | q
  · rw [q, hD] at e2
    cases e2
  · exact n q
theorem Rl.omD {K : PySem.W.Frag} {G H : Hp} {σ : L2.St} {δ : De} {D : Addr} {xs : List PyData} {vs : List V} (rl : Rl K G σ δ ω) (hD : G D = none) (e : Same G H) (hv : H D = some (.lst vs)) (hx : DpAll K (hid (ads (omD ω D (.lst (xs.map .im)))) H) vs xs) :
    Rl K H σ δ (omD ω D (.lst (xs.map .im))) := by
  refine ⟨rl.len, fun i r h => ?_, ?_, ?_, there_mono rl.ro.th e⟩
  · obtain ⟨v, h1, h2⟩ := rl.sl i r h
    exact ⟨v, h1, sdv_mono (hid_in hD e) h2⟩
  · intro a o h
    rcases List.mem_cons.mp h with q | q
    · cases q
      exact ⟨vs, hv, im_dpa hx⟩
    · exact odv_mono (hid_in hD e) e (rl.ro.ob a o q)
  · show (D :: ω.os.map (·.1)).Nodup
    refine List.nodup_cons.mpr ⟨fun z => ?_, rl.ro.nd⟩
    exact rl.ro.there D (List.mem_append_right _ z) hD
/-- a write at D leaves what is seen beside it -/
theorem hid_upd {ω : Om} {D : Addr} {o o' : Od} {u : HO} {H : Hp} : Same (hid (ads (FP.omD ω D o)) H) (hid (ads (FP.omD ω D o')) (upd H D u)) := fun b x h => by
  obtain ⟨n, e⟩ := hid_out h
  have nb : b ≠ D := fun z => n (ads_omD.mpr (.inl z))
  refine hid_of (fun z => n ?_) (by rw [upd_ne nb]; exact e)
  rcases ads_omD.mp z with q | q
  · exact ads_omD.mpr (.inl q)
  · exact ads_omD.mpr (.inr q)
theorem same_upd_new {G H : Hp} {D : Addr} {u : HO} (hD : G D = none) (e : Same G H) : Same G (upd H D u) := fun b x h => by
  rw [upd_ne (ne_of_none h hD)]
  exact e b x h
/-- the comprehension's reading: no test -/
theorem lc_data {σ : L2.St} {H : Hp} {Q : VK} {wi : TI} {j : Nat} {te : TE} {items ys : List PyData} (rl : Rl X.K H σ δ ω)
    (hw : ∀ R : It → Hp → Prop, (∀ J H', Same H H' → Wk X.K (Same H') (hid (ads ω) H') J items → R J H') → wi σ H R) (hl : ys.length = items.length) (hz : items.length ≤ 10000)
    (he : ∀ (i : Nat) (d y : PyData), items[i]? = some d → ys[i]? = some y → ∀ D o σ' H', Rl X.K H' σ' (δ.set j (some (.im d))) (omD ω D o) → ∀ Q : VK, (∀ v H2, Same H' H2 → Dp X.K (hid (ads (omD ω D o)) H2) v y → Q v H2) → te σ' H' Q)
    (k : ∀ p vs H', Same H H' → H p = none → H' p = some (.lst vs) → DpAll X.K (hid (p :: ads ω) H') vs ys → Q (.ref p) H') :
    tLc wi (gName j) tYes te [j] σ H Q := by
  refine hw _ fun J H1 s1 w => fun D hD => ?_
  have rl1 := rl.mono s1
  refine ⟨fun i m H2 => m = items.length - i ∧ i ≤ items.length ∧ Same H1 H2 ∧ ∃ vs, H2 D = some (.lst vs) ∧ DpAll X.K (hid (ads (FP.omD ω D (.lst ((ys.take i).map .im)))) H2) vs (ys.take i), ⟨items.length, by omega, Nat.zero_le _, same_new hD, [], upd_same, ?_⟩, ?_⟩
  · rw [List.take_zero]
    exact .nil
  rintro i m H2 ⟨em, hi, s2, vs, hv, dv⟩
  obtain ⟨go, stop, yld⟩ := w H2 s2
  by_cases hlt : i < items.length
  · refine .inr ⟨go i hlt, fun H3 => Same H1 H3 ∧ ∃ vs, H3 D = some (.lst vs) ∧ DpAll X.K (hid (ads (FP.omD ω D (.lst ((ys.take (i + 1)).map .im)))) H3) vs (ys.take (i + 1)), fun H3 ⟨s3, h3⟩ => ⟨items.length - (i + 1), by omega, rfl, hlt, s3, h3⟩, fun x H3 hy => ?_⟩
    obtain ⟨e3, d, ed, dx⟩ := yld i x H3 hlt hy
    subst e3
    have hys : i < ys.length := by omega
    have ey : ys[i]? = some ys[i] := List.getElem?_eq_getElem hys
    show wipe (((wipe σ [j])).set j (some x)) [j] = wipe σ [j] ∧ _
    have ew : wipe σ [j] = σ.set j none := rfl
    refine ⟨?_, ?_⟩
    · show (((σ.set j none).set j (some x)).set j none) = σ.set j none
      rw [List.set_set, List.set_set]
    show te (((wipe σ [j])).set j (some x)) H3 _
    rw [ew, List.set_set]
    have rl3 := (rl1.omD hD s2 hv dv)
    have rl4 := rl3.set (i := j) (x := .im d) (v := x) (dpm (hid_in hD s2) dx)
    refine he i d ys[i] ed ey D _ _ _ rl4 _ fun v H4 s4 d4 => ⟨vs, s4 D _ hv, ?_, same_upd_new hD (s2.trans s4), vs ++ [v], upd_same, ?_⟩
    · rw [dpa_len dv, List.length_take]
      refine Nat.lt_of_le_of_lt (Nat.min_le_left _ _) (Nat.lt_of_lt_of_le hlt (Nat.le_trans hz ?_))
      rw [sizeLine_eq]
      decide
    · rw [List.take_add_one, ey]
      exact dpa_app (dpam hid_upd (dpam (hid_same s4) dv)) (.cons (dpm hid_upd d4) .nil)
  · have e : i = items.length := by omega
    subst e
    refine .inl ⟨stop, ?_⟩
    rw [List.take_of_length_le (by omega)] at dv
    exact k D vs H2 (s1.trans s2) (s1.free hD) hv (dpam (hid_more fun b h => ads_omD.mpr (List.mem_cons.mp h)) dv)
/-- [elt for tg in iter] -/
def tBlk (X : Cx) (scope : Scope) (elt : Expr) : TE := fun σ H Q => ∀ (s : Shared) (H0 : Hp) (C : Addr) (cl : List (Str × Addr)) (fp : List Addr), wpe (X.blk s H0 scope (compEnvC scope cl C X.env) fp) elt σ H Q
theorem pe_blk {scope : Scope} {elt : Expr} (s : Shared) (H0 : Hp) (C : Addr) (cl : List (Str × Addr)) (fp : List Addr) : PE (X.blk s H0 scope (compEnvC scope cl C X.env) fp) elt (tBlk X scope elt) := ⟨fun pins s' σ H Q I h => pe_w.run pins s' σ H Q I (h s H0 C cl fp)⟩
theorem pn_lc {elt : Expr} {scope : Scope} {y : Str} {j : Nat} {items ys : List PyData} (hc : X.calm = true) (hN : X.N.Nodup) (hw : PWs X δ ω tg iter items) (hl : ys.length = items.length) (ok : BlkOk X.N X.env.scope scope [(y, j)])
    (hg : ∀ (s : Shared) (H : Hp) (C : Addr) (cl : List (Str × Addr)) (fp : List Addr), PG (X.blk s H scope (compEnvC scope cl C X.env) fp) tg (gName j))
    (he : ∀ (i : Nat) (d y : PyData), items[i]? = some d → ys[i]? = some y → ∀ D o (s : Shared) (H : Hp) (C : Addr) (cl : List (Str × Addr)) (fp : List Addr), PD (X.blk s H scope (compEnvC scope cl C X.env) fp) (δ.set j (some (.im d))) (omD ω D o) elt y)
    (hz : items.length ≤ 10000) (hs : ∀ x, foldedSetIterable iter X.env x = pure x := by intro _; rfl) : PN X δ ω (.ListComp elt [⟨tg, iter, [], 0⟩] scope pos) ys := fun σ H rl Q k => by
  obtain ⟨wi, h1, h2⟩ := hw
  refine we (pe_lc (own := [(y, j)]) hc hN h1 ok hg (fun _ _ _ _ _ => pts_nil) (fun s H0 C cl fp => pe_blk s H0 C cl fp) hs) ?_
  exact lc_data rl (fun R kk => h2 σ H rl R kk) hl hz (fun i d y hd hy D o σ' H' rl' Q' k' s H0 C cl fp => he i d y hd hy D o s H0 C cl fp σ' H' rl' Q' k') k
end
end FP

namespace FP
open PySem PySem.Spec PyProof.Rows L2
abbrev osA (ω : Om) : List Addr := ω.os.map (·.1)
structure Stp (T : List (Addr × Str)) (ω ω' : Om) (H H' : Hp) : Prop where
  keep : ∀ b o, H b = some o → b ∉ osA ω → Pt T o → H' b = some o
  new : ∀ a, a ∈ osA ω' → a ∈ osA ω ∨ ∀ o, H a = some o → ¬ Pt T o
  ps : ω'.ps = ω.ps
  tab : LamX.Tabs T H → LamX.Tabs T H'
theorem Stp.of {T : List (Addr × Str)} {ω : Om} {H H' : Hp} (s : Same H H') : Stp T ω ω H H' := ⟨fun b o h _ _ => s b o h, fun a h => .inl h, rfl, fun t => t.ext s⟩
theorem Stp.refl {T : List (Addr × Str)} {ω : Om} {H : Hp} : Stp T ω ω H H := .of (Same.refl H)
theorem Stp.trans {T : List (Addr × Str)} {ω ω1 ω2 : Om} {H H1 H2 : Hp} (a : Stp T ω ω1 H H1) (b : Stp T ω1 ω2 H1 H2) : Stp T ω ω2 H H2 := by
  refine ⟨fun c o h n p => ?_, fun c h => ?_, b.ps.trans a.ps, fun t => b.tab (a.tab t)⟩
  · refine b.keep c o (a.keep c o h n p) (fun z => ?_) p
    rcases a.new c z with q | q
    · exact n q
    · exact q o h p
  · rcases b.new c h with q | q
    · exact a.new c q
    · by_cases hc : c ∈ osA ω
      · exact .inl hc
      · exact .inr fun o h p => q o (a.keep c o h hc p) p
/-- what was seen is seen behind a step -/
theorem Stp.seen {T : List (Addr × Str)} {ω ω' : Om} {H H' : Hp} (s : Stp T ω ω' H H') : Ke T (hid (ads ω) H) (hid (ads ω') H') := fun b o h p => by
  obtain ⟨n, e⟩ := hid_out h
  have n2 : b ∉ osA ω := fun z => n (List.mem_append_right _ z)
  refine hid_of (fun z => ?_) (s.keep b o e n2 p)
  rcases List.mem_append.mp z with q | q
  · rw [s.ps] at q
    exact n (List.mem_append_left _ q)
  · rcases s.new b q with q | q
    · exact n2 q
    · exact q o e p
inductive Out where
  | nx (δ : De) (ω : Om)
  | rt (r : Sd) (ω : Om)
  | ex (C : Addr) (ω : Om)
  | bk (δ : De) (ω : Om)
  | ct (δ : De) (ω : Om)
structure Kt (X : Cx) (W : WX) (T : List (Addr × Str)) (ω : Om) (H : Hp) (D : Ends) (R : Out → Prop) : Prop where
  nx : ∀ δ' ω' σ' H', R (.nx δ' ω') → Stp T ω ω' H H' → Rl X.K H' σ' δ' ω' → D.nx σ' H'
  rt : ∀ r ω' v H', R (.rt r ω') → Stp T ω ω' H H' → Ro X.K H' ω' → SdV X.K (hid (ads ω') H') r v → D.rt v H'
  ex : ∀ C ω' σ' H', R (.ex C ω') → Stp T ω ω' H H' → Ro X.K H' ω' → W (.ref C) none σ' H'
  bk : ∀ δ' ω' σ' H', R (.bk δ' ω') → Stp T ω ω' H H' → Rl X.K H' σ' δ' ω' → D.bk σ' H'
  ct : ∀ δ' ω' σ' H', R (.ct δ' ω') → Stp T ω ω' H H' → Rl X.K H' σ' δ' ω' → D.ct σ' H'
theorem Kt.step {X : Cx} {W : WX} {T : List (Addr × Str)} {ω ω1 : Om} {H H1 : Hp} {D : Ends} {R : Out → Prop} (k : Kt X W T ω H D R) (s : Stp T ω ω1 H H1) : Kt X W T ω1 H1 D R :=
  ⟨fun δ' ω' σ' H' r q l => k.nx δ' ω' σ' H' r (s.trans q) l, fun r ω' v H' h q l z => k.rt r ω' v H' h (s.trans q) l z, fun C ω' σ' H' h q l => k.ex C ω' σ' H' h (s.trans q) l, fun δ' ω' σ' H' r q l => k.bk δ' ω' σ' H' r (s.trans q) l, fun δ' ω' σ' H' r q l => k.ct δ' ω' σ' H' r (s.trans q) l⟩
def S1 (X : Cx) (W : WX) (T : List (Addr × Str)) (st : Stmt) (δ : De) (ω : Om) (R : Out → Prop) : Prop := ∀ σ H D, Rl X.K H σ δ ω → LamX.Tabs T H → Kt X W T ω H D R → wps X st D σ H
def SD (X : Cx) (W : WX) (T : List (Addr × Str)) (ss : List Stmt) (δ : De) (ω : Om) (R : Out → Prop) : Prop := ∀ σ H D, Rl X.K H σ δ ω → LamX.Tabs T H → Kt X W T ω H D R → wpss X ss D σ H
/-- an expression that may write, or raise -/
def EX (X : Cx) (W : WX) (T : List (Addr × Str)) (e : Expr) (δ : De) (ω : Om) (R : Out → Prop) : Prop := ∀ σ H, Rl X.K H σ δ ω → LamX.Tabs T H → ∀ Q : VK,
  (∀ r ω' v H', R (.rt r ω') → Stp T ω ω' H H' → Rl X.K H' σ δ ω' → SdV X.K (hid (ads ω') H') r v → Q v H') → (∀ C ω' σ' H', R (.ex C ω') → Stp T ω ω' H H' → Ro X.K H' ω' → W (.ref C) none σ' H') → wpe X e σ H Q
/-- then the rest -/
def Nxt (X : Cx) (W : WX) (T : List (Addr × Str)) (ss : List Stmt) (R : Out → Prop) : Out → Prop
  | .nx δ ω => SD X W T ss δ ω R
  | o => R o
/-- the value goes to what follows -/
def Val1 (V : Sd → Om → Prop) (R : Out → Prop) : Out → Prop
  | .rt r ω => V r ω
  | .ex C ω => R (.ex C ω)
  | _ => False
section
variable {X : Cx} {W : WX} {T : List (Addr × Str)} {δ : De} {ω : Om} {a b c e tg iter : Expr} {es r : List Expr} {d da db dc dz : PyData} {ds : List PyData} {pos p : Pos} {k : Nat} {x : Str} {R : Out → Prop} {st : Stmt} {ss sa sb : List Stmt}
theorem sd_nil (h : R (.nx δ ω)) : SD X W T [] δ ω R := fun σ H D rl t k => wss pss_nil (k.nx δ ω σ H h .refl rl)
theorem sd_cons (h : S1 X W T st δ ω (Nxt X W T ss R)) : SD X W T (st :: ss) δ ω R := fun σ H D rl t k =>
  wss (pss_cons ps_w pss_w) (h σ H _ rl t ⟨fun δ' ω' σ' H' z q l => z σ' H' D l (q.tab t) (k.step q), k.rt, k.ex, k.bk, k.ct⟩)
theorem PD.ex (h : PD X δ ω e d) (hR : R (.rt (.im d) ω)) : EX X W T e δ ω R := fun σ H rl t Q q _ => h σ H rl Q fun v H' s dv => q _ ω v H' hR (.of s) (rl.mono s) dv
theorem s1_set (i : Nat) {x : Str} {pos' : Pos} (he : EX X W T e δ ω (Val1 (fun r ω' => R (.nx (δ.set i (some r)) ω')) R)) (hN : X.N.Nodup) (hi : X.N[i]? = some x := by rfl) (hx : Loc X.env.scope x := by first | exact Or.inl rfl | exact Or.inr rfl) (hs : swapsWith e (some (.Name x pos')) pos.line X.env = pure false := by rfl)
    (hf : X.fn x = true ∨ X.env.scope.names.lookup x = some .local := by first | exact .inl rfl | exact .inr rfl | assumption) : S1 X W T (.Assign [.Name x pos'] e pos) δ ω R := fun σ H D rl t k =>
  ws (ps_set hN hi hx pe_w hs hf) (he σ H rl t _ (fun r ω' v H' z q l dv => k.nx _ ω' _ H' z q (l.set dv)) (fun C ω' σ' H' z q l => k.ex C ω' σ' H' z q l))
theorem sd_set (i : Nat) {x : Str} {pos' : Pos} (he : PD X δ ω e d) (hk : SD X W T ss (δ.set i (some (.im d))) ω R) (hN : X.N.Nodup) (hi : X.N[i]? = some x := by rfl) (hx : Loc X.env.scope x := by first | exact Or.inl rfl | exact Or.inr rfl) (hs : swapsWith e (some (.Name x pos')) pos.line X.env = pure false := by rfl)
    (hf : X.fn x = true ∨ X.env.scope.names.lookup x = some .local := by first | exact .inl rfl | exact .inr rfl | assumption) : SD X W T (.Assign [.Name x pos'] e pos :: ss) δ ω R :=
  sd_cons (s1_set i (he.ex (show Val1 _ _ _ from hk)) hN hi hx hs hf)
/-- a new list of one's own -/
theorem sd_own (i : Nat) {x : Str} {pos' : Pos} (he : PN X δ ω e ds) (hk : ∀ D, SD X W T ss (δ.set i (some (.ad D))) (omD ω D (.lst (ds.map .im))) R) (hN : X.N.Nodup) (hi : X.N[i]? = some x := by rfl) (hx : Loc X.env.scope x := by first | exact Or.inl rfl | exact Or.inr rfl) (hs : swapsWith e (some (.Name x pos')) pos.line X.env = pure false := by rfl)
    (hf : X.fn x = true ∨ X.env.scope.names.lookup x = some .local := by first | exact .inl rfl | exact .inr rfl | assumption) : SD X W T (.Assign [.Name x pos'] e pos :: ss) δ ω R :=
  sd_cons fun σ H D rl t k => ws (ps_set hN hi hx pe_w hs hf) (he σ H rl _ fun q vs H' s n hv dv => by
    have nq := new_out rl.ro.there n
    have rl2 : Rl X.K H' σ δ (omD ω q (.lst (ds.map .im))) := rl.omD n s hv (dpam (hid_more fun b h => List.mem_cons.mpr (ads_omD.mp h)) dv)
    exact k.nx _ _ _ H' (hk q) ⟨fun b o h _ _ => s b o h, fun a h => by
      rcases List.mem_cons.mp (show a ∈ q :: ω.os.map (·.1) from h) with z | z
      · exact .inr fun o ho => by
          rw [z, n] at ho
          cases ho
      · exact .inl z, rfl, fun t => t.ext s⟩ (rl2.set (x := .ad q) (v := .ref q) rfl))
/-- x = [elt for tg in iter], on one line, x a local -/
theorem sd_setLc (i : Nat) {x : Str} {py cpos : Pos} {elt : Expr} {scope : Scope} {y : Str} {j : Nat} {items ys : List PyData} (hc : X.calm = true) (hN : X.N.Nodup) (hw : PWs X δ ω tg iter items) (hl : ys.length = items.length) (ok : BlkOk X.N X.env.scope scope [(y, j)])
    (hg : ∀ (s : Shared) (H : Hp) (C : Addr) (cl : List (Str × Addr)) (fp : List Addr), PG (X.blk s H scope (compEnvC scope cl C X.env) fp) tg (gName j))
    (he : ∀ (i : Nat) (d y : PyData), items[i]? = some d → ys[i]? = some y → ∀ D o (s : Shared) (H : Hp) (C : Addr) (cl : List (Str × Addr)) (fp : List Addr), PD (X.blk s H scope (compEnvC scope cl C X.env) fp) (δ.set j (some (.im d))) (omD ω D o) elt y)
    (hz : items.length ≤ 10000) (hsw : swapsWith (.ListComp elt [⟨tg, iter, [], 0⟩] scope cpos) (some (.Name x py)) pos.line X.env = pure true) (hk : SD X W T ss (δ.set i (some (.im (.list ys)))) ω R)
    (hy : X.N[i]? = some x := by rfl) (hyl : X.env.scope.names.lookup x = some .local := by rfl) (hs : ∀ x, foldedSetIterable iter X.env x = pure x := by intro _; rfl) : SD X W T (.Assign [.Name x py] (.ListComp elt [⟨tg, iter, [], 0⟩] scope cpos) pos :: ss) δ ω R := by
  obtain ⟨wi, h1, h2⟩ := hw
  refine sd_cons fun σ H D rl t k => ws (ps_setLc (i := i) (own := [(y, j)]) hc hN hy hyl hsw h1 ok hg (fun _ _ _ _ _ => pts_nil) (fun s H0 C cl fp => pe_blk s H0 C cl fp) hs) ?_
  refine lc_data rl (fun R kk => h2 σ H rl R kk) hl hz (fun i d y hd hy D o σ' H' rl' Q' k' s H0 C cl fp => he i d y hd hy D o s H0 C cl fp σ' H' rl' Q' k') (fun p vs H' s n hv dv => ?_)
  exact k.nx _ ω _ H' hk (.of s) ((rl.mono s).set (x := .im (.list ys)) (v := .ref p) (.lst (SqL.of (hid_of (new_out rl.ro.there n) hv)) (dpam hid_cons dv)))
theorem sd_ret (he : PD X δ ω e d) (hR : R (.rt (.im d) ω)) : SD X W T (.Return (some e) pos :: ss) δ ω R :=
  sd_cons fun σ H D rl t k => ws (ps_ret pe_w) (he σ H rl _ fun v H' s dv => k.rt _ ω v H' hR (.of s) (rl.ro.mono s) dv)
theorem sd_retX (he : EX X W T e δ ω R) : SD X W T (.Return (some e) pos :: ss) δ ω R :=
  sd_cons fun σ H D rl t k => ws (ps_ret pe_w) (he σ H rl t _ (fun r ω' v H' z q l dv => k.rt r ω' v H' z q l.ro dv) (fun C ω' σ' H' z q l => k.ex C ω' σ' H' z q l))
theorem sd_exprX (he : EX X W T e δ ω (Val1 (fun _ ω' => SD X W T ss δ ω' R) R)) (hs : swapsWith e none pos.line X.env = pure false := by rfl) : SD X W T (.Expr e pos :: ss) δ ω R :=
  sd_cons fun σ H D rl t k => ws (ps_expr pe_w hs) (he σ H rl t _ (fun r ω' v H' z q l dv => k.nx δ ω' σ H' z q l) (fun C ω' σ' H' z q l => k.ex C ω' σ' H' z q l))
theorem sd_setX (i : Nat) {x : Str} {pos' : Pos} (he : EX X W T e δ ω (Val1 (fun r ω' => SD X W T ss (δ.set i (some r)) ω' R) R)) (hN : X.N.Nodup) (hi : X.N[i]? = some x := by rfl) (hx : Loc X.env.scope x := by first | exact Or.inl rfl | exact Or.inr rfl) (hs : swapsWith e (some (.Name x pos')) pos.line X.env = pure false := by rfl)
    (hf : X.fn x = true ∨ X.env.scope.names.lookup x = some .local := by first | exact .inl rfl | exact .inr rfl | assumption) : SD X W T (.Assign [.Name x pos'] e pos :: ss) δ ω R :=
  sd_cons (s1_set i (fun σ H rl t Q q q2 => he σ H rl t Q (fun r ω' v H' z => q r ω' v H' z) (fun C ω' σ' H' z => q2 C ω' σ' H' z)) hN hi hx hs hf)
theorem sd_if {kk : Bool} (h : PTd X δ ω c kk) (h1 : kk = true → SD X W T sa δ ω (Nxt X W T ss R)) (h2 : kk = false → SD X W T sb δ ω (Nxt X W T ss R)) : SD X W T (.If c sa sb pos :: ss) δ ω R :=
  sd_cons fun σ H D rl t k => ws (ps_if pt_w pss_w pss_w) (h σ H rl _ fun H' s => by
    cases kk with
    | true => exact iteT (h1 rfl σ H' D (rl.mono s) (t.ext s) (k.step (.of s)))
    | false => exact iteF (h2 rfl σ H' D (rl.mono s) (t.ext s) (k.step (.of s))))
theorem sd_ifF (h : PTd X δ ω c false) (h2 : SD X W T ss δ ω R) : SD X W T (.If c sa [] pos :: ss) δ ω R := sd_if h (fun z => by cases z) fun _ => sd_nil h2
theorem sd_ifT (h : PTd X δ ω c true) (h1 : SD X W T sa δ ω (Nxt X W T ss R)) : SD X W T (.If c sa sb pos :: ss) δ ω R := sd_if h (fun _ => h1) fun z => by cases z
/-- both ways come together -/
def Jn (J : De → Om → Prop) (R : Out → Prop) : Out → Prop
  | .nx δ ω => J δ ω
  | o => R o
theorem SD.imp {R' : Out → Prop} (h : SD X W T ss δ ω R') (hi : ∀ o, R' o → R o) : SD X W T ss δ ω R := fun σ H D rl t k =>
  h σ H D rl t ⟨fun δ' ω' σ' H' z => k.nx δ' ω' σ' H' (hi _ z), fun r ω' v H' z => k.rt r ω' v H' (hi _ z), fun C ω' σ' H' z => k.ex C ω' σ' H' (hi _ z), fun δ' ω' σ' H' z => k.bk δ' ω' σ' H' (hi _ z), fun δ' ω' σ' H' z => k.ct δ' ω' σ' H' (hi _ z)⟩
theorem sd_ifJ {kk : Bool} (J : De → Om → Prop) (h : PTd X δ ω c kk) (h1 : kk = true → SD X W T sa δ ω (Jn J R)) (h2 : kk = false → SD X W T sb δ ω (Jn J R)) (hk : ∀ δ' ω', J δ' ω' → SD X W T ss δ' ω' R) : SD X W T (.If c sa sb pos :: ss) δ ω R := by
  have im : ∀ o, Jn J R o → Nxt X W T ss R o := fun o z => by
    cases o with
    | nx δ' ω' => exact hk δ' ω' z
    | _ => exact z
  exact sd_if h (fun e => (h1 e).imp im) (fun e => (h2 e).imp im)
/-- a, b, .. = a tuple -/
def setAll : De → List Nat → List PyData → De
  | δ, i :: is, d :: ds => setAll (δ.set i (some (.im d))) is ds
  | δ, _, _ => δ
def gAll : List Nat → TGs
  | [] => gNil
  | i :: is => gCons (gName i) (gAll is)
theorem gAll_ok {K : PySem.W.Frag} {H : Hp} {ω : Om} {Q : L2.St → Hp → Prop} : ∀ {is : List Nat} {ds : List PyData} {vs : List V} {σ : L2.St} {δ : De}, Rl K H σ δ ω → DpAll K (hid (ads ω) H) vs ds → is.length = ds.length → (∀ σ', Rl K H σ' (setAll δ is ds) ω → Q σ' H) → gAll is vs σ H Q
  | [], [], _, σ, δ, rl, .nil, _, k => ⟨rfl, k σ rl⟩
  | i :: is, d :: ds, v :: vs, σ, δ, rl, .cons h1 h2, hl, k => ⟨v, vs, rfl, gAll_ok (rl.set (x := .im d) h1) h2 (Nat.succ.inj hl) k⟩
theorem sd_unp (is : List Nat) {ts : List Expr} {n kk : Nat} {p' : Pos} (he : PD X δ ω e (.tuple ds)) (hg : PG X (.Tuple ts kk p') (gTup X.K n (gAll is))) (hn : ds.length = n) (hi : is.length = n) (hk : SD X W T ss (setAll δ is ds) ω R)
    (hs : swapsWithSole [.Tuple ts kk p'] e pos.line X.env = pure false := by rfl) (hw : swappedStores [.Tuple ts kk p'] e X.env = pure none := by rfl) : SD X W T (.Assign [.Tuple ts kk p'] e pos :: ss) δ ω R :=
  sd_cons fun σ H D rl t k => ws (ps_asg pe_w hg hs hw) (he σ H rl _ fun v H' s dv => by
    cases dv with
    | tup h1 h2 => exact ⟨_, _, rfl, same_sqt hid_sub h1, by rw [dpa_len h2]; exact hn, gAll_ok (rl.mono s) h2 (hi.trans hn.symm) fun σ' l => k.nx _ ω σ' H' hk (.of s) l⟩)
/-- x.append(e), x the list of one's own that was made last -/
theorem sd_app (i : Nat) {x : Str} {p1 apos cpos : Pos} {D : Addr} {xs : List PyData} (he : PD X δ (omD ω D (.lst (xs.map .im))) e d) (hk : SD X W T ss δ (omD ω D (.lst ((xs ++ [d]).map .im))) R) (hz : xs.length < 10000)
    (hd : δ[i]? = some (some (.ad D)) := by rfl) (hN : X.N[i]? = some x := by rfl) (hv : Vis X.env.scope x := by first | exact Or.inl rfl | exact Or.inr (Or.inl rfl) | exact Or.inr (Or.inr rfl))
    (h1 : (x == ("__debug__" : Str)) = false := by decide) (h2 : (x == ("__classdict__" : Str)) = false := by decide)
    (hs : swapsWith (.Call (.Attribute (.Name x p1) "append" apos) [e] [] cpos) none pos.line X.env = pure false := by rfl)
    (hbase : attributeBase (.Name x p1) "append" X.env (eval (.Name x p1) X.env) = eval (.Name x p1) X.env := by rfl)
    (hfew : ((backTo cpos (starEach [e] X.env)).all (fun x => !x.1) && (backToKw cpos (keywordEach [] X.env)).all (fun x => x.1.isSome)
      && decide (([e] : List Expr).length + ([] : List Keyword).length + (if ([] : List Keyword).isEmpty then 0 else 1) < 30)) = true := by rfl)
    (hline : (apos.endLine == cpos.line) = true := by rfl) (hst : starEach [e] X.env = (false, eval e X.env) :: starEach [] X.env := by rfl) :
    SD X W T (.Expr (.Call (.Attribute (.Name x p1) "append" apos) [e] [] cpos) pos :: ss) δ (omD ω D (.lst (xs.map .im))) R :=
  sd_cons fun σ H Dd rl t k => by
    obtain ⟨v, e1, e2⟩ := rl.sl i _ hd
    have e2 : v = .ref D := e2
    subst e2
    obtain ⟨vs, e3, e4⟩ := rl.ro.ob D _ List.mem_cons_self
    refine ws (ps_expr (pe_bm PySem.F.plainAttrs_list PySem.F.slot_list_append PySem.F.type_list_append mt_append (pe_var hN hv h1 h2) (pa_cons pe_w pa_nil hst) hbase hfew hline hst) hs) ⟨_, e1, .inl ⟨rfl, vs, SqL.of e3⟩, ?_⟩
    refine he σ H rl _ fun y H1 s1 d1 => ⟨D, vs, y, rfl, rfl, s1 D _ e3, ?_, ?_⟩
    · rw [dpa_len (dpa_im e4)]
      exact Nat.lt_of_lt_of_le hz (by rw [sizeLine_eq]; decide)
    · have rl1 := rl.mono s1
      have hh : Same (hid (ads (omD ω D (.lst (xs.map .im)))) H1) (hid (ads (omD ω D (.lst ((xs ++ [d]).map .im)))) (upd H1 D (.lst (vs ++ [y])))) := hid_upd
      refine k.nx δ _ σ _ hk ⟨fun b o h n _ => ?_, fun a h => .inl h, rfl, fun t => ?_⟩ ⟨rl1.len, fun j r h => ?_, ?_, rl1.ro.nd, fun a h z => ?_⟩
      · have nb : b ≠ D := fun z => n (by rw [z]; exact List.mem_cons_self)
        rw [upd_ne nb]
        exact s1 b o h
      · have t1 := t.ext s1
        intro q hq
        obtain ⟨ps, a1, a2, a3⟩ := t1 q hq
        have e5 : H1 D = some (.lst vs) := s1 D _ e3
        refine ⟨ps, by rw [upd_ne (ne_of a1 e5 (by intro z; cases z))]; exact a1, a2, fun p' cv hc => ?_⟩
        obtain ⟨c0, b1, b2⟩ := a3 p' cv hc
        refine ⟨c0, b1, by rw [upd_ne (ne_of b2 e5 (by intro z; unfold LamX.CodeO at z; cases z))]; exact b2⟩
      · obtain ⟨v, h1, h2⟩ := rl1.sl j r h
        exact ⟨v, h1, sdv_mono hh h2⟩
      · intro a o h
        rcases List.mem_cons.mp h with q | q
        · cases q
          exact ⟨vs ++ [y], upd_same, im_dpa (dpa_app (dpam hh (dpam (hid_same s1) (dpa_im e4))) (.cons (dpm hh d1) .nil))⟩
        · have na : a ≠ D := fun z => by
            have nd := rl1.ro.nd
            have nd2 : (D :: ω.os.map (·.1)).Nodup := nd
            exact (List.nodup_cons.mp nd2).1 (List.mem_map.mpr ⟨(a, o), q, z⟩)
          have g := rl1.ro.ob a o (List.mem_cons_of_mem _ q)
          exact odv_keep (fun w => sdv_mono hh w) (fun u _ g1 => by rw [upd_ne na]; exact g1) g
      · have hn := rl1.ro.th a h
        by_cases za : a = D
        · rw [za, upd_same] at z
          cases z
        · rw [upd_ne za] at z
          exact hn z
/-- what follows a turn -/
def Turn1 (inv : Nat → De → Om → Prop) (i : Nat) (B R : Out → Prop) : Out → Prop
  | .nx δ ω => inv (i + 1) δ ω
  | .ct δ ω => inv (i + 1) δ ω
  | .bk δ ω => B (.nx δ ω)
  | o => R o
theorem sd_for (j : Nat) {items : List PyData} (inv : Nat → De → Om → Prop) (hw : PWk X δ ω tg iter items) (h0 : inv 0 δ ω)
    (hb : ∀ i d δ' ω', items[i]? = some d → inv i δ' ω' → SD X W T sa (δ'.set j (some (.im d))) ω' (Turn1 inv i (Nxt X W T ss R) R))
    (hd : ∀ δ' ω', inv items.length δ' ω' → SD X W T ss δ' ω' R) (hg : PG X tg (gName j)) (hp : PassesOwn (model X.prog X.w) X.A X.env X.xe) (hc : X.calm = true) (hs : ∀ x, foldedSetIterable iter X.env x = pure x := by intro _; rfl) : SD X W T (.For tg iter sa [] pos :: ss) δ ω R := by
  obtain ⟨wi, h1, h2⟩ := hw
  refine sd_cons fun σ H D rl t k => ws (ps_for hp hc h1 hg pss_w hs) (h2 σ H rl _ fun J H1 s1 w => ?_)
  refine ⟨fun i m σ' H' => ∃ δ' ω', m = items.length - i ∧ i ≤ items.length ∧ inv i δ' ω' ∧ Stp T ω ω' H1 H' ∧ Rl X.K H' σ' δ' ω', ⟨items.length, δ, ω, by omega, Nat.zero_le _, h0, .refl, rl.mono s1⟩, ?_⟩
  rintro i m σ' H' ⟨δ', ω', em, hi, iv, st, rl'⟩
  obtain ⟨go, stop, yld⟩ := w T H' (fun b o z p => (hid_out (st.seen b o z p)).2)
  have k1 := k.step (Stp.of s1 : Stp T ω ω H H1)
  by_cases hlt : i < items.length
  · refine .inr ⟨go i hlt, fun σ2 H2 => ∃ δ2 ω2, inv (i + 1) δ2 ω2 ∧ Stp T ω ω2 H1 H2 ∧ Rl X.K H2 σ2 δ2 ω2, fun σ2 H2 ⟨δ2, ω2, a1, a2, a3⟩ => ⟨items.length - (i + 1), by omega, δ2, ω2, rfl, hlt, a1, a2, a3⟩, fun x H2 hy => ?_⟩
    obtain ⟨e2, d, ed, dx⟩ := yld i x H2 hlt hy
    subst e2
    refine hb i d δ' ω' ed iv _ _ _ (rl'.set (x := .im d) (dp_ke st.seen d x dx)) (st.tab (t.ext s1)) ?_
    have k2 := k1.step st
    exact ⟨fun δ2 ω2 σ2 H2 z q l => ⟨δ2, ω2, z, st.trans q, l⟩, fun r ω2 v H2 z q l dv => k2.rt r ω2 v H2 z q l dv, fun C ω2 σ2 H2 z q l => k2.ex C ω2 σ2 H2 z q l, fun δ2 ω2 σ2 H2 z q l => k2.nx δ2 ω2 σ2 H2 z q l, fun δ2 ω2 σ2 H2 z q l => ⟨δ2, ω2, z, st.trans q, l⟩⟩
  · have e : i = items.length := by omega
    subst e
    exact .inl ⟨stop, (k1.step st).nx δ' ω' σ' H' (hd δ' ω' iv) .refl rl'⟩
/-- a call that may raise -/
theorem ex_call {fr : List PyData → Rs → Prop} {rr : Rs} (G : DefOk X.prog X.w X.K X.mg X.base k x fr) (hr : Room k X.A) (tk : L2N.Takes X W) (ha : PDs X δ ω (a :: es) ds) (hf : fr ds rr) (hR : match rr with | .ok d => R (.rt (.im d) ω) | .er C => R (.ex C ω)) (hg : Gl X x := by rfl)
    (hdb : (x == ("__debug__" : Str)) = false := by decide) (he : starEach (a :: es) X.env = (false, eval a X.env) :: starEach es X.env := by rfl) (hpl : (backTo pos (starEach es X.env)).any (·.1) = false := by rfl) : EX X W T (.Call (.Name x p) (a :: es) [] pos) δ ω R := fun σ H rl t Q q q2 => by
  obtain ⟨f, fd, ps, F, m, kp, b⟩ := G.ex
  refine we (pe_callS (E := WE W) F hr hg m kp b (fun σ => L2N.passAt tk σ) pa_w hdb he hpl) (ha σ H rl _ fun vs H1 s1 d1 => ?_)
  refine ⟨ads ω, ds, rr, there_mono rl.ro.there s1, d1, hf, ?_⟩
  cases rr with
  | ok d => exact fun v H' s' d' => q _ ω v H' hR (.of (s1.trans s')) (rl.mono (s1.trans s')) d'
  | er C => exact fun H' s' => q2 C ω σ H' hR (.of (s1.trans s')) (rl.ro.mono (s1.trans s'))
def startD (N : List Str) (ds : List PyData) : De := ds.map (fun d => some (.im d)) ++ List.replicate (N.length - ds.length) none
theorem start_rl {K : PySem.W.Frag} {H : Hp} {ps : List Addr} {N : List Str} {vs : List V} (h : DpAll K (hid ps H) vs ds) (hp : ∀ a ∈ ps, H a ≠ none) : Rl K H (L2.start N vs) (startD N ds) ⟨ps, []⟩ := by
  have hl := dpa_len h
  refine ⟨?_, fun i r hi => ?_, Ro.nil hp⟩
  · unfold L2.start startD
    rw [List.length_append, List.length_append, List.length_map, List.length_map, List.length_replicate, List.length_replicate, hl]
  · rw [ads_nil]
    unfold startD at hi
    by_cases hlt : i < ds.length
    · rw [List.getElem?_append_left (by rw [List.length_map]; exact hlt), List.getElem?_map, List.getElem?_eq_getElem hlt] at hi
      cases hi
      obtain ⟨v, h1, h2⟩ := dpa_get h (List.getElem?_eq_getElem hlt)
      refine ⟨v, ?_, h2⟩
      unfold L2.start
      rw [List.getElem?_append_left (by rw [List.length_map, hl]; exact hlt), List.getElem?_map, h1]
      rfl
    · rw [List.getElem?_append_right (by rw [List.length_map]; omega)] at hi
      have := List.getElem?_eq_some_iff.mp hi
      obtain ⟨h1, h2⟩ := this
      rw [List.getElem_replicate] at h2
      cases h2
def Fin (r : Rs) : Out → Prop
  | .rt (.im d) _ => r = .ok d
  | .nx _ _ => r = .ok .none
  | .ex C _ => r = .er C
  | _ => False
abbrev WOf (E : XK) : WX := fun cls d _ H => E cls d H
theorem def_ok {P : Program} {w : World} {K : PySem.W.Frag} {mg : Str → Option Value} {base : Heap} {x qual : Str} {params : Arguments} {body : List Stmt} {scope : Scope} {kws : List (Str × V)} {f : Addr} {fd : FuncData} {N ps : List Str} {k : Nat} {fr : List PyData → Rs → Prop}
    (F : FunD K x qual params body scope [] kws f fd) (hm : mg x = some (.ref f)) (S : FnScope N ps scope) (hb : ∀ (kV doc pm : Value) (an : Option Addr) (cdv ct : Value) (us : List Value), us.length = ps.length → bindArgs (PySem.W.fnOf x qual params body scope .none kV doc pm an cdv ct) ⟨us, []⟩ = pure (ps.zip us))
    (len : ∀ ds r, fr ds r → ds.length = ps.length)
    (hbody : ∀ (cdv : Value) (A : Around) (outer : List Env) (s : Shared) (H : Hp) (E : XK) (qs : List Addr) (ds : List PyData) (r : Rs), Room k (A.deeper (envOfC qual scope s.heap.objs.size f cdv)) → fr ds r →
      SD (cxOf (L2N.CX P w) P w K mg base N qual scope f cdv A outer s H E) (WOf E) [] body (startD N ds) ⟨qs, []⟩ (Fin r)) : DefOk P w K mg base (k + 1) x fr := by
  refine ⟨f, fd, ps, F.ok S (fun vs H Q E h => ?_) (fun cdv A outer s H vs Q E hr h => ?_), hm, F.kp, F.bindsN hb⟩
  · obtain ⟨qs, ds, r, _, h2, h3, _⟩ := h
    rw [dpa_len h2]
    exact len ds r h3
  · obtain ⟨qs, ds, r, h1, h2, h3, h4⟩ := h
    refine ⟨_, pss_w, hbody cdv A outer s H E qs ds r hr h3 _ _ _ (start_rl h2 h1) (fun _ z => nomatch z) ?_⟩
    have same : ∀ {ω' : Om} {H' : Hp}, Stp [] ⟨qs, []⟩ ω' H H' → Same H H' := fun st b o e => st.keep b o e (fun z => nomatch z) (.inl rfl)
    refine ⟨fun δ' ω' σ' H' z st l => ?_, fun r' ω' v H' z st l dv => ?_, fun C ω' σ' H' z st l => ?_, fun _ _ _ _ z => False.elim z, fun _ _ _ _ z => False.elim z⟩
    · have z : r = .ok .none := z
      subst z
      exact h4 .non H' (same st) .non
    · cases r' with
      | im d =>
        have z : r = .ok d := z
        subst z
        exact h4 v H' (same st) (dpm (hid_more fun b hb => List.mem_append_left _ (by rw [st.ps]; exact hb)) dv)
      | ad a => exact False.elim z
    · have z : r = .er C := z
      subst z
      exact h4 H' (same st)
end
end FP

namespace FP
open PySem PySem.Spec PyProof.Rows L2
/-- a tuple times a number below 2: itself by 1, else an empty one -/
def fewSpec (l : Addr) (o : Obj) (k : Int) : PySem.Spec := fun _ R s =>
  s.heap.get? l = some o ∧ (k = 1 → R (.ok (.ret (.ref l))) s) ∧
    (k ≠ 1 → R (.ok (.ret (.ref s.heap.objs.size))) { s with heap := s.heap.push { cls := .type "tuple", data := .seq #[] } })
theorem times_few {l : Addr} {its : Array Value} {n : Nat} {dd : Option Addr} {sl : Array (Option Value)} {k : Int} {t : Tok}
    (ne : its.isEmpty = false) (small : k ≤ 1) (low : -1000 ≤ k) :
    Meets (Builtin.«tuple.__mul__» ⟨[.ref l, .int k t], []⟩) (fewSpec l ⟨.type "tuple", dd, .seq its n, sl⟩ k) := by
  have inIx : ¬ ((decide (k < -(2 ^ 63)) || decide (k ≥ 2 ^ 63)) = true) := by
    rw [Bool.or_eq_true, decide_eq_true_iff, decide_eq_true_iff]
    omega
  have ix := AutoSeq1.idx_int
  refine .of_wp fun prog w A R ⟨hp, g, d, tk, os⟩ ⟨hl, same, new⟩ => ?_
  wp_walk using wpAny_loadPart' hl
  rw [if_neg inIx]
  wp_walk using wpAny_loadPart' hl
  by_cases e : k = 1
  · rw [if_pos (by rw [e, Bool.or_eq_true]; exact .inr rfl)]
    wp_walk using wpAny_loadPart' hl
    exact ⟨_, rfl, same e⟩
  · rw [if_neg (by rw [ne, Bool.false_or, beq_iff_eq]; exact e), if_pos (by rw [Bool.or_eq_true, decide_eq_true_iff]; omega)]
    wp_walk using wpAny_loadPart' hl
    exact ⟨_, rfl, new e⟩
/-- .. which is what the program's sign for it asks -/
theorem eval_few {prog : Program} {w : World} {A : Around} {Q E : Value → Shared → Prop} {s : Shared} {l : Addr} {its : Array Value} {n : Nat}
    {dd : Option Addr} {sl : Array (Option Value)} {k : Int} {t : Tok} (at_ : s.heap.get? l = some ⟨.type "tuple", dd, .seq its n, sl⟩)
    (ne : its.isEmpty = false) (small : k ≤ 1) (low : -1000 ≤ k) (same : k = 1 → Q (.ref l) s)
    (new : k ≠ 1 → Q (.ref s.heap.objs.size) { s with heap := s.heap.push { cls := .type "tuple", data := .seq #[] } }) :
    wpAny (model prog w) A (binaryOp .Mult (.ref l) (.int k t)) Q E s := by
  have isTup : s.TypeIs (.ref l) "tuple" := ⟨_, at_, rfl⟩
  have isInt := fun z : Shared => typeIs_int z k t
  have own : wpAny (model prog w) A (call (.builtin "tuple.__mul__") [.ref l, .int k t]) Q E s :=
    call_meets F.slot_tuple_mul isTup F.entry_tuple_mul (F.args_tuple_mul_2 _ _) (times_few ne small low) ⟨at_, same, new⟩
  have first := int_rmul_tuple k t l its n dd sl
  exact wpAny_binaryOp_repeat_ref (by decide) isTup isInt noFill_tuple_mul F.fills_int_mul F.slot_int_rmul repeat_tuple F.slot_int_index.lookup
    (call_meets F.slot_int_rmul (isInt s) F.entry_int_rmul (F.args_int_rmul_2 _ _) first ⟨at_, rfl, isTup, own⟩)

def rRepA (K : PySem.W.Frag) : R2 := fun x y H Q => ∃ l k xs, x = .ref l ∧ y = .int k ∧ SqT K H l xs ∧ xs ≠ [] ∧ -1000 ≤ k ∧ k ≤ 1000 ∧ xs.length ≤ 1000 ∧ (k = 1 → Q (.ref l) H) ∧ (k ≠ 1 → ∀ p, H p = none → Q (.ref p) (upd H p (.tup (List.replicate k.toNat xs).flatten)))
section
variable {X : Cx}
theorem op_repA : OpR X (binaryOp .Mult) (rRepA X.K) := by
  rintro pins s σ H x y v u Q I rx ry ⟨l, k, xs, rfl, rfl, tup, some, low, high, len, same, new⟩
  by_cases small : k ≤ 1
  case neg => exact op_repT pins s σ H _ _ v u Q I rx ry ⟨l, k, xs, rfl, rfl, tup, some, by omega, high, len, new (by omega)⟩
  cases rx
  rcases ry with ⟨t, rfl⟩
  rcases I.tuple tup with ⟨its, r, ⟨⟨c, dd, da, sl⟩, at_, isT, n, isS⟩, _⟩
  cases show c = _ from isT
  cases show da = _ from isS
  refine eval_few at_ ?_ small low (fun e => ⟨.ref l, H, I, rfl, same e⟩) fun e => ?_
  · match its, xs, r with
    | a :: b, _, _ => rfl
    | [], [], _ => exact absurd rfl some
  have none := new e
  rw [show k.toNat = 0 by omega] at none
  have I' := I.laid (t' := s.toks) (o := .tup []) (fun b o q => Heap.get?_push_of_some _ q) (Nat.le_refl _) ⟨Nat.zero_le _, [], .nil, IsTup.new _ _⟩
  exact ⟨.ref s.heap.objs.size, _, I', rfl, none _ (I.hok.fresh (Nat.le_refl _))⟩
end
/-- a list that stands by itself -/
def PLt (X : Cx) (δ : De) (ω : Om) (e : Expr) (ds : List PyData) : Prop :=
  ∀ σ H, Rl X.K H σ δ ω → ∀ Q : VK, (∀ p vs H', Same H H' → H' p = some (.lst vs) → DpAll X.K (hid (ads ω) H') vs ds → Q (.ref p) H') → wpe X e σ H Q
section
variable {X : Cx} {δ : De} {ω : Om} {a b c e : Expr} {es : List Expr} {d da db dc dz : PyData} {ds dt : List PyData} {pos p : Pos}
theorem PLt.pl (h : PLt X δ ω e ds) : PL X δ ω e ds := fun σ H r Q k => h σ H r Q fun p vs H' s h1 h2 => k p vs H' s (SqL.of h1) h2
theorem PN.plt (h : PN X δ ω e ds) : PLt X δ ω e ds := fun σ H r Q k => h σ H r Q fun p vs H' s _ h1 h2 => k p vs H' s h1 (dpam hid_cons h2)
theorem flat_one {α : Type} (n : Nat) (x : α) : (List.replicate n [x]).flatten = List.replicate n x := by
  induction n with
  | zero => rfl
  | succ n ih => rw [List.replicate_succ, List.flatten_cons, ih, List.replicate_succ] <;> rfl
theorem rd_repT {K : PySem.W.Frag} {k : Int} (hne : ds ≠ []) (h1 : -1000 ≤ k) (h2 : k ≤ 1000) (hz : ds.length ≤ 1000) : RD K (rRepA K) (.tuple ds) (.int k) (.tuple (List.replicate k.toNat ds).flatten) := fun ps x y H t hx hy Q q => by
  cases hy
  cases hx with
  | tup h3 h4 =>
    rename_i l vs
    have hl := dpa_len h4
    refine ⟨l, k, vs, rfl, rfl, same_sqt hid_sub h3, fun z => hne ?_, h1, h2, by omega, fun e => ?_, fun e p hp => ?_⟩
    · subst z
      exact List.eq_nil_of_length_eq_zero (by rw [← hl]; rfl)
    · have e1 : k.toNat = 1 := by omega
      rw [e1] at q
      have e2 : (List.replicate 1 ds).flatten = ds := by simp
      rw [e2] at q
      exact q _ H (Same.refl H) (.tup h3 h4)
    · exact q _ _ (same_new hp) (.tup (SqT.of (hid_of (new_out t hp) upd_same)) (dpam (hid_same (same_new hp)) (dpa_rep h4 _)))
theorem pd_repT {k : Int} (ha : PD X δ ω a (.tuple ds)) (hb : PD X δ ω b (.int k)) (hne : ds ≠ []) (h1 : -1000 ≤ k) (h2 : k ≤ 1000) (hz : ds.length ≤ 1000) : PD X δ ω (.BinOp a .Mult b pos) (.tuple (List.replicate k.toNat ds).flatten) := pd_op op_repA (rd_repT hne h1 h2 hz) ha hb
/-- (x,) * k -/
theorem pd_rep1 {k : Int} (ha : PD X δ ω a (.tuple [d])) (hb : PD X δ ω b (.int k)) (h1 : -1000 ≤ k) (h2 : k ≤ 1000) : PD X δ ω (.BinOp a .Mult b pos) (.tuple (List.replicate k.toNat d)) :=
  (pd_repT ha hb (by simp) h1 h2 (by simp)).eq (by rw [flat_one])
theorem rd_catT {K : PySem.W.Frag} (hz : ds.length + dt.length ≤ 10000) : RD K (rCatA K) (.tuple ds) (.tuple dt) (.tuple (ds ++ dt)) := fun ps x y H t hx hy Q q => by
  cases hx with
  | tup h3 h4 =>
    cases hy with
    | tup h5 h6 =>
      rename_i l vs m us
      have hl := dpa_len h4
      have hm := dpa_len h6
      refine ⟨l, m, vs, us, rfl, rfl, same_sqt hid_sub h3, same_sqt hid_sub h5, by rw [hl, hm, sizeLine_eq]; omega, fun z => ?_, fun _ z => ?_, fun _ _ p hp => ?_⟩
      · subst z
        cases h4
        exact q _ H (Same.refl H) (.tup h5 h6)
      · subst z
        cases h6
        rw [List.append_nil] at q
        exact q _ H (Same.refl H) (.tup h3 h4)
      · exact q _ _ (same_new hp) (.tup (SqT.of (hid_of (new_out t hp) upd_same)) (dpam (hid_same (same_new hp)) (dpa_app h4 h6)))
theorem pd_catT (ha : PD X δ ω a (.tuple ds)) (hb : PD X δ ω b (.tuple dt)) (hz : ds.length + dt.length ≤ 10000) : PD X δ ω (.BinOp a .Add b pos) (.tuple (ds ++ dt)) := pd_op op_catA (rd_catT hz) ha hb
theorem pn_rep {k : Int} (ha : PLt X δ ω a ds) (hb : PD X δ ω b (.int k)) (h1 : -1000 ≤ k) (h2 : k ≤ 1000) (hz : ds.length ≤ 1000) : PN X δ ω (.BinOp a .Mult b pos) (List.replicate k.toNat ds).flatten := fun σ H rl Q q =>
  we (pe_op op_rep pe_w pe_w) (ha σ H rl _ fun l vs H1 s1 h3 d1 => hb σ H1 (rl.mono s1) _ fun y H2 s2 d2 => by
    cases d2
    refine ⟨l, k, vs, rfl, rfl, s2 l _ h3, by omega, by omega, ?_, fun p hp => q p _ _ ((s1.trans s2).trans (same_new hp)) ((s1.trans s2).free hp) upd_same (dpam (hid_new hp (same_new hp)) (dpam (hid_same s2) (dpa_rep d1 _)))⟩
    have a1 : vs.length * k.toNat ≤ 1000 * 1000 := Nat.mul_le_mul (by rw [dpa_len d1]; exact hz) (by omega)
    rw [sizeLine_eq]
    omega)
theorem pn_rep1 {k : Int} (ha : PLt X δ ω a [d]) (hb : PD X δ ω b (.int k)) (h1 : -1000 ≤ k) (h2 : k ≤ 1000) : PN X δ ω (.BinOp a .Mult b pos) (List.replicate k.toNat d) := by
  have h := pn_rep (pos := pos) ha hb h1 h2 (by simp)
  rw [flat_one] at h
  exact h
def cutD (xs : List PyData) (lo hi : Option Int) : List PyData := (xs.drop (HT.sIx xs.length 0 lo)).take (HT.sIx xs.length xs.length hi - HT.sIx xs.length 0 lo)
theorem cut_dp {K : PySem.W.Frag} {H : Hp} {vs : List V} (h : DpAll K H vs ds) (lo hi : Option Int) : DpAll K H (cutV vs lo hi) (cutD ds lo hi) := by
  unfold cutV cutD
  rw [dpa_len h]
  exact dpa_take _ (dpa_drop _ h)
/-- a part of a slice -/
def PO1 (X : Cx) (δ : De) (ω : Om) : Option Expr → Option Int → Prop
  | none, o => o = none
  | some e, o => ∃ i, o = some i ∧ PD X δ ω e (.int i)
def wpo (X : Cx) : Option Expr → TO
  | none => tNoPart
  | some e => tPart (wpe X e)
theorem po_w {o : Option Expr} : PO X o (wpo X o) := by
  cases o with
  | none => exact po_none
  | some e => exact po_some pe_w
theorem po_run {o : Option Expr} {i : Option Int} (h : PO1 X δ ω o i) : ∀ σ H, Rl X.K H σ δ ω → ∀ Q : Option Int → Hp → Prop, (∀ H', Same H H' → Q i H') → wpo X o σ H Q := fun σ H rl Q k => by
  cases o with
  | none =>
    have e : i = none := h
    subst e
    exact k H (Same.refl H)
  | some e =>
    obtain ⟨j, e1, h1⟩ := h
    subst e1
    exact h1 σ H rl _ fun v H1 s1 d1 => by
      cases d1
      exact ⟨j, rfl, k H1 s1⟩
theorem pd_slT {lo hi : Option Expr} {i j : Option Int} {p2 : Pos} (ha : PD X δ ω a (.tuple ds)) (hl : PO1 X δ ω lo i) (hh : PO1 X δ ω hi j) : PD X δ ω (.Subscript a (.Slice lo hi none p2) pos) (.tuple (cutD ds i j)) := fun σ H rl Q k =>
  we (pe_slice sl_tupA pe_w po_w po_w) (ha σ H rl _ fun v H1 s1 d1 => po_run hl σ H1 (rl.mono s1) _ fun H2 s2 => po_run hh σ H2 (rl.mono (s1.trans s2)) _ fun H3 s3 => by
    have s13 := (s1.trans s2).trans s3
    have d3 := dpm (hid_same (s2.trans s3)) d1
    cases d3 with
    | tup h1 h2 =>
      rename_i l vs
      refine ⟨l, vs, rfl, same_sqt hid_sub h1, fun z => ?_, fun _ p hp => k _ _ (s13.trans (same_new hp)) (.tup (SqT.of (hid_of (new_out (there_mono rl.ro.there s13) hp) upd_same)) (dpam (hid_same (same_new hp)) (cut_dp h2 i j)))⟩
      have e : cutD ds i j = ds := by
        unfold cutD
        rw [← dpa_len h2, z.1, z.2, List.drop_zero, Nat.sub_zero, dpa_len h2, List.take_length]
      rw [e] at k
      exact k _ H3 s13 (.tup h1 h2))
end
end FP

namespace FP
open PySem PySem.Spec PyProof.Rows L2
def spL (K : PySem.W.Frag) (T : List (Addr × Str)) : Sp := fun vs H Q _ => ∃ (a : Addr) (ns : List Int), vs = [.ref a] ∧ SqL K H a (ns.map V.int) ∧ ns.length ≤ 63 ∧ (∀ z ∈ ns, Builtin.Int.intBits z ≤ 1048576) ∧ LamX.Tabs T H ∧ ∀ H', Q (.bl true) H'
theorem dpa_ints {K : PySem.W.Frag} {H : Hp} : ∀ ns : List Int, DpAll K H (ns.map V.int) (ns.map .int)
  | [] => .nil
  | n :: ns => .cons (.int n) (dpa_ints ns)
def FinT : Out → Prop
  | .rt (.im d) _ => d = .bool true
  | _ => False
theorem law_ok {P : Program} {w : World} {K : PySem.W.Frag} {mg : Str → Option Value} {base : Heap} {x qual y : Str} {params : Arguments} {body : List Stmt} {scope : Scope} {dV kV doc pm cdv ct oc : Value} {an od : Option Addr} {osl : Array (Option Value)} {f : Addr} {N : List Str} {k : Nat} {T : List (Addr × Str)}
    (lk : K.lookup f = some ⟨oc, od, .func (PySem.W.fnOf x qual params body scope dV kV doc pm an cdv ct), osl⟩) (hcd : PySem.W.codeIn K cdv qual = true) (S : FnScope N [y] scope)
    (hbody : ∀ (A : Around) (outer : List Env) (s : Shared) (H : Hp) (E : XK) (ns : List Int), Room k (A.deeper (envOfC qual scope s.heap.objs.size f cdv)) → ns.length ≤ 63 → (∀ z ∈ ns, Builtin.Int.intBits z ≤ 1048576) →
      SD (cxOf (L2N.CX P w) P w K mg base N qual scope f cdv A outer s H E) (WOf E) T body (startD N [.list (ns.map .int)]) ⟨[], []⟩ FinT) :
    FnOk P w K mg base (L2N.CX P w) (k + 1) f (PySem.W.fnOf x qual params body scope dV kV doc pm an cdv ct) [y] (spL K T) := by
  refine fn_of lk hcd S (fun vs H Q E h => ?_) (fun A outer s H vs Q E hr h => ?_)
  · obtain ⟨a, ns, rfl, _⟩ := h
    rfl
  · obtain ⟨a, ns, rfl, h1, h2, h3, h4, h5⟩ := h
    refine ⟨_, pss_w, hbody A outer s H E ns hr h2 h3 _ _ _ (start_rl (vs := [.ref a]) (.cons (.lst (by rw [hid_nil]; exact h1) (dpa_ints ns)) .nil) (fun _ z => nomatch z)) h4 ?_⟩
    refine ⟨fun _ _ _ _ z => False.elim z, fun r' ω' v H' z st l dv => ?_, fun _ _ _ _ z => False.elim z, fun _ _ _ _ z => False.elim z, fun _ _ _ _ z => False.elim z⟩
    cases r' with
    | im d =>
      have z : d = .bool true := z
      subst z
      cases dv
      exact h5 H'
    | ad a => exact False.elim z

/-- what the told rule asks of the maker's def -/
structure LamT (X : Cx) (T : List (Addr × Str)) : Prop where
  ex : ∃ c P, LamX.TabB X.base X.mg c P ∧ X.env.code = .ref c ∧ (P, X.env.qual ++ "<lambda>") ∈ T ∧ ∀ p ∈ T, p.1 = P → p.2 = X.env.qual ++ "<lambda>"
/-- the def that calls what it gets -/
structure Told (K : PySem.W.Frag) (mg : Str → Option Value) (x : Str) (st : Stmt) : Prop where
  ex : ∃ g fd, FunD K x x (defArgs st) (defBody st) (defScope st) [] [] g fd ∧ mg x = some (.ref g)
theorem rl_ext {K : PySem.W.Frag} {T : List (Addr × Str)} {H H' : Hp} {σ : L2.St} {δ : De} {ω : Om} (e : LamX.ExtN H H') (hps : ω.ps = []) (rl : Rl K H σ δ ω) : Rl K H' σ δ ω := by
  have hh : LamX.ExtN (hid (ads ω) H) (hid (ads ω) H') := fun b o z n => hid_of (hid_out z).1 (e b o (hid_out z).2 n)
  have hk : Ke [(0, Str.ofString "")] (hid (ads ω) H) (hid (ads ω) H') := fun b o z p => hh b o z (p.resolve_left (by simp))
  have hsd : ∀ {r : Sd} {v : V}, SdV K (hid (ads ω) H) r v → SdV K (hid (ads ω) H') r v := fun {r v} z => by
    cases r with
    | im d => exact dp_ke hk d v z
    | ad a => exact z
  refine ⟨rl.len, fun i r h => ?_, fun a o h => ?_, rl.ro.nd, fun a h => ?_⟩
  · obtain ⟨v, h1, h2⟩ := rl.sl i r h
    exact ⟨v, h1, hsd h2⟩
  · have g := rl.ro.ob a o h
    exact odv_keep (fun w => hsd w) (fun u nt g1 => e a _ g1 nt) g
  · rw [hps] at h
    cases h
section
variable {X : Cx} {W : WX} {T : List (Addr × Str)} {δ : De} {ω : Om} {d : PyData} {pos p : Pos} {k : Nat} {R : Out → Prop}
end
end FP

namespace FP
open PySem PySem.Spec PyProof.Rows L2
structure ExcF (K : PySem.W.Frag) (mg : Str → Option Value) (x : Str) (C : Addr) : Prop where
  xP : PySem.W.excIn K C He.veBase "ValueError.__new__" = true
  gP : mg x = some (.ref C)
  kP : PySem.W.keepIn K (.ref C) = true
  bP : PySem.W.subIn K (.ref C) (.type "BaseException") = some true
  tP : PySem.W.typeIn K (.ref C) = some (.type "type")
section
variable {X : Cx} {W : WX} {T : List (Addr × Str)} {δ : De} {ω : Om} {pos p : Pos} {R : Out → Prop} {ss : List Stmt}
theorem sd_raise {x m : Str} {C : Addr} {j : Nat} {p2 pos2 : Pos} (F : ExcF X.K X.mg x C) (tk : L2N.Takes X W) (hR : R (.ex C ω)) (hc : X.calm = true) (hg : Gl X x := by rfl) (hdb : (x == ("__debug__" : Str)) = false := by decide) :
    SD X W T (.Raise (some (.Call (.Name x p) [.Constant (.str m) j p2] [] pos)) none pos2 :: ss) δ ω R :=
  sd_cons fun σ H D rl t k => ws (L2N.ps_raise hc tk (L2N.pmk_own PySem.F.excBase_ValueError F.xP F.gP F.kP (raises_own F.bP F.tP) hg hdb)) (k.ex C ω σ H hR .refl rl.ro)
/-- a call as a statement: it may raise -/
theorem sd_callX {a : Expr} {es : List Expr} {x : Str} {k : Nat} {ds : List PyData} {fr : List PyData → Rs → Prop} {rr : Rs} {pos2 : Pos} (G : DefOk X.prog X.w X.K X.mg X.base k x fr) (hr : Room k X.A) (tk : L2N.Takes X W) (ha : PDs X δ ω (a :: es) ds) (hf : fr ds rr)
    (h1 : ∀ d, rr = .ok d → SD X W T ss δ ω R) (h2 : ∀ C, rr = .er C → R (.ex C ω)) (hg : Gl X x := by rfl)
    (hdb : (x == ("__debug__" : Str)) = false := by decide) (he : starEach (a :: es) X.env = (false, eval a X.env) :: starEach es X.env := by rfl) (hpl : (backTo pos (starEach es X.env)).any (·.1) = false := by rfl)
    (hs : swapsWith (.Call (.Name x p) (a :: es) [] pos) none pos2.line X.env = pure false := by rfl) : SD X W T (.Expr (.Call (.Name x p) (a :: es) [] pos) pos2 :: ss) δ ω R :=
  sd_exprX (ex_call G hr tk ha hf (by
    cases rr with
    | ok d => exact h1 d rfl
    | er C => exact h2 C rfl) hg hdb he hpl) hs
end
end FP

namespace FP
open PySem PySem.Spec PyProof.Rows L2
def Shp (n : Nat) (d : PyData) : Prop := d.canLay0 = true ∧ d.depth ≤ n
theorem shp_all {n : Nat} : ∀ {ds : List PyData}, (∀ x ∈ ds, Shp n x) → PyData.canLayAll0 ds = true ∧ PyData.depthAll ds ≤ n
  | [], _ => ⟨rfl, Nat.zero_le _⟩
  | x :: xs, h => by
    obtain ⟨a, b⟩ := shp_all (ds := xs) fun y hy => h y (List.mem_cons_of_mem _ hy)
    obtain ⟨c, d⟩ := h x List.mem_cons_self
    constructor
    · show (x.canLay0 && PyData.canLayAll0 xs) = true
      rw [c, a]
      rfl
    · show max x.depth (PyData.depthAll xs) ≤ n
      omega
theorem Shp.tup {n : Nat} {ds : List PyData} (h : ∀ x ∈ ds, Shp n x) : Shp (n + 1) (.tuple ds) := ⟨(shp_all h).1, by
  show PyData.depthAll ds + 1 ≤ n + 1
  have := (shp_all h).2
  omega⟩
theorem Shp.lst {n : Nat} {ds : List PyData} (h : ∀ x ∈ ds, Shp n x) : Shp (n + 1) (.list ds) := ⟨(shp_all h).1, by
  show PyData.depthAll ds + 1 ≤ n + 1
  have := (shp_all h).2
  omega⟩
theorem Shp.int {n : Nat} (i : Int) : Shp n (.int i) := ⟨rfl, Nat.zero_le _⟩
theorem Shp.non {n : Nat} : Shp n .none := ⟨rfl, Nat.zero_le _⟩
theorem Shp.bl {n : Nat} (b : Bool) : Shp n (.bool b) := ⟨rfl, Nat.zero_le _⟩
theorem Shp.str {n : Nat} {z : Str} (h : PyData.strOk z = true) : Shp n (.str z) := ⟨h, Nat.zero_le _⟩
theorem Shp.ok {n : Nat} {d : PyData} (h : Shp n d) (hn : n ≤ 64 := by decide) : SeqAt.shaped d = true := by
  unfold SeqAt.shaped
  rw [h.1, decide_eq_true (Nat.le_trans h.2 hn)]
  rfl
theorem Shp.refl {n : Nat} {d : PyData} (h : Shp n d) : PyData.eqv d d = true := SeqAt.eqv_refl d h.1
end FP

namespace FP
open PySem PySem.Spec PyProof.Rows L2
def PX (X : Cx) (T : List (Addr × Str)) (δ : De) (ω : Om) (e : Expr) (d : PyData) : Prop := ∀ σ H, Rl X.K H σ δ ω → LamX.Tabs T H → ∀ Q : VK, (∀ v H', Stp T ω ω H H' → Rl X.K H' σ δ ω → Dp X.K (hid (ads ω) H') v d → Q v H') → wpe X e σ H Q
def PXt (X : Cx) (T : List (Addr × Str)) (δ : De) (ω : Om) (e : Expr) (k : Bool) : Prop := ∀ σ H, Rl X.K H σ δ ω → LamX.Tabs T H → ∀ Q : Bool → Hp → Prop, (∀ H', Stp T ω ω H H' → Rl X.K H' σ δ ω → Q k H') → wpt X e σ H Q
def PXs (X : Cx) (T : List (Addr × Str)) (δ : De) (ω : Om) (es : List Expr) (ds : List PyData) : Prop := ∀ σ H, Rl X.K H σ δ ω → LamX.Tabs T H → ∀ Q : List V → Hp → Prop, (∀ vs H', Stp T ω ω H H' → Rl X.K H' σ δ ω → DpAll X.K (hid (ads ω) H') vs ds → Q vs H') → wpa X es σ H Q
section
variable {X : Cx} {W : WX} {T : List (Addr × Str)} {δ : De} {ω : Om} {a b c e : Expr} {es r : List Expr} {d da db dz : PyData} {ds : List PyData} {pos p : Pos} {k x y : Bool} {R : Out → Prop} {ss sa sb : List Stmt}
theorem PD.px (h : PD X δ ω e d) : PX X T δ ω e d := fun σ H rl t Q q => h σ H rl Q fun v H' s dv => q v H' (.of s) (rl.mono s) dv
theorem xt_cmp {op : CmpOp} {r : R2} (ho : OpR X (compareOp op) r) (hr : RD X.K r da db (.bool k)) (ha : PX X T δ ω a da) (hb : PX X T δ ω b db) (hm : behindInMarks op b = false) : PXt X T δ ω (.Compare a [op] [b] pos) k := fun σ H rl t Q q =>
  wt (pt_cmpR ho pe_w pe_w hm) (ha σ H rl t _ fun x H1 s1 l1 d1 => hb σ H1 l1 (s1.tab t) _ fun y H2 s2 l2 d2 =>
    hr _ x y H2 l2.ro.there (dp_ke s2.seen da x d1) d2 _ fun z H3 s3 d3 => by
      cases d3
      exact ⟨_, rfl, q H3 ((s1.trans s2).trans (.of s3)) (l2.mono s3)⟩)
theorem sd_ifx {kk : Bool} (h : PXt X T δ ω c kk) (h1 : kk = true → SD X W T sa δ ω (Nxt X W T ss R)) (h2 : kk = false → SD X W T sb δ ω (Nxt X W T ss R)) : SD X W T (.If c sa sb pos :: ss) δ ω R :=
  sd_cons fun σ H D rl t k => ws (ps_if pt_w pss_w pss_w) (h σ H rl t _ fun H' s l => by
    cases kk with
    | true => exact iteT (h1 rfl σ H' D l (s.tab t) (k.step s))
    | false => exact iteF (h2 rfl σ H' D l (s.tab t) (k.step s)))
theorem sd_ifxF (h : PXt X T δ ω c false) (h2 : SD X W T ss δ ω R) : SD X W T (.If c sa [] pos :: ss) δ ω R := sd_ifx h (fun z => by cases z) fun _ => sd_nil h2
theorem pxs_nil : PXs X T δ ω [] [] := fun σ H rl t Q k => wa pa_nil (k [] H .refl rl .nil)
theorem pxs_cons (ha : PX X T δ ω e d) (hr : PXs X T δ ω es ds) (hs : starEach (e :: es) X.env = (false, eval e X.env) :: starEach es X.env := by rfl) : PXs X T δ ω (e :: es) (d :: ds) := fun σ H rl t Q k =>
  wa (pa_cons pe_w pa_w hs) (ha σ H rl t _ fun v H1 s1 l1 d1 => hr σ H1 l1 (s1.tab t) _ fun vs H2 s2 l2 d2 => k (v :: vs) H2 (s1.trans s2) l2 (.cons (dp_ke s2.seen d v d1) d2))
end
section
variable {X : Cx} {T : List (Addr × Str)} {δ : De} {ω : Om} {d : PyData} {pos p : Pos} {k : Nat}
end
end FP

namespace FP
open PySem PySem.Spec PyProof.Rows L2
theorem law_at {l : PySem.W.OpenLaw} {w : World} {K : PySem.W.Frag} {mg : Str → Option Value} {h : Heap} {fa : List He.Fa} {fn : List He.DefD} {ts : List He.Tab} {ex : PySem.W.Frag → Bool} {params : Arguments} {body : List Stmt} {scope : Scope} {f : Addr} {N : List Str} {k : Nat} {x : Str}
    (KX : K.In h) (G : h.Ns mainGlobals mg) (hfa : mg "law" = some (.ref f)) (c : He.SaysX fa fn ts [("law", none)] ex w h K) (hd : (⟨("law", none), "law", "law", params, body, scope, [], []⟩ : He.DefD) ∈ fn) (hg : He.Fa.glo "law" ∈ fa) (S : FnScope N [x] scope)
    (hb : ∀ (kV doc pm : Value) (an : Option Addr) (cdv ct : Value) (us : List Value), us.length = [x].length → bindArgs (PySem.W.fnOf "law" "law" params body scope .none kV doc pm an cdv ct) ⟨us, []⟩ = pure ([x].zip us))
    (hbody : ∀ (base : Heap), K.In base → base.Ns mainGlobals mg → ∀ (T : List (Addr × Str)) (cdv : Value) (A : Around) (outer : List Env) (s : Shared) (H : Hp) (E : XK) (ns : List Int), T ≠ [] → LamT (cxOf (L2N.CX l.prog w) l.prog w K mg base N "law" scope f cdv A outer s H E) T →
      Room k (A.deeper (envOfC "law" scope s.heap.objs.size f cdv)) → ns.length ≤ 63 → (∀ z ∈ ns, Builtin.Int.intBits z ≤ 1048576) →
      SD (cxOf (L2N.CX l.prog w) l.prog w K mg base N "law" scope f cdv A outer s H E) (WOf E) T body (startD N [.list (ns.map .int)]) ⟨[], []⟩ FinT) :
    LamX.LawAtS l w K (L2N.CX l.prog w) (k + 1) 63 x mg f h := by
  have cd := c.t.d
  obtain ⟨fd, F⟩ := cd.defs hd
  have e := hfa.symm.trans (He.glo_ok KX G (cd.facts hg))
  cases e
  obtain ⟨oc, od, dV, kV, doc, pm, an, cdv, ct, osl, rfl, lk, hcd, hD, hK⟩ := F.ex
  have edV : dV = .none := by
    rcases hD with ⟨_, e⟩ | ⟨e, _⟩
    · exact e
    · exact absurd rfl e
  subst edV
  obtain ⟨cc, rfl⟩ := He.codeIn_ref hcd
  have ec : He.codeOf K ("law", none) = cc := He.codeOf_eq lk rfl
  have mem : (("law", none) : He.Defn) ∈ ([("law", none)] : List He.Defn) := List.mem_singleton.mpr rfl
  have hbA := FunD.bindsA (ps := [x]) F hb
  refine ⟨_, [He.cT K ("law", none)], spL K [((He.cT K ("law", none)).2, (Str.ofString "law" ++ ".<locals>.") ++ "<lambda>")], fun p hp => ?_, fun p hp => ?_, fun p hp => ?_, fun s u => hbA s [u] rfl, fun H a ns h1 h2 h3 h4 => ?_, fun base hB hN hTB => ?_⟩
  · rw [List.mem_singleton.mp hp]
    exact c.empty _ mem
  · rw [List.mem_singleton.mp hp]
    exact c.out _ mem
  · rw [List.mem_singleton.mp hp]
    exact PySem.W.codeHd_of_K KX (c.hd _ mem)
  · refine ⟨a, ns, rfl, h4, h1, h2, fun p hp => ?_, fun _ => rfl⟩
    rw [List.mem_singleton.mp hp]
    exact LamX.TabS.nil (h3 _ (List.mem_singleton.mpr rfl))
  · refine law_ok lk hcd S fun A outer s H E ns hr h1 h2 => hbody base hB hN _ (.ref cc) A outer s H E ns (by simp) ⟨cc, (He.cT K ("law", none)).2, ?_, rfl, List.mem_singleton.mpr rfl, fun p hp _ => by rw [List.mem_singleton.mp hp]; rfl⟩ hr h1 h2
    have z := hTB _ (List.mem_singleton.mpr rfl)
    have e1 : (He.cT K ("law", none)).1 = cc := ec
    rw [← e1]
    exact z
theorem cx_none {P : Program} {w : World} {H : Hp} {s : Shared} {e : Value} {s' : Shared} (h : L2N.CX P w [] H s (fun _ _ _ => False) e s') : False := by
  obtain ⟨_, _, _, _, _, _, _, _, _, _, _, _, z⟩ := h
  exact z.elim
theorem exc_of {K : PySem.W.Frag} {mg : Str → Option Value} {h : Heap} (KX : K.In h) (G : h.Ns mainGlobals mg) {x : Str} (c1 : (He.Fa.glo x).ok K = true) (c2 : (He.Fa.exc x).ok K = true) : ExcF K mg x (He.ga K x) := by
  obtain ⟨a, b, c, d⟩ := He.exc_ok c2
  exact ⟨a, He.glo_ok KX G c1, b, c, d⟩
theorem gld_int {K : PySem.W.Frag} {mg : Str → Option Value} {h : Heap} (KX : K.In h) (G : h.Ns mainGlobals mg) {x : Str} {i : Int} (c : (He.Fa.int x i).ok K = true) : GlD K mg x (.int i) := by
  obtain ⟨t, e⟩ := He.int_ok KX G c
  exact ⟨.int i, _, e, ⟨t, rfl⟩, fun _ => .int i⟩
end FP

namespace FP
open PySem PySem.Spec PyProof.Rows L2 HotX L2H
section
variable {prog : Program} {w : World} {A : Around} {E : Value → Shared → Prop} {s : Shared}
end
end FP

namespace FP
open PySem PySem.Spec PyProof.Rows L2 HotX L2H
theorem preSum_take {f : Nat → Int} {ns : List Int} (h : ∀ i, i < ns.length → f i = ns.getD i 0) : ∀ j, j ≤ ns.length → preSum f j = (ns.take j).sum
  | 0, _ => by simp [preSum]
  | j + 1, hj => by
    have e : ns.take (j + 1) = ns.take j ++ [ns.getD j 0] := by
      rw [List.take_add_one]
      simp [List.getElem?_eq_getElem (show j < ns.length by omega)]
    rw [preSum, preSum_take h j (by omega), h j (by omega), e, List.sum_append]
    simp
end FP

namespace FP
open PySem PySem.Spec PyProof.Rows L2 HotX L2H
/-- [elt for name in a list], while an exception is handled; what comes out lies on no heap -/
def tLh (K : PySem.W.Frag) (j : Nat) (tl te : TE) : TE := fun σ H Q => tl σ H fun v G => ∃ (a : Addr) (xs ys : List V), v = .ref a ∧ SqL K G a xs ∧ ys.length = xs.length ∧ xs.length ≤ 1000 ∧
  (∀ (i : Nat) (x y : V), xs[i]? = some x → ys[i]? = some y → ∀ G1, Same G G1 → ∀ R : VK, (∀ G2, Same G1 G2 → R y G2) → te (σ.set j (some x)) G1 R) ∧
  ∀ D G1, G D = none → Same G G1 → G1 D = some (.lst ys) → Q (.ref D) G1
section
variable {X : Cx}
end
end FP

namespace FP
open PySem PySem.Spec PyProof.Rows L2 HotX L2H
theorem call_isP {X : Cx} {q : Addr × Obj} {D : Addr} (hq : q ∈ X.pn) (C : ExcC X.K D) (z1 : q.2.cls = .ref D) (z2 : q.2.dict = none) (hf : ∃ vs, q.2.data = .fields vs) : CallR X (.builtin "isinstance") (rIsE X.K D q.1) := by
  intro pins s σ H xs us Q I r h
  obtain ⟨c, cv, b, rfl, hcv, e, k⟩ := h
  cases r with
  | cons r1 r2 =>
    cases r2 with
    | cons r3 r4 =>
      cases r4
      cases r1
      have e3 := hcv _ r3
      subst e3
      have got := (I.pin q (List.mem_append_left _ hq)).1
      obtain ⟨vs, hv⟩ := hf
      have J : PySem.W.InstAt s.heap q.1 q.2 D none := by
        obtain ⟨qa, oc, od, oda, osl⟩ := q
        dsimp only at z1 z2 hv got ⊢
        subst z1 z2 hv
        exact ⟨got, rfl, rfl, trivial⟩
      exact PySem.W.kia_one (PySem.W.handS_kitx_exc C.hg C.hk C.hs C.hd C.ha C.hn C.ht C.hm) I.kIn J e (fun z => nomatch z) fun t => ⟨.bl b, H, I.kept (t' := t) fun _ _ z => z, rfl, k⟩
/-- what the head says of a class whose instances are asked -/
def excB (K : PySem.W.Frag) (D : Addr) : Bool :=
  He.eqO (PySem.W.findIn K (.ref D) "__getattribute__") (some (some (.builtin "BaseException.__getattribute__"))) && (He.eqO (PySem.W.findIn K (.ref D) "__getattr__") (some none) && (decide (PySem.W.subIn K (.ref D) (.type "BaseException") = some true) && (PySem.W.hasDictIn K D &&
  (He.eqO (PySem.W.findIn K (.ref D) "__class__") (some (some (.builtin "object.__class__"))) && (He.eqO (PySem.W.specialIn K (.builtin "object.__class__") "__get__") (some (some (.builtin "getset_descriptor.__get__"))) && (decide (PySem.W.takesIn K (.builtin "object.__class__") = some true) && decide (PySem.W.mroIn K D (.type "object") = some true)))))))
theorem excB_ok {K : PySem.W.Frag} {D : Addr} (h : excB K D = true) : ExcC K D := by
  obtain ⟨h1, h⟩ := He.ba h
  obtain ⟨h2, h⟩ := He.ba h
  obtain ⟨h3, h⟩ := He.ba h
  obtain ⟨h4, h⟩ := He.ba h
  obtain ⟨h5, h⟩ := He.ba h
  obtain ⟨h6, h⟩ := He.ba h
  obtain ⟨h7, h⟩ := He.ba h
  exact ⟨He.eqO_ok h1, He.eqO_ok h2, of_decide_eq_true h3, h4, He.eqO_ok h5, He.eqO_ok h6, of_decide_eq_true h7, of_decide_eq_true h⟩
/-- what a word about exceptions of class D finds: the classes asked, the answers -/
def wordB (K : PySem.W.Frag) (D : Str) (cs : List (Str × Bool)) : Bool :=
  excB K (He.ga K D) && (cs.all (fun c => decide (PySem.W.kitOne K (.ref (He.ga K D)) (.ref (He.ga K c.1)) = some c.2)) && decide (PySem.W.kitOne K (.ref (He.ga K D)) (.type "ValueError") = some true))
theorem wordB_ok {K : PySem.W.Frag} {D : Str} {cs : List (Str × Bool)} (h : wordB K D cs = true) : ExcC K (He.ga K D) ∧ (∀ c ∈ cs, PySem.W.kitOne K (.ref (He.ga K D)) (.ref (He.ga K c.1)) = some c.2) ∧ PySem.W.kitOne K (.ref (He.ga K D)) (.type "ValueError") = some true := by
  obtain ⟨h1, h⟩ := He.ba h
  obtain ⟨h2, h3⟩ := He.ba h
  exact ⟨excB_ok h1, fun c hc => of_decide_eq_true (List.all_eq_true.mp h2 c hc), of_decide_eq_true h3⟩
/-- the pinned exception of class D -/
structure Pin (X : Cx) (q : Addr × Obj) (D : Addr) : Prop where
  m : q ∈ X.pn
  C : ExcC X.K D
  z1 : q.2.cls = .ref D
  z2 : q.2.dict = none
  hf : ∃ vs, q.2.data = .fields vs
section
variable {X : Cx} {δ : De} {ω : Om} {a b c e : Expr} {es : List Expr} {d : PyData} {ds : List PyData} {pos p p1 p2 : Pos} {q : Addr × Obj} {D : Addr} {k : Bool}
theorem pd_isP (i : Nat) {y x : Str} {cv : V} {u : Value} (Z : Pin X q D) (hn : PE X (.Name x p2) (tC cv)) (hu : ∀ v, RelV cv v → v = u) (hk : PySem.W.kitOne X.K (.ref D) u = some k) (hm : X.mg "isinstance" = none) (hd : δ[i]? = some (some (.ad q.1)) := by rfl) (hN : X.N[i]? = some y := by rfl)
    (hv : Vis X.env.scope y := by first | exact Or.inl rfl | exact Or.inr (Or.inl rfl) | exact Or.inr (Or.inr rfl)) (h1 : (y == ("__debug__" : Str)) = false := by decide) (h2 : (y == ("__classdict__" : Str)) = false := by decide) (hg : Gl X "isinstance" := by rfl)
    (he : starEach [.Name y p1, .Name x p2] X.env = (false, eval (.Name y p1) X.env) :: starEach [.Name x p2] X.env := by rfl) (he2 : starEach [.Name x p2] X.env = (false, eval (.Name x p2) X.env) :: starEach [] X.env := by rfl) (hpl : (backTo pos (starEach [.Name x p2] X.env)).any (·.1) = false := by rfl) :
    PD X δ ω (.Call (.Name "isinstance" p) [.Name y p1, .Name x p2] [] pos) (.bool k) := fun σ H rl Q r => by
  obtain ⟨v, e1, e2⟩ := rl.sl i _ hd
  have e2 : v = .ref q.1 := e2
  subst e2
  exact we (pe_callB (call_isP Z.m Z.C Z.z1 Z.z2 Z.hf) hg hm (by decide +kernel) (pa_cons (pe_var hN hv h1 h2) (pa_cons hn pa_nil he2) he) (he := he) (hpl := hpl)) ⟨_, e1, cv, u, k, rfl, hu, hk, r _ H (Same.refl H) (.bl _)⟩
theorem pd_intB (hm : X.mg "int" = none) (ha : PD X δ ω a (.bool k)) (hg : Gl X "int" := by rfl) (he : starEach [a] X.env = (false, eval a X.env) :: starEach [] X.env := by rfl) : PD X δ ω (.Call (.Name "int" p) [a] [] pos) (.int (if k then 1 else 0)) :=
  pd_callTy call_int1 (fun ps vs H _ h Q r => by
    cases h with
    | cons h1 h2 =>
      cases h2
      cases h1
      exact .inr ⟨k, rfl, r _ H (Same.refl H) (.int _)⟩) hm (by decide +kernel) (pds_cons ha pds_nil he) hg (by decide) (by decide) he (by rfl)
/-- l.index(True) of a list of truths -/
theorem pd_idxT {l : Expr} {apos : Pos} {bs : List Bool} {j m : Nat} (hl : PL X δ ω l (bs.map .bool)) (hj : bs[j]? = some true) (hn : ∀ i, i < j → bs[i]? = some false)
    (hbase : attributeBase l "index" X.env (eval l X.env) = eval l X.env := by rfl)
    (hfew : ((backTo pos (starEach [.Constant (.bool true) m p1] X.env)).all (fun x => !x.1) && (backToKw pos (keywordEach [] X.env)).all (fun x => x.1.isSome)
      && decide (([.Constant (.bool true) m p1] : List Expr).length + ([] : List Keyword).length + (if ([] : List Keyword).isEmpty then 0 else 1) < 30)) = true := by rfl)
    (hline : (apos.endLine == pos.line) = true := by rfl) (hs : starEach [.Constant (.bool true) m p1] X.env = (false, eval (.Constant (.bool true) m p1) X.env) :: starEach [] X.env := by rfl) :
    PD X δ ω (.Call (.Attribute l "index" apos) [.Constant (.bool true) m p1] [] pos) (.int (j : Nat)) := fun σ H rl Q r =>
  we (pe_bm PySem.F.plainAttrs_list PySem.F.slot_list_index (by first | rfl | kernel_rfl | decide +kernel) mt_index pe_w (pa_cons pe_bl pa_nil hs) hbase hfew hline hs) (hl σ H rl _ fun a vs G s1 h1 h2 => by
    have ev : vs = bs.map V.bl := dpa_bl h2
    subst ev
    refine ⟨.inl ⟨rfl, _, h1⟩, a, _, _, j, .bl true, rfl, rfl, h1, rfl, ?_, ?_, rfl, fun m z lt e => ?_, r _ G s1 (.int _)⟩
    · rw [List.all_map]
      exact List.all_eq_true.mpr fun _ _ => rfl
    · rw [List.getElem?_map, hj]
      rfl
    · rw [List.getElem?_map, hn m lt] at e
      cases e
      rfl)
end
end FP

namespace FP
open PySem PySem.Spec PyProof.Rows L2 HotX L2H
structure WordOk (P : Program) (w : World) (K : PySem.W.Frag) (mg : Str → Option Value) (base : Heap) (k : Nat) (wd : Str) (fw : Addr → PyData → Prop) : Prop where
  ex : ∃ g, mg wd = some (.ref g) ∧ PySem.W.keepIn K (.ref g) = true ∧ ∀ (A : Around) (outer : List Env) (s : Shared) (H : Hp) (q : Addr × Obj) (C : Addr) (d : PyData) (ps : List Addr) (Q : VK), fw C d → RoomH k A → Hot1 A q → PinOk outer H s q → q.2.cls = .ref C → q.2.dict = none →
    Env0 P w K mg base A outer s H → (∀ a ∈ ps, H a ≠ none) → (∀ v H', Same H H' → Dp K (hid ps H') v d → Q v H') → codeAny (model P w) A (.call (.ref g) ⟨[.ref q.1], []⟩) (CR C8.CX0 outer P w H s Q C8.E0) s
theorem start1 {K : PySem.W.Frag} {H : Hp} {ps : List Addr} {N : List Str} {a : Addr} {n : Nat} (hn : N.length = n + 1) (hp : ∀ a ∈ ps, H a ≠ none) : Rl K H (L2.start N [.ref a]) (some (.ad a) :: List.replicate n none) ⟨ps, []⟩ := by
  refine ⟨?_, fun i r h => ?_, Ro.nil hp⟩
  · unfold L2.start
    simp [hn]
  · cases i with
    | zero =>
      cases h
      exact ⟨.ref a, rfl, rfl⟩
    | succ i =>
      rw [List.getElem?_cons_succ, List.getElem?_replicate] at h
      split at h
      · cases h
      · cases h
/-- such a def, by its body -/
theorem word_ok {P : Program} {w : World} {K : PySem.W.Frag} {mg : Str → Option Value} {base : Heap} {x : Str} {params : Arguments} {body : List Stmt} {scope : Scope} {kws : List (Str × V)} {f : Addr} {fd : FuncData} {N : List Str} {y : Str} {k n : Nat} {fw : Addr → PyData → Prop}
    (F : FunD K x x params body scope [] kws f fd) (hm : mg x = some (.ref f)) (S : FnScope N [y] scope) (hn : N.length = n + 1)
    (hb : ∀ (kV doc pm : Value) (an : Option Addr) (cdv ct : Value) (us : List Value), us.length = [y].length → bindArgs (PySem.W.fnOf x x params body scope .none kV doc pm an cdv ct) ⟨us, []⟩ = pure ([y].zip us))
    (hbody : ∀ (cdv : Value) (A : Around) (outer : List Env) (s : Shared) (H : Hp) (q : Addr × Obj) (C : Addr) (d : PyData) (ps : List Addr), fw C d → Hot1 A q → q.2.cls = .ref C → q.2.dict = none → RoomH k (A.deeper (envOfC x scope s.heap.objs.size f cdv)) →
      SD (cxH C8.CX0 P w K mg base N x scope f cdv A outer s H C8.E0 q) (fun _ _ _ _ => False) [] body (some (.ad q.1) :: List.replicate n none) ⟨ps, []⟩ (Fin (.ok d))) : WordOk P w K mg base (k + 1) x fw := by
  have hbs := FunD.bindsN (ps := [y]) F hb
  have kp := F.kp
  obtain ⟨oc, od, dV, kV, doc, pm, an, cdv, ct, osl, rfl, lk, hcd, hD, hK⟩ := F.ex
  refine ⟨f, hm, kp, fun A outer s H q C d ps Q hf hr hot pin c1 c2 e0 hp hQ => ?_⟩
  have old : ∀ b o, base.get? b = some o → s.heap.get? b = some o := fun b o e => (e0.bs b o e).1
  have inK : K.In s.heap := e0.mod.kin.keeps old
  have bnd := hbs s [.ref q.1] inK rfl
  refine codeAny_call_function hr.depth (inK _ _ lk) rfl S.co S.gen rfl (PySem.W.codeRec_of inK hcd) (bnd _ _ _ _ (wpAny_newFunctionEnv_cells S.kind (fun z hz => ?_) fun env he s1 x1 => ?_))
  · rcases S.par z.1 (List.of_mem_zip hz).1 with t | t
    · exact .inl t
    · exact .inr ⟨t, PySem.W.cellsFrom_some _ _ _ (.inl t)⟩
  subst he
  refine ⟨(e0.mod.nolimit.keeps old).keeps x1.toInCall.keep, codeAny_func ?_⟩
  have I : Inv (cxH C8.CX0 P w K mg base N x scope f cdv A outer s H C8.E0 q) [] (L2.start N [.ref q.1]) H s1 := inv_startH (us := [.ref q.1]) S pin e0 rfl (.cons rfl .nil) x1
  have go := hbody cdv A outer s H q C d ps hf hot c1 c2 (hr.deeper _) (L2.start N [.ref q.1]) H { nx := fun _ H' => Q .non H', rt := Q } (start1 hn hp) (fun _ z => nomatch z) ?_
  · refine wpAny_mono (pss_w.run [] s1 _ H _ I go) (fun fl s2 hs => ?_) fun _ _ z => z
    cases fl with
    | ret u =>
      obtain ⟨v, σ', H', J, rv, z⟩ := hs
      exact ⟨v, H', J.os, J.bare, J.base, J.hok, rv, z⟩
    | next =>
      obtain ⟨σ', H', J, z⟩ := hs
      exact ⟨.non, H', J.os, J.bare, J.base, J.hok, rfl, z⟩
    | brk =>
      obtain ⟨_, _, _, z⟩ := hs
      exact z.elim
    | cont =>
      obtain ⟨_, _, _, z⟩ := hs
      exact z.elim
  · have same : ∀ {ω' : Om} {H' : Hp}, Stp [] ⟨ps, []⟩ ω' H H' → Same H H' := fun st b o e => st.keep b o e (fun z => nomatch z) (.inl rfl)
    refine ⟨fun δ' ω' σ' H' z st l => ?_, fun r' ω' v H' z st l dv => ?_, fun _ _ _ _ z => (nomatch z), fun _ _ _ _ z => False.elim z, fun _ _ _ _ z => False.elim z⟩
    · cases z
      exact hQ .non H' (same st) .non
    · cases r' with
      | im d' =>
        cases z
        exact hQ v H' (same st) (dpm (hid_more fun b hb => List.mem_append_left _ (by rw [st.ps]; exact hb)) dv)
      | ad a => exact False.elim z
/-- the word is called, in the suite -/
theorem pe_word {X : Cx} {q : Addr × Obj} {k i : Nat} {wd n : Str} {fw : Addr → PyData → Prop} {C : Addr} {d : PyData} {p5 p6 p7 : Pos} (G : WordOk X.prog X.w X.K X.mg X.base k wd fw) (hr : RoomH k X.A) (hot : Hot1 X.A q) (hq : q ∈ X.pn) (c1 : q.2.cls = .ref C) (c2 : q.2.dict = none) (hf : fw C d)
    (hg : Gl X wd) (hN : X.N[i]? = some n) (hv : Vis X.env.scope n) (hdb : (wd == ("__debug__" : Str)) = false := by decide) (h1 : (n == ("__debug__" : Str)) = false := by decide) (h2 : (n == ("__classdict__" : Str)) = false := by decide)
    (he : starEach [.Name n p6] X.env = (false, eval (.Name n p6) X.env) :: starEach [] X.env := by rfl) :
    PE X (.Call (.Name wd p5) [.Name n p6] [] p7) (fun σ H Q => σ[i]? = some (some (.ref q.1)) ∧ ∃ ps, (∀ a ∈ ps, H a ≠ none) ∧ ∀ v H', Same H H' → Dp X.K (hid ps H') v d → Q v H') := by
  obtain ⟨g, m, kp, run⟩ := G.ex
  refine ⟨fun pins s σ H Q I h => ?_⟩
  obtain ⟨hs, ps, hp, hQ⟩ := h
  have ha : PA X [.Name n p6] (tCons (fun σ H Q => ∃ v, σ[i]? = some (some v) ∧ Q v H) tNil) := pa_cons (pe_var hN hv h1 h2) pa_nil he
  refine wpAny_Call_Name_kw (ld_glob I hg m (PySem.W.callWith_K (h₀ := X.base) I.ok.mod.kin kp (thn (ha.run p7 pins s σ H (fun vs H1 => vs = [V.ref q.1] ∧ H1 = H) I ⟨_, hs, rfl, rfl⟩) fun us s1 w => ?_) he (by rfl)) hdb)
  obtain ⟨vs, H1, J, rv, ev, eH⟩ := w
  subst ev
  subst eH
  refine ⟨J.kIn, ?_⟩
  rw [Vals.ref1 rv]
  have P1 := J.pin q (List.mem_append_left _ hq)
  have pin : PinOk X.stack H1 s1 q := ⟨P1.1, P1.2.1, fun z => (List.mem_cons.mp (J.stkSub q.1 z)).elim P1.2.2.1 P1.2.2.2.1, P1.2.2.2.2⟩
  refine wpAny_call (codeAny_mono (run X.A X.stack s1 H1 q C d ps Q hf hr hot pin c1 c2 J.env0 hp hQ) fun r s2 z => ?_)
  cases r with
  | error e => exact False.elim z
  | ok fl =>
    cases fl with
    | ret u => exact J.after z
    | next => exact False.elim z
    | brk => exact False.elim z
    | cont => exact False.elim z
end FP

namespace FP
open PySem PySem.Spec PyProof.Rows L2 HotX L2H
def PR (X : Cx) (W : WX) (δ : De) (ω : Om) (e : Expr) (r : Rs) : Prop := ∀ σ H, Rl X.K H σ δ ω → ∀ Q : VK, RsQ X.K (ads ω) H Q (fun cls d H' => W cls d σ H') r → wpe X e σ H Q
section
variable {X : Cx} {W : WX} {δ : De} {ω : Om} {a e : Expr} {es : List Expr} {d : PyData} {ds : List PyData} {pos p : Pos} {k : Nat} {x : Str}
theorem pr_call {fr : List PyData → Rs → Prop} {rr : Rs} (G : DefOk X.prog X.w X.K X.mg X.base k x fr) (hr : Room k X.A) (tk : L2N.Takes X W) (ha : PDs X δ ω (a :: es) ds) (hf : fr ds rr) (hg : Gl X x := by rfl)
    (hdb : (x == ("__debug__" : Str)) = false := by decide) (he : starEach (a :: es) X.env = (false, eval a X.env) :: starEach es X.env := by rfl) (hpl : (backTo pos (starEach es X.env)).any (·.1) = false := by rfl) : PR X W δ ω (.Call (.Name x p) (a :: es) [] pos) rr := fun σ H rl Q q => by
  obtain ⟨f, fd, ps, F, m, kp, b⟩ := G.ex
  refine we (pe_callS (E := WE W) F hr hg m kp b (fun σ => L2N.passAt tk σ) pa_w hdb he hpl) (ha σ H rl _ fun vs H1 s1 d1 => ⟨ads ω, ds, rr, there_mono rl.ro.there s1, d1, hf, ?_⟩)
  cases rr with
  | ok d => exact fun v H' s' d' => q v H' (s1.trans s') d'
  | er C => exact fun H' s' => q H' (s1.trans s')
end
end FP

namespace FP
open PySem PySem.Spec PyProof.Rows L2 HotX L2H
/-- told: what the lambda answers, or the word about what it raised -/
def ToldD (K : PySem.W.Frag) (CS : Addr) (fw : Addr → PyData → Prop) (d : PyData) : Rs → Prop
  | .ok d' => d' = d
  | .er C => fw C d ∧ PySem.W.exmOne K (.ref C) (.ref CS) = some true
section
variable {X : Cx} {T : List (Addr × Str)} {δ : De} {ω : Om} {d : PyData} {pos p : Pos} {k : Nat}
end
end FP

namespace FP
open PySem PySem.Spec PyProof.Rows L2
section
variable {X : Cx} {W : WX} {T : List (Addr × Str)} {δ : De} {ω : Om} {a b c e : Expr} {es : List Expr} {d da db dz : PyData} {ds dt : List PyData} {pos p : Pos} {k : Bool} {x : Str} {R : Out → Prop} {ss : List Stmt}
theorem pd_neg {i : Int} (ha : PD X δ ω a (.int i)) : PD X δ ω (.UnaryOp .USub a pos) (.int (-i)) := fun σ H rl Q q =>
  we (pe_un un_neg pe_w) (ha σ H rl _ fun v H1 s1 d1 => by
    cases d1
    exact ⟨i, rfl, q _ H1 s1 (.int _)⟩)
theorem rd_notN0 {K : PySem.W.Frag} : RD K (fun x y H Q => y = .non ∧ Q (.bl (!decide (x = .non))) H) .none .none (.bool false) := fun ps x y H _ hx hy Q q => by
  cases hx
  cases hy
  exact ⟨rfl, q _ H (Same.refl H) (.bl _)⟩
/-- a list of one's own that is compared -/
theorem pt_neL (hu : X.A.units + 64 < cLine) (h1 : SeqAt.shaped (.list ds) = true) (h2 : SeqAt.shaped db = true) (ha : PL X δ ω a ds) (hb : PD X δ ω b db) : PTd X δ ω (.Compare a [.NotEq] [b] pos) (!PyData.eqv (.list ds) db) := fun σ H rl Q q =>
  wt (pt_cmpR (op_neD hu) pe_w pe_w (nomark _)) (ha σ H rl _ fun p vs H1 s1 h3 d1 => hb σ H1 (rl.mono s1) _ fun y H2 s2 d2 =>
    ⟨.list ds, db, .lst (s2.seq h3) (dpam hid_sub (dpam (hid_same s2) d1)), dpm hid_sub d2, h1, h2, _, rfl, q H2 (s1.trans s2)⟩)
theorem app_step {K : PySem.W.Frag} {H : Hp} {σ : L2.St} {D : Addr} {xs : List PyData} {vs : List V} {y : V} (rl : Rl K H σ δ (omD ω D (.lst (xs.map .im)))) (e3 : H D = some (.lst vs)) (e4 : Paired (SdV K (hid (ads (omD ω D (.lst (xs.map .im)))) H)) (xs.map .im) vs)
    (d1 : Dp K (hid (ads (omD ω D (.lst (xs.map .im)))) H) y d) : Stp T (omD ω D (.lst (xs.map .im))) (omD ω D (.lst ((xs ++ [d]).map .im))) H (upd H D (.lst (vs ++ [y]))) ∧ Rl K (upd H D (.lst (vs ++ [y]))) σ δ (omD ω D (.lst ((xs ++ [d]).map .im))) := by
  have hh : Same (hid (ads (omD ω D (.lst (xs.map .im)))) H) (hid (ads (omD ω D (.lst ((xs ++ [d]).map .im)))) (upd H D (.lst (vs ++ [y])))) := hid_upd
  refine ⟨⟨fun b o h n _ => ?_, fun a h => .inl h, rfl, fun t => ?_⟩, ⟨rl.len, fun j r h => ?_, fun z o h => ?_, rl.ro.nd, fun z h hz => ?_⟩⟩
  · have nb : b ≠ D := fun z => n (by rw [z]; exact List.mem_cons_self)
    rw [upd_ne nb]
    exact h
  · intro q hq
    obtain ⟨ps, a1, a2, a3⟩ := t q hq
    refine ⟨ps, by rw [upd_ne (ne_of a1 e3 (by intro z; cases z))]; exact a1, a2, fun p' cv hc => ?_⟩
    obtain ⟨c0, b1, b2⟩ := a3 p' cv hc
    exact ⟨c0, b1, by rw [upd_ne (ne_of b2 e3 (by intro z; unfold LamX.CodeO at z; cases z))]; exact b2⟩
  · obtain ⟨v, h1, h2⟩ := rl.sl j r h
    exact ⟨v, h1, sdv_mono hh h2⟩
  · rcases List.mem_cons.mp h with q | q
    · cases q
      exact ⟨vs ++ [y], upd_same, im_dpa (dpa_app (dpam hh (dpa_im e4)) (.cons (dpm hh d1) .nil))⟩
    · have nd2 : (D :: ω.os.map (·.1)).Nodup := rl.ro.nd
      have na : z ≠ D := fun zz => (List.nodup_cons.mp nd2).1 (List.mem_map.mpr ⟨(z, o), q, zz⟩)
      have g := rl.ro.ob z o (List.mem_cons_of_mem _ q)
      exact odv_keep (fun w => sdv_mono hh w) (fun u _ g1 => by rw [upd_ne na]; exact g1) g
  · have hn := rl.ro.th z h
    by_cases za : z = D
    · rw [za, upd_same] at hz
      cases hz
    · rw [upd_ne za] at hz
      exact hn hz
theorem sd_appx (i : Nat) {p1 apos cpos : Pos} {D : Addr} {xs : List PyData} (he : PX X T δ (omD ω D (.lst (xs.map .im))) e d) (hk : SD X W T ss δ (omD ω D (.lst ((xs ++ [d]).map .im))) R) (hz : xs.length < 10000)
    (hd : δ[i]? = some (some (.ad D)) := by rfl) (hN : X.N[i]? = some x := by rfl) (hv : Vis X.env.scope x := by first | exact Or.inl rfl | exact Or.inr (Or.inl rfl) | exact Or.inr (Or.inr rfl))
    (h1 : (x == ("__debug__" : Str)) = false := by decide) (h2 : (x == ("__classdict__" : Str)) = false := by decide)
    (hs : swapsWith (.Call (.Attribute (.Name x p1) "append" apos) [e] [] cpos) none pos.line X.env = pure false := by rfl)
    (hbase : attributeBase (.Name x p1) "append" X.env (eval (.Name x p1) X.env) = eval (.Name x p1) X.env := by rfl)
    (hfew : ((backTo cpos (starEach [e] X.env)).all (fun x => !x.1) && (backToKw cpos (keywordEach [] X.env)).all (fun x => x.1.isSome)
      && decide (([e] : List Expr).length + ([] : List Keyword).length + (if ([] : List Keyword).isEmpty then 0 else 1) < 30)) = true := by rfl)
    (hline : (apos.endLine == cpos.line) = true := by rfl) (hst : starEach [e] X.env = (false, eval e X.env) :: starEach [] X.env := by rfl) :
    SD X W T (.Expr (.Call (.Attribute (.Name x p1) "append" apos) [e] [] cpos) pos :: ss) δ (omD ω D (.lst (xs.map .im))) R :=
  sd_cons fun σ H Dd rl t k => by
    obtain ⟨v, e1, e2⟩ := rl.sl i _ hd
    have e2 : v = .ref D := e2
    subst e2
    obtain ⟨vs, e3, e4⟩ := rl.ro.ob D _ List.mem_cons_self
    refine ws (ps_expr (pe_bm PySem.F.plainAttrs_list PySem.F.slot_list_append PySem.F.type_list_append mt_append (pe_var hN hv h1 h2) (pa_cons pe_w pa_nil hst) hbase hfew hline hst) hs) ⟨_, e1, .inl ⟨rfl, vs, SqL.of e3⟩, he σ H rl t _ fun y H1 s1 l1 d1 => ?_⟩
    obtain ⟨us, f3, f4⟩ := l1.ro.ob D _ List.mem_cons_self
    obtain ⟨g1, g2⟩ := app_step (T := T) l1 f3 f4 d1
    exact ⟨D, us, y, rfl, rfl, f3, by rw [dpa_len (dpa_im f4)]; exact Nat.lt_of_lt_of_le hz (by rw [sizeLine_eq]; decide), k.nx δ _ σ _ hk (s1.trans g1) g2⟩
/-- x = [..], a new list of what is told -/
theorem sd_ownx (i : Nat) {pos' lpos : Pos} (he : PXs X T δ ω es ds) (hk : ∀ D, SD X W T ss (δ.set i (some (.ad D))) (omD ω D (.lst (ds.map .im))) R) (hz : ds.length ≤ 1000) (hN : X.N.Nodup) (hi : X.N[i]? = some x := by rfl) (hx : Loc X.env.scope x := by first | exact Or.inl rfl | exact Or.inr rfl)
    (hs : swapsWith (.List es lpos) (some (.Name x pos')) pos.line X.env = pure false := by rfl) (hf : X.fn x = true ∨ X.env.scope.names.lookup x = some .local := by first | exact .inl rfl | exact .inr rfl | assumption) : SD X W T (.Assign [.Name x pos'] (.List es lpos) pos :: ss) δ ω R :=
  sd_cons fun σ H D rl t k => ws (ps_set hN hi hx (pe_lst pa_w) hs hf) (he σ H rl t _ fun vs H1 s1 l1 d1 => ⟨Nat.le_of_lt (small1000 (by rw [dpa_len d1]; exact hz)), fun q hq => by
    have l2 : Rl X.K (upd H1 q (.lst vs)) σ δ (omD ω q (.lst (ds.map .im))) := l1.omD hq (same_new hq) upd_same (dpam (hid_in hq (same_new hq)) d1)
    refine k.nx _ _ _ _ (hk q) (s1.trans ⟨fun b o h _ _ => same_new hq b o h, fun z h => ?_, rfl, fun t => t.ext (same_new hq)⟩) (l2.set (x := .ad q) (v := .ref q) rfl)
    rcases List.mem_cons.mp (show z ∈ q :: ω.os.map (·.1) from h) with w | w
    · exact .inr fun o ho => by
        rw [w, hq] at ho
        cases ho
    · exact .inl w⟩)
end
end FP

namespace FP
open PySem PySem.Spec PyProof.Rows L2
section
variable {X : Cx} {W : WX} {T : List (Addr × Str)} {δ : De} {ω : Om} {iter : Expr} {pos : Pos} {R : Out → Prop} {ss sa : List Stmt}
/-- for a, b, .. in ..: tuples -/
theorem sd_forU (is : List Nat) {n kk : Nat} {ts : List Expr} {p' : Pos} {items : List (List PyData)} (inv : Nat → De → Om → Prop) (hw : PWk X δ ω (.Tuple ts kk p') iter (items.map .tuple)) (h0 : inv 0 δ ω)
    (hb : ∀ i ds δ' ω', items[i]? = some ds → inv i δ' ω' → SD X W T sa (setAll δ' is ds) ω' (Turn1 inv i (Nxt X W T ss R) R))
    (hd : ∀ δ' ω', inv items.length δ' ω' → SD X W T ss δ' ω' R) (hn : ∀ ds ∈ items, ds.length = n) (hi : is.length = n) (hg : PG X (.Tuple ts kk p') (gTup X.K n (gAll is))) (hp : PassesOwn (model X.prog X.w) X.A X.env X.xe) (hc : X.calm = true) (hs : ∀ x, foldedSetIterable iter X.env x = pure x := by intro _; rfl) : SD X W T (.For (.Tuple ts kk p') iter sa [] pos :: ss) δ ω R := by
  obtain ⟨wi, h1, h2⟩ := hw
  refine sd_cons fun σ H D rl t k => ws (ps_for hp hc h1 hg pss_w hs) (h2 σ H rl _ fun J H1 s1 w => ?_)
  refine ⟨fun i m σ' H' => ∃ δ' ω', m = items.length - i ∧ i ≤ items.length ∧ inv i δ' ω' ∧ Stp T ω ω' H1 H' ∧ Rl X.K H' σ' δ' ω', ⟨items.length, δ, ω, by omega, Nat.zero_le _, h0, .refl, rl.mono s1⟩, ?_⟩
  rintro i m σ' H' ⟨δ', ω', em, hi2, iv, st, rl'⟩
  obtain ⟨go, stop, yld⟩ := w T H' (fun b o z p => (hid_out (st.seen b o z p)).2)
  rw [List.length_map] at go stop yld
  have k1 := k.step (Stp.of s1 : Stp T ω ω H H1)
  by_cases hlt : i < items.length
  · refine .inr ⟨go i hlt, fun σ2 H2 => ∃ δ2 ω2, inv (i + 1) δ2 ω2 ∧ Stp T ω ω2 H1 H2 ∧ Rl X.K H2 σ2 δ2 ω2, fun σ2 H2 ⟨δ2, ω2, a1, a2, a3⟩ => ⟨items.length - (i + 1), by omega, δ2, ω2, rfl, hlt, a1, a2, a3⟩, fun x H2 hy => ?_⟩
    obtain ⟨e2, d, ed, dx⟩ := yld i x H2 hlt hy
    subst e2
    have eds : items[i]? = some items[i] := List.getElem?_eq_getElem hlt
    rw [List.getElem?_map, eds] at ed
    cases ed
    have dx2 := dp_ke st.seen _ x dx
    have k2 := k1.step st
    cases dx2 with
    | tup g1 g2 =>
      refine ⟨_, _, rfl, same_sqt hid_sub g1, by rw [dpa_len g2]; exact hn _ (List.getElem_mem hlt), gAll_ok rl' g2 (hi.trans (hn _ (List.getElem_mem hlt)).symm) fun σ3 l3 => ?_⟩
      refine hb i _ δ' ω' eds iv _ _ _ l3 (st.tab (t.ext s1)) ?_
      exact ⟨fun δ2 ω2 σ2 H2 z q l => ⟨δ2, ω2, z, st.trans q, l⟩, fun r ω2 v H2 z q l dv => k2.rt r ω2 v H2 z q l dv, fun C ω2 σ2 H2 z q l => k2.ex C ω2 σ2 H2 z q l, fun δ2 ω2 σ2 H2 z q l => k2.nx δ2 ω2 σ2 H2 z q l, fun δ2 ω2 σ2 H2 z q l => ⟨δ2, ω2, z, st.trans q, l⟩⟩
  · have e : i = items.length := by omega
    subst e
    exact .inl ⟨stop, (k1.step st).nx δ' ω' σ' H' (hd δ' ω' iv) .refl rl'⟩
end
end FP

namespace FP
open PySem PySem.Spec PyProof.Rows L2
@[irreducible] def wpm (X : Cx) (cs : List MatchCase) (x : V) (first : Bool) : TS := fun D σ H => ∀ pins s u, Inv X pins σ H s → RelV x u → wpAny (model X.prog X.w) X.A (matchCases cs X.env u first) (SP X pins D) X.xe s
/-- the cases, asked of data -/
def MC (X : Cx) (W : WX) (T : List (Addr × Str)) (cs : List MatchCase) (d : PyData) (δ : De) (ω : Om) (R : Out → Prop) : Prop :=
  ∀ (first : Bool) (x : V) σ H D, Rl X.K H σ δ ω → LamX.Tabs T H → Dp X.K (hid (ads ω) H) x d → Kt X W T ω H D R → wpm X cs x first D σ H
/-- patterns that are names alone -/
def capN : List Pattern → Option (List Str)
  | [] => some []
  | .MatchAs none (some n) _ :: ps => (capN ps).map (n :: ·)
  | _ => none
theorem each_caps {M : Model} {A : Around} {E : Value → Shared → Prop} {env : Env} : ∀ {ps : List Pattern} {ns : List Str} {us : List Value} {s : Shared} {Q : Option (List (Str × Value)) → Shared → Prop}, capN ps = some ns → us.length = ns.length → Q (some (ns.zip us)) s → wpAny M A (matchEach ps env us) Q E s
  | [], ns, us, s, Q, h, hl, q => by
    cases h
    exact wpAny_matchEach_nil q
  | p :: ps, ns, us, s, Q, h, hl, q => by
    unfold capN at h
    split at h
    · rename_i h2
      cases h2
    · rename_i n pp ps' heq
      cases heq
      cases e : capN ps with
      | none =>
        rw [e] at h
        cases h
      | some ns' =>
        rw [e] at h
        cases h
        match us, hl with
        | u :: us', hl => exact wpAny_matchEach_cons (wpAny_matchPattern_Capture (each_caps e (Nat.succ.inj hl) q))
    · cases h
section
variable {X : Cx} {W : WX} {T : List (Addr × Str)} {δ : De} {ω : Om} {e : Expr} {d : PyData} {ds : List PyData} {pos p1 p2 p3 : Pos} {R : Out → Prop} {ss body : List Stmt} {cs : List MatchCase} {ps : List Pattern} {z : Str} {k : Nat}
theorem sd_match (he : PD X δ ω e d) (hm : MC X W T cs d δ ω (Nxt X W T ss R)) : SD X W T (.Match e cs pos :: ss) δ ω R := by
  refine sd_cons fun σ H D rl t kt => ?_
  have h1 := he σ H rl (fun v H1 => wpm X cs v true D σ H1) fun v H1 s1 d1 => hm true v σ H1 D (rl.mono s1) (t.ext s1) d1 (kt.step (.of s1))
  unfold wps
  intro pins s I
  refine wpAny_Match (wpAny_mono (pe_w.run pins s σ H _ I h1) (fun u s1 w => ?_) fun _ _ x => x)
  obtain ⟨v, H1, J, rv, q⟩ := w
  unfold wpm at q
  exact q pins s1 u J rv
theorem mc_nil (h : R (.nx δ ω)) : MC X W T [] d δ ω R := fun first x σ H D rl t dx kt => by
  unfold wpm
  exact fun pins s u I r => wpAny_matchCases_nil ⟨σ, H, I, kt.nx δ ω σ H h .refl rl⟩
/-- another number of things -/
theorem mc_len (hn : ds.length ≠ ps.length) (hz : ds.length ≤ 100000) (hr : MC X W T cs (.tuple ds) δ ω R) (hstar : ps.findIdx? (·.isStar) = none := by rfl) (hwild : (ps.all fun p => p.isWildcard || (p.isStar && p.names.isEmpty)) = false := by rfl) :
    MC X W T (⟨.MatchSequence ps p1, none, body⟩ :: cs) (.tuple ds) δ ω R := fun first x σ H D rl t dx kt => by
  have h2 := hr false x σ H D rl t dx kt
  unfold wpm at h2 ⊢
  intro pins s u I r
  cases dx with
  | tup g1 g2 =>
    obtain rfl : u = Value.ref _ := r
    obtain ⟨its, rv, it, _⟩ := I.tuple (same_sqt hid_sub g1)
    have len : its.length = ds.length := by rw [← rv.length, dpa_len g2]
    exact wpAny_matchCases_cons (matchSeq_tuple_miss it (by rw [List.size_toArray, len]; omega) (by rw [List.size_toArray, len]; exact hn) (h2 pins _ _ (I.kept (t' := s.toks + 1 + 1) fun _ _ z => z) rfl) hstar hwild)
theorem seq_word {E : Value → Shared → Prop} {pins : List (Addr × Obj)} {σ : L2.St} {H : Hp} {s : Shared} {a : Addr} {vs : List V} {y : Str} {Q : Option (List (Str × Value)) → Shared → Prop} (hc : X.calm = true) (I : Inv X pins σ H s) (g : SqT X.K H a (.str y :: vs)) (hl : vs.length = ps.length) (hz : vs.length < 100000)
    (hq : ∀ us s1, Inv X pins σ H s1 → Vals vs us → if y = z then wpAny (model X.prog X.w) X.A (matchEach ps X.env us) (fun r s2 => Q r s2) X.xe s1 else Q none s1) (hstar : (.MatchValue (.Constant (.str z) k p2) p3 :: ps : List Pattern).findIdx? (·.isStar) = none) :
    wpAny (model X.prog X.w) X.A (matchPattern (.MatchSequence (.MatchValue (.Constant (.str z) k p2) p3 :: ps) p1) X.env (.ref a)) Q X.xe s := by
  obtain ⟨its, rv, it, _⟩ := I.tuple g
  have len : its.length = (vs.length + 1) := by rw [← rv.length]; rfl
  cases rv with
  | cons r0 rr =>
    rename_i u0 us
    have lus : us.length = vs.length := by rw [← rr.length]
    refine matchSeq_tuple_hit it (by rw [List.size_toArray]; simp only [List.length_cons]; omega) (by rw [List.size_toArray]; simp only [List.length_cons]; omega) ?_ hstar rfl
    have J : Inv X pins σ H { s with toks := s.toks + 1 + 1 } := I.kept (t' := s.toks + 1 + 1) fun _ _ z => z
    have e1 : (u0 :: us).toArray.size = (.MatchValue (.Constant (.str z) k p2) p3 :: ps : List Pattern).length := by
      rw [List.size_toArray]
      simp only [List.length_cons]
      omega
    rw [← e1]
    refine unpackItems_tuple (I.ok.hd hc) (s := { s with toks := s.toks + 1 + 1 }) it fun h' ext => ?_
    have J2 : Inv X pins σ H { s with heap := h', toks := s.toks + 1 + 1 } := I.kept (t' := s.toks + 1 + 1) fun b o e => ext b o (Nat.ne_of_lt (Heap.lt_size e)) e
    show wpAny _ _ (matchEach (.MatchValue (.Constant (.str z) k p2) p3 :: ps) X.env (u0 :: us)) _ _ _
    refine wpAny_matchEach_cons (wpAny_matchPattern_Value (wpAny_mono ((pe_str (X := X) (x := z) (j := k) (pos := p2)).run pins _ σ H (fun v H1 => v = .str z ∧ H1 = H) J2 ⟨rfl, rfl⟩) (fun u s3 w => ?_) fun _ _ x => x))
    obtain ⟨v, H1, J3, rz, ev, eH⟩ := w
    subst ev
    subst eH
    refine wpAny_mono (op_eq (X := X) pins s3 σ H1 (.str y) (.str z) u0 u (fun v H2 => v = .bl (decide (y = z)) ∧ H2 = H1) J3 r0 rz ⟨rfl, ?_, rfl⟩) (fun uc s4 w => ?_) fun _ _ x => x
    · by_cases c : y = z
      · subst c
        simp
      · rw [decide_eq_false c, decide_eq_false (fun q => c (V.str.inj q))]
    · obtain ⟨v, H2, J4, rb, ev, eH⟩ := w
      subst ev
      subst eH
      cases rb
      have q := hq us s4 J4 rr
      by_cases c : y = z
      · rw [decide_eq_true c]
        rw [if_pos c] at q
        refine wpAny_of_eq (a := true) rfl ?_
        simp only [if_true]
        refine wpAny_mono q (fun r s5 w => ?_) fun _ _ x => x
        cases r with
        | none => exact w
        | some more => exact w
      · rw [decide_eq_false c]
        rw [if_neg c] at q
        exact wpAny_of_eq (a := false) rfl q
end
end FP

namespace FP
open PySem PySem.Spec PyProof.Rows L2
/-- the names' slots, all of them locals -/
def capB (N : List Str) (sc : Scope) : List Str → List Nat → Bool
  | [], [] => true
  | n :: ns, i :: is => decide (N[i]? = some n) && (decide (sc.names.lookup n = some .local) && capB N sc ns is)
  | _, _ => false
theorem assign_caps {X : Cx} {pins : List (Addr × Obj)} {H : Hp} {Q : L2.St → Hp → Prop} {M : Model} {A : Around} {E : Value → Shared → Prop} (hN : X.N.Nodup) : ∀ {ns : List Str} {is : List Nat} {us : List Value} {vs : List V} {σ : L2.St} {s : Shared}, capB X.N X.env.scope ns is = true → Inv X pins σ H s → Vals vs us → us.length = ns.length → gAll is vs σ H Q →
    wpAny M A (assignInOrder ((ns.zip us).map fun x => bindName X.env x.1) ((ns.zip us).map (·.2))) (fun _ s' => ∃ σ' H', Inv X pins σ' H' s' ∧ Q σ' H') E s
  | [], [], [], _, σ, s, _, I, .nil, _, g => wpAny_assignInOrder_none ⟨σ, H, I, g.2⟩
  | n :: ns, i :: is, u :: us, _, σ, s, hb, I, .cons r rr, hl, g => by
    obtain ⟨h1, h2⟩ := He.ba hb
    obtain ⟨h2, h3⟩ := He.ba h2
    obtain ⟨v, w, e, g⟩ := g
    cases e
    refine wpAny_assignInOrder_more (wpAny_bindName (store_ok I hN (of_decide_eq_true h1) (.inl (of_decide_eq_true h2)) r (fun s1 J => ?_) (.inr (of_decide_eq_true h2))))
    exact assign_caps hN h3 J rr (Nat.succ.inj hl) g
  | n :: ns, [], _, _, _, _, hb, _, _, _, _ => by cases hb
  | [], i :: is, _, _, _, _, hb, _, _, _, _ => by cases hb
  | [], [], u :: us, _, _, _, _, _, _, hl, _ => by cases hl
  | n :: ns, i :: is, [], _, _, _, _, _, _, hl, _ => by cases hl
section
variable {X : Cx} {W : WX} {T : List (Addr × Str)} {δ : De} {ω : Om} {d : PyData} {ds : List PyData} {p1 p2 p3 : Pos} {R : Out → Prop} {body : List Stmt} {cs : List MatchCase} {ps : List Pattern} {y z : Str} {k : Nat}
/-- another word -/
theorem mc_word (hc : X.calm = true) (hn : y ≠ z) (hl : ds.length = ps.length) (hz : ds.length < 100000) (hr : MC X W T cs (.tuple (.str y :: ds)) δ ω R) (hstar : (.MatchValue (.Constant (.str z) k p2) p3 :: ps : List Pattern).findIdx? (·.isStar) = none := by rfl) :
    MC X W T (⟨.MatchSequence (.MatchValue (.Constant (.str z) k p2) p3 :: ps) p1, none, body⟩ :: cs) (.tuple (.str y :: ds)) δ ω R := fun first x σ H D rl t dx kt => by
  have h2 := hr false x σ H D rl t dx kt
  unfold wpm at h2 ⊢
  intro pins s u I r
  cases dx with
  | tup g1 g2 =>
    obtain rfl : u = Value.ref _ := r
    cases g2 with
    | cons b1 b2 =>
      cases b1
      refine wpAny_matchCases_cons (seq_word (E := X.xe) (y := y) (z := z) hc I (same_sqt hid_sub g1) (by rw [dpa_len b2]; exact hl) (by rw [dpa_len b2]; exact hz) (fun us s1 J rv => ?_) hstar)
      rw [if_neg hn]
      exact h2 pins s1 _ J rfl
/-- this word: the names are set -/
theorem mc_hit (is : List Nat) {ns : List Str} (hc : X.calm = true) (hN : X.N.Nodup) (hl : ds.length = ps.length) (hz : ds.length < 100000) (hi : is.length = ds.length) (hcap : capN ps = some ns) (hat : capB X.N X.env.scope ns is = true) (hb : SD X W T body (setAll δ is ds) ω R)
    (hstar : (.MatchValue (.Constant (.str z) k p2) p3 :: ps : List Pattern).findIdx? (·.isStar) = none := by rfl) :
    MC X W T (⟨.MatchSequence (.MatchValue (.Constant (.str z) k p2) p3 :: ps) p1, none, body⟩ :: cs) (.tuple (.str z :: ds)) δ ω R := fun first x σ H D rl t dx kt => by
  have lns : ∀ {ps : List Pattern} {ns : List Str}, capN ps = some ns → ns.length = ps.length := by
    intro ps
    induction ps with
    | nil =>
      intro ns h
      cases h
      rfl
    | cons p ps ih =>
      intro ns h
      unfold capN at h
      split at h
      · rename_i h2
        cases h2
      · rename_i n pp ps' heq
        cases heq
        cases e : capN ps with
        | none =>
          rw [e] at h
          cases h
        | some ns' =>
          rw [e] at h
          cases h
          rw [List.length_cons, List.length_cons, ih e]
      · cases h
  unfold wpm
  intro pins s u I r
  cases dx with
  | tup g1 g2 =>
    obtain rfl : u = Value.ref _ := r
    cases g2 with
    | cons b1 b2 =>
      cases b1
      refine wpAny_matchCases_cons (seq_word (E := X.xe) (y := z) (z := z) hc I (same_sqt hid_sub g1) (by rw [dpa_len b2]; exact hl) (by rw [dpa_len b2]; exact hz) (fun us s1 J rv => ?_) hstar)
      rw [if_pos rfl]
      have lus : us.length = ns.length := by rw [← rv.length, dpa_len b2, hl, lns hcap]
      refine each_caps hcap lus ?_
      refine wpAny_mono (assign_caps hN hat J rv lus (gAll_ok (Q := fun σ' H' => H' = H ∧ Rl X.K H σ' (setAll δ is ds) ω) rl b2 hi fun σ' l => ⟨rfl, l⟩)) (fun _ s2 w => ?_) fun _ _ x => x
      obtain ⟨σ', H', J2, eH, l2⟩ := w
      subst eH
      exact pss_w.run pins s2 σ' H' D J2 (hb σ' H' D l2 t kt)
end
end FP

namespace FP
open PySem PySem.Spec PyProof.Rows L2
abbrev Fs := List (Str × PyData)
/-- fields as they lie -/
inductive FV (K : PySem.W.Frag) (H : Hp) : Fs → List (Str × V) → Prop
  | nil : FV K H [] []
  | cons {g : Str} {d : PyData} {v : V} {fs : Fs} {vs : List (Str × V)} (h : Dp K H v d) (r : FV K H fs vs) : FV K H ((g, d) :: fs) ((g, v) :: vs)
section
variable {X : Cx} {W : WX} {T : List (Addr × Str)} {δ : De} {ω : Om} {e : Expr} {d : PyData} {ds : List PyData} {pos p p1 : Pos} {R : Out → Prop} {ss : List Stmt} {a C : Addr} {fs : Fs} {f x : Str}
end
end FP

namespace FP
open PySem PySem.Spec PyProof.Rows L2
section
variable {X : Cx} {W : WX} {T : List (Addr × Str)} {δ : De} {ω : Om} {e : Expr} {d : PyData} {ds : List PyData} {pos p p1 : Pos} {R : Out → Prop} {ss : List Stmt} {a C : Addr} {fs : Fs} {f x : Str}
end
/-- self and what is handed to a method -/
structure MIn (K : PySem.W.Frag) (C : Addr) (vs : List V) (H : Hp) (ps : List Addr) (a : Addr) (fs : Fs) (ds : List PyData) : Prop where
  ex : ∃ dx fvs vs', vs = .ref a :: vs' ∧ (∀ b ∈ ps, H b ≠ none) ∧ H a = some (.ins C dx fvs) ∧ FV K (hid (a :: ps) H) fs fvs ∧ DpAll K (hid (a :: ps) H) vs' ds
/-- one that only reads -/
def spR (K : PySem.W.Frag) (C : Addr) (fr : Fs → List PyData → PyData → Prop) : Sp := fun vs H Q _ => ∃ ps a fs ds d, MIn K C vs H ps a fs ds ∧ fr fs ds d ∧ ∀ v H', Same H H' → Dp K (hid (a :: ps) H') v d → Q v H'
/-- one that writes self, or raises -/
def spW (K : PySem.W.Frag) (C : Addr) (fr : Fs → List PyData → Rs → Fs → Prop) : Sp := fun vs H Q E => ∃ ps a fs ds r fs', MIn K C vs H ps a fs ds ∧ fr fs ds r fs' ∧ ∀ H' dx fvs, (∀ b o, b ≠ a → H b = some o → H' b = some o) → H' a = some (.ins C dx fvs) → FV K (hid (a :: ps) H') fs' fvs →
  (match r with | .ok d => ∀ v, Dp K (hid (a :: ps) H') v d → Q v H' | .er Z => E (.ref Z) none H')
structure RdOk (P : Program) (w : World) (K : PySem.W.Frag) (mg : Str → Option Value) (base : Heap) (k : Nat) (C : Addr) (m : Str) (fr : Fs → List PyData → PyData → Prop) : Prop where
  ex : ∃ f fd ps, FnOk P w K mg base (L2N.CX P w) k f fd ps (spR K C fr) ∧ Meth K C m f ∧ L2.Binds K fd ps []
structure WrOk (P : Program) (w : World) (K : PySem.W.Frag) (mg : Str → Option Value) (base : Heap) (k : Nat) (C : Addr) (m : Str) (fr : Fs → List PyData → Rs → Fs → Prop) : Prop where
  ex : ∃ f fd ps, FnOk P w K mg base (L2N.CX P w) k f fd ps (spW K C fr) ∧ Meth K C m f ∧ L2.Binds K fd ps []
section
variable {P : Program} {w : World} {K : PySem.W.Frag} {mg : Str → Option Value} {base : Heap} {x qual : Str} {params : Arguments} {body : List Stmt} {scope : Scope} {kws : List (Str × V)} {f C : Addr} {fd : FuncData} {N ps : List Str} {k : Nat}
end
end FP

namespace FP
open PySem PySem.Spec PyProof.Rows L2
section
variable {X : Cx} {W : WX} {T : List (Addr × Str)} {δ : De} {ω : Om} {e : Expr} {es : List Expr} {d : PyData} {ds : List PyData} {pos p p1 apos : Pos} {R : Out → Prop} {ss : List Stmt} {a C : Addr} {fs fs' : Fs} {f x m : Str} {k : Nat}
end
end FP

namespace FP
open PySem PySem.Spec PyProof.Rows L2
mutual
def kdIs (K : PySem.W.Frag) : PyData → Value → Bool
  | .none, .none => true
  | .bool b, .bool c => decide (b = c)
  | .int i, .int j _ => decide (i = j)
  | .str x, .str y _ => decide (x = y)
  | .tuple ds, .ref a => match K.lookup a with
    | some ⟨.type c, _, .seq its _, _⟩ => decide (c = "tuple") && (decide (its.size ≤ sizeLine) && kdAll K ds its.toList)
    | _ => false
  | _, _ => false
def kdAll (K : PySem.W.Frag) : List PyData → List Value → Bool
  | [], [] => true
  | d :: ds, u :: us => kdIs K d u && kdAll K ds us
  | _, _ => false
end
mutual
theorem kdIs_ok {K : PySem.W.Frag} : ∀ {d : PyData} {u : Value}, kdIs K d u = true → ∃ v, RelV v u ∧ ∀ H, Dp K H v d
  | .none, .none, _ => ⟨.non, rfl, fun _ => .non⟩
  | .bool b, .bool c, h => by
    have e := of_decide_eq_true (show decide (b = c) = true from by unfold kdIs at h; exact h)
    subst e
    exact ⟨.bl b, rfl, fun _ => .bl b⟩
  | .int i, .int j t, h => by
    have e := of_decide_eq_true (show decide (i = j) = true from by unfold kdIs at h; exact h)
    subst e
    exact ⟨.int i, ⟨t, rfl⟩, fun _ => .int i⟩
  | .str x, .str y t, h => by
    have e := of_decide_eq_true (show decide (x = y) = true from by unfold kdIs at h; exact h)
    subst e
    exact ⟨.str x, ⟨t, rfl⟩, fun _ => .str x⟩
  | .tuple ds, .ref a, h => by
    unfold kdIs at h
    cases q : K.lookup a with
    | none =>
      rw [q] at h
      cases h
    | some o =>
      obtain ⟨oc, od, dt, osl⟩ := o
      rw [q] at h
      cases oc with
      | type c =>
        cases dt with
        | seq its n =>
          obtain ⟨h1, h2⟩ := He.ba (show (decide (c = "tuple") && (decide (its.size ≤ sizeLine) && kdAll K ds its.toList)) = true from h)
          obtain ⟨h3, h4⟩ := He.ba h2
          obtain ⟨vs, g1, g2⟩ := kdAll_ok h4
          exact ⟨.ref a, rfl, fun H => .tup (.inr ⟨_, its, n, q, congrArg Value.type (of_decide_eq_true h1), rfl, of_decide_eq_true h3, g1⟩) (g2 H)⟩
        | _ => cases h
      | _ => cases dt <;> cases h
theorem kdAll_ok {K : PySem.W.Frag} : ∀ {ds : List PyData} {us : List Value}, kdAll K ds us = true → ∃ vs, Vals vs us ∧ ∀ H, DpAll K H vs ds
  | [], [], _ => ⟨[], .nil, fun _ => .nil⟩
  | d :: ds, u :: us, h => by
    unfold kdAll at h
    obtain ⟨h1, h2⟩ := He.ba h
    obtain ⟨v, a1, a2⟩ := kdIs_ok h1
    obtain ⟨vs, b1, b2⟩ := kdAll_ok h2
    exact ⟨v :: vs, .cons a1 b1, fun H => .cons (a2 H) (b2 H)⟩
  | [], _ :: _, h => by
    unfold kdAll at h
    cases h
  | _ :: _, [], h => by
    unfold kdAll at h
    cases h
end
/-- the module's name x is this -/
def gldB (K : PySem.W.Frag) (x : Str) (d : PyData) : Bool := match PySem.W.nsIn K mainGlobals x with
  | some (some u) => kdIs K d u
  | _ => false
theorem gldB_ok {K : PySem.W.Frag} {mg : Str → Option Value} {h : Heap} (KX : K.In h) (G : h.Ns mainGlobals mg) {x : Str} {d : PyData} (c : gldB K x d = true) : GlD K mg x d := by
  unfold gldB at c
  cases e : PySem.W.nsIn K mainGlobals x with
  | none =>
    rw [e] at c
    cases c
  | some o =>
    rw [e] at c
    cases o with
    | none => cases c
    | some u =>
      obtain ⟨v, h1, h2⟩ := kdIs_ok c
      exact ⟨v, u, PySem.W.mg_of KX G e, h1, h2⟩
end FP

namespace FP
open PySem PySem.Spec PyProof.Rows L2
/-- a dict of the module -/
structure KTab (w : World) (K : PySem.W.Frag) (mg : Str → Option Value) (n : Str) (A : Addr) : Prop where
  ex : ∃ es c, KDict K w A es c
  mg : mg n = some (.ref A)
section
variable {X : Cx} {W : WX} {T : List (Addr × Str)} {δ : De} {ω : Om} {a b e : Expr} {es : List Expr} {d da db : PyData} {ds : List PyData} {pos p p2 : Pos} {k : Bool} {R : Out → Prop} {ss : List Stmt} {n : Str} {A : Addr} {z : Str}
end
section
variable {X : Cx} {δ : De} {ω : Om} {a b elt : Expr} {pos p : Pos} {xs ys zs : List PyData}
end
end FP

namespace FP
open PySem PySem.Spec PyProof.Rows L2
section
variable {X : Cx} {W : WX} {T : List (Addr × Str)} {δ : De} {ω : Om} {e tg iter b : Expr} {d : PyData} {ds : List PyData} {pos p p1 : Pos} {R : Out → Prop} {ss : List Stmt} {x : Str}
end
end FP

namespace FP
open PySem PySem.Spec PyProof.Rows L2
def rCatQ (K : PySem.W.Frag) : R2 := fun x y H Q => ∃ l b xs zs, x = .ref l ∧ y = .ref b ∧ SqL K H l xs ∧ SqL K H b zs ∧ xs.length + zs.length ≤ sizeLine ∧ ∀ p, H p = none → Q (.ref p) (upd H p (.lst (xs ++ zs)))
theorem op_catQ {X : Cx} : OpR X (binaryOp .Add) (rCatQ X.K) := by
  intro pins s σ H x y v u Q I rx ry h
  obtain ⟨l, b, xs, zs, rfl, rfl, hl, hb, hz, q⟩ := h
  cases rx
  cases ry
  obtain ⟨is1, r1, p1, _⟩ := I.list hl
  obtain ⟨is2, r2, p2, _⟩ := I.list hb
  obtain ⟨⟨c1, dd1, da1, sl1⟩, g1, e1, n1, f1⟩ := p1.isList
  obtain ⟨⟨c2, dd2, da2, sl2⟩, g2, e2, n2, f2⟩ := p2.isList
  simp only at e1 f1 e2 f2
  subst e1 f1 e2 f2
  have le : is1.length + is2.length ≤ sizeLine := by rw [← r1.length, ← r2.length]; exact hz
  have ea : is1.toArray ++ is2.toArray = (is1 ++ is2).toArray := by simp
  refine concat_meets ⟨_, g1, rfl⟩ ⟨_, g2, rfl⟩ noFill_list_add seq_list_add PySem.F.slot_list_add PySem.F.entry_list_add (PySem.F.args_list_add_2 _ _) (list_addW l b is1.toArray is2.toArray n1 n2 dd1 dd2 sl1 sl2 (by simpa using le)) ⟨g1, g2, ?_⟩
  rw [ea]
  exact ⟨.ref _, _, I.lnew (t' := s.toks) (r1.append r2) (by rw [List.length_append]; exact hz), rfl, q _ I.fresh⟩
/-- a + b, lists -/
theorem pn_catL {X : Cx} {δ : De} {ω : Om} {a b : Expr} {ds dt : List PyData} {pos : Pos} (ha : PL X δ ω a ds) (hb : PL X δ ω b dt) (hz : ds.length + dt.length ≤ 10000) : PN X δ ω (.BinOp a .Add b pos) (ds ++ dt) := fun σ H rl Q k =>
  we (pe_op op_catQ pe_w pe_w) (ha σ H rl _ fun q vs H1 s1 h1 d1 => hb σ H1 (rl.mono s1) _ fun r us H2 s2 h2 d2 =>
    ⟨q, r, vs, us, rfl, rfl, s2.seq h1, h2, by rw [dpa_len d1, dpa_len d2, sizeLine_eq]; omega, fun p hp => k p _ _ ((s1.trans s2).trans (same_new hp)) ((s1.trans s2).free hp) upd_same (dpam (hid_new hp (same_new hp)) (dpa_app (dpam (hid_same s2) d1) d2))⟩)
end FP

namespace FP
open PySem PySem.Spec PyProof.Rows L2 HotX L2H
section
variable (as : List Addr) (fa : List He.Fa) (fn : List He.DefD) (ts : List He.Tab) (tf : List He.Defn) (ex : PySem.W.Frag → Bool)
/-- the tables that stand empty -/
def bareL (g : Addr → Option Obj) (K : PySem.W.Frag) : Bool := tf.all fun p => PySem.W.codeHdIn K (He.cT K p).1 (He.cT K p).2 && (g (He.cT K p).2).any He.emptyTab
def seenL (g : Addr → Option Obj) : He.AlX := (fun K => (He.obsT fa fn ts K, ex K && bareL tf g K)) (He.frT g as)
variable {as fa fn ts tf ex}
theorem seenL_says {w : World} {h : Heap} (e : seenL as fa fn ts tf ex h.get? = He.valX fn ts w) : He.SaysX fa fn ts tf ex w h (He.frT h.get? as) := by
  have b : (ex (He.frT h.get? as) && bareL tf h.get? (He.frT h.get? as)) = true := congrArg Prod.snd e
  rw [Bool.and_eq_true] at b
  have all_ : ∀ p ∈ tf, _ := fun p hp => Bool.and_eq_true _ _ ▸ (List.all_eq_true.mp b.2 p hp)
  have bare : ∀ p ∈ tf, ∃ o, h.get? (He.cT (He.frT h.get? as) p).2 = some o ∧ He.emptyTab o = true := fun p hp => by
    have q := (all_ p hp).2
    cases e : h.get? (He.cT (He.frT h.get? as) p).2 with
    | none =>
      rw [e] at q
      cases q
    | some o =>
      rw [e] at q
      exact ⟨o, rfl, q⟩
  refine { t := congrArg Prod.fst e, more := b.1, hd := fun p hp => (all_ p hp).1, out := fun p hp => ?_, empty := fun p hp => ?_ }
  · obtain ⟨o, h1, h2⟩ := bare p hp
    exact He.frT_none h1 h2
  · obtain ⟨o, h1, h2⟩ := bare p hp
    exact h1.trans (congrArg some (He.emptyTab_eq h2))
end
/-- a Hook that looks at these addresses -/
def hookL (as : List Addr) (fa : List He.Fa) (fn : List He.DefD) (ts : List He.Tab) (tf : List He.Defn) (ex : PySem.W.Frag → Bool) : PySem.W.Hook :=
  { He.hookX 0 fa fn ts tf ex with obs := fun s => seenL as fa fn ts tf ex s.heap.get?, of := fun _ _ e => ⟨_, He.frT_in, seenL_says e⟩ }
theorem seenL_eq {as : List Addr} {fa : List He.Fa} {fn : List He.DefD} {ts : List He.Tab} {tf : List He.Defn} {ex : PySem.W.Frag → Bool} {g : Addr → Option Obj} {s : Shared} (h : ∀ a, g a = s.heap.get? a) : seenL as fa fn ts tf ex g = (hookL as fa fn ts tf ex).obs s := by
  rw [show g = s.heap.get? from funext h]
  rfl
end FP

namespace FP
open PySem PySem.Spec PyProof.Rows L2 HotX L2H
def faB : He.Fa → He.Fa → Bool
  | .glo x, .glo y => decide (x = y)
  | .free x, .free y => decide (x = y)
  | .int x i, .int y j => decide (x = y) && decide (i = j)
  | .cls x, .cls y => decide (x = y)
  | .noat x f, .noat y g => decide (x = y) && decide (f = g)
  | .meth x f, .meth y g => decide (x = y) && decide (f = g)
  | .mkr x, .mkr y => decide (x = y)
  | .exc x, .exc y => decide (x = y)
  | _, _ => false
theorem faB_ok {a b : He.Fa} (h : faB a b = true) : a = b := by
  unfold faB at h
  split at h <;> first | (cases h; done) | (rw [Bool.and_eq_true, decide_eq_true_eq, decide_eq_true_eq] at h; rw [h.1, h.2]) | (rw [decide_eq_true_eq] at h; rw [h])
theorem fam {l : List He.Fa} {x : He.Fa} (h : (l.any (faB x)) = true) : x ∈ l := by
  obtain ⟨y, hy, e⟩ := List.any_eq_true.mp h
  rw [faB_ok e]
  exact hy
theorem fnm {α : Type} {l : List α} {x : α} (i : Nat) (h : l[i]? = some x) : x ∈ l := List.mem_of_getElem? h
end FP

namespace K93
open PySem PySem.Spec PyProof.Rows L2 FP
def top (i : Nat) : Stmt := PySem.Challenge.pw_farpanes_k93_films_refused.main.body.getD i (.Pass ⟨0, 0, 0, 0⟩)
abbrev s_is_whole : Stmt := top 13
abbrev s_is_within : Stmt := top 14
abbrev s_is_tuple_of : Stmt := top 15
abbrev s_are_signs : Stmt := top 16
abbrev s_is_sign : Stmt := top 17
abbrev s_need_face : Stmt := top 23
abbrev s_need_rows : Stmt := top 24
abbrev s_is_cell : Stmt := top 25
abbrev s_need_size : Stmt := top 26
abbrev s_need_face_of_size : Stmt := top 27
abbrev s_size_of : Stmt := top 28
abbrev s_need_face_like : Stmt := top 29
abbrev s_blank_cells : Stmt := top 30
abbrev s_pushed : Stmt := top 32
abbrev s_pulled : Stmt := top 33
abbrev s_rolled : Stmt := top 34
abbrev s_need_change : Stmt := top 40
abbrev s_is_part : Stmt := top 41
abbrev s_is_place : Stmt := top 42
abbrev s_parts_done : Stmt := top 43
abbrev s_part_done : Stmt := top 44
abbrev s_need_places : Stmt := top 45
abbrev s_cells_of : Stmt := top 46
abbrev s_with_put : Stmt := top 47
abbrev s_cost_of_parts : Stmt := top 48
abbrev s_part_cost : Stmt := top 49
abbrev s_change_of : Stmt := top 50
abbrev s_change_with_roll : Stmt := top 51
abbrev s_put_of : Stmt := top 52
abbrev s_spans_to_put : Stmt := top 53
abbrev s_is_worth_joining : Stmt := top 54
abbrev s_need_film : Stmt := top 58
abbrev s_need_film_face : Stmt := top 59
abbrev s_need_length : Stmt := top 60
abbrev s_need_pairs : Stmt := top 61
abbrev s_next_face : Stmt := top 62
abbrev s_face_at : Stmt := top 63
abbrev s_face_up_to : Stmt := top 64
abbrev s_cost_of : Stmt := top 65
abbrev s_filmed : Stmt := top 66
abbrev s_need_faces_by_ticks : Stmt := top 67
abbrev s_cut : Stmt := top 68
abbrev s_spliced : Stmt := top 69
abbrev s_slowed : Stmt := top 70
abbrev s_moved : Stmt := top 71
abbrev s__law_cell : Stmt := top 73
abbrev s__law_drawn : Stmt := top 74
abbrev s__law_word : Stmt := top 75
abbrev s__law_told : Stmt := top 76
abbrev s__law_cell_of : Stmt := top 77
abbrev s__law_face : Stmt := top 78
abbrev s__law_size : Stmt := top 79
abbrev s__law_no_film : Stmt := top 80
abbrev s__law_no_pairs : Stmt := top 81
abbrev s_law : Stmt := top 82
abbrev dOf (x : Str) (st : Stmt) : He.DefD := ⟨(x, none), x, x, defArgs st, defBody st, defScope st, [], []⟩
def fn : List He.DefD := [dOf "is_whole" s_is_whole, dOf "is_within" s_is_within, dOf "is_tuple_of" s_is_tuple_of, dOf "are_signs" s_are_signs, dOf "is_sign" s_is_sign, dOf "need_face" s_need_face, dOf "need_rows" s_need_rows, dOf "is_cell" s_is_cell, dOf "need_size" s_need_size, dOf "need_face_of_size" s_need_face_of_size, dOf "size_of" s_size_of, dOf "need_face_like" s_need_face_like, dOf "blank_cells" s_blank_cells, dOf "pushed" s_pushed, dOf "pulled" s_pulled, dOf "rolled" s_rolled, dOf "need_change" s_need_change, dOf "is_part" s_is_part, dOf "is_place" s_is_place, dOf "parts_done" s_parts_done, dOf "part_done" s_part_done, dOf "need_places" s_need_places, dOf "cells_of" s_cells_of, dOf "with_put" s_with_put, dOf "cost_of_parts" s_cost_of_parts, dOf "part_cost" s_part_cost, dOf "change_of" s_change_of, dOf "change_with_roll" s_change_with_roll, dOf "put_of" s_put_of, dOf "spans_to_put" s_spans_to_put, dOf "is_worth_joining" s_is_worth_joining, dOf "need_film" s_need_film, dOf "need_film_face" s_need_film_face, dOf "need_length" s_need_length, dOf "need_pairs" s_need_pairs, dOf "next_face" s_next_face, dOf "face_at" s_face_at, dOf "face_up_to" s_face_up_to, dOf "cost_of" s_cost_of, dOf "filmed" s_filmed, dOf "need_faces_by_ticks" s_need_faces_by_ticks, dOf "cut" s_cut, dOf "spliced" s_spliced, dOf "slowed" s_slowed, dOf "moved" s_moved, dOf "_law_cell" s__law_cell, dOf "_law_drawn" s__law_drawn, dOf "_law_word" s__law_word, dOf "_law_told" s__law_told, dOf "_law_cell_of" s__law_cell_of, dOf "_law_face" s__law_face, dOf "_law_size" s__law_size, dOf "_law_no_film" s__law_no_film, dOf "_law_no_pairs" s__law_no_pairs, dOf "law" s_law]
def fa : List He.Fa := [.glo "is_whole", .glo "is_within", .glo "is_tuple_of", .glo "are_signs", .glo "is_sign", .glo "need_face", .glo "need_rows", .glo "is_cell", .glo "need_size", .glo "need_face_of_size", .glo "size_of", .glo "need_face_like", .glo "blank_cells", .glo "pushed", .glo "pulled", .glo "rolled", .glo "need_change", .glo "is_part", .glo "is_place", .glo "parts_done", .glo "part_done", .glo "need_places", .glo "cells_of", .glo "with_put", .glo "cost_of_parts", .glo "part_cost", .glo "change_of", .glo "change_with_roll", .glo "put_of", .glo "spans_to_put", .glo "is_worth_joining", .glo "need_film", .glo "need_film_face", .glo "need_length", .glo "need_pairs", .glo "next_face", .glo "face_at", .glo "face_up_to", .glo "cost_of", .glo "filmed", .glo "need_faces_by_ticks", .glo "cut", .glo "spliced", .glo "slowed", .glo "moved", .glo "_law_cell", .glo "_law_drawn", .glo "_law_word", .glo "_law_told", .glo "_law_cell_of", .glo "_law_face", .glo "_law_size", .glo "_law_no_film", .glo "_law_no_pairs", .glo "law", .glo "ScreenError", .glo "BadFace", .glo "BadDeed", .glo "BadTalk", .glo "BadChange", .glo "BadPacket", .glo "BadLayout", .glo "BadName", .glo "BadFilm", .glo "Nothing", .free "abs", .free "all", .free "bool", .free "enumerate", .free "int", .free "isinstance", .free "len", .free "list", .free "max", .free "min", .free "ord", .free "range", .free "sorted", .free "str", .free "sum", .free "tuple", .free "zip", .free "ValueError", .int "PERCENT" 37, .int "MOST_ROWS" 10, .int "MOST_COLUMNS" 20, .int "MOST_INK" 7, .glo "BLANK", .int "MOST_ROLL" 10, .int "ROLL_COST" 4, .int "PUT_COST" 4, .int "CURSOR_COST" 3, .int "MOST_TICK" 9999, .int "MOST_TIMES" 9, .exc "BadFace", .exc "BadChange", .exc "BadFilm"]
def ex (K : PySem.W.Frag) : Bool := gldB K "BLANK" (.tuple [.str " ", .int 0]) && (wordB K "BadFace" [("BadChange", false), ("BadDeed", false), ("BadFace", true), ("BadFilm", false), ("BadLayout", false), ("BadName", false), ("BadPacket", false), ("BadTalk", false), ("Nothing", false)] && (decide (PySem.W.exmOne K (.ref (He.ga K "BadFace")) (.ref (He.ga K "ScreenError")) = some true) && (wordB K "BadChange" [("BadChange", true), ("BadDeed", false), ("BadFace", false), ("BadFilm", false), ("BadLayout", false), ("BadName", false), ("BadPacket", false), ("BadTalk", false), ("Nothing", false)] && (decide (PySem.W.exmOne K (.ref (He.ga K "BadChange")) (.ref (He.ga K "ScreenError")) = some true) && (wordB K "BadFilm" [("BadChange", false), ("BadDeed", false), ("BadFace", false), ("BadFilm", true), ("BadLayout", false), ("BadName", false), ("BadPacket", false), ("BadTalk", false), ("Nothing", false)] && (decide (PySem.W.exmOne K (.ref (He.ga K "BadFilm")) (.ref (He.ga K "ScreenError")) = some true) && (decide (PySem.W.exmOne K (.ref (He.ga K "BadChange")) (.ref (He.ga K "BadChange")) = some true) && (decide (PySem.W.exmOne K (.ref (He.ga K "BadFace")) (.ref (He.ga K "BadFace")) = some true)))))))))
def tf : List He.Defn := [("law", none)]
abbrev R : PySem.W.OpenRow := PySem.W.OpenLaw.row PySem.Challenge.rw_farpanes_k93_films_refused
def ts : List He.Tab := []
def AS : List Addr := [0, 3, 6, 23, 36, 48, 60, 72, 84, 96, 108, 120, 132, 140, 142, 147, 149, 154, 156, 159, 161, 166, 168, 174, 176, 179, 181, 186, 188, 193, 195, 200, 202, 207, 209, 214, 216, 221, 223, 228, 230, 235, 237, 242, 244, 249, 251, 254, 256, 261, 263, 268, 270, 273, 275, 280, 282, 285, 287, 292, 294, 297, 299, 304, 306, 309, 311, 314, 316, 319, 321, 324, 326, 329, 331, 336, 338, 343, 345, 350, 352, 357, 359, 364, 366, 371, 373, 378, 380, 383, 385, 390, 392, 397, 399, 402, 404, 409, 411, 416, 418, 421, 423, 428, 430, 435, 437, 440, 442, 447, 449, 454, 456, 459, 461, 466, 468, 473, 475, 478, 480, 485, 487, 25, 137, 141, 144, 148, 151, 155, 158, 160, 163, 167, 171, 175, 178, 180, 183, 187, 190, 194, 197, 201, 204, 208, 211, 215, 218, 222, 225, 229, 232, 236, 239, 243, 246, 250, 253, 255, 258, 262, 265, 269, 272, 274, 277, 281, 284, 286, 289, 293, 296, 298, 301, 305, 308, 310, 313, 315, 318, 320, 323, 325, 328, 330, 333, 337, 340, 344, 347, 351, 354, 358, 361, 365, 368, 372, 375, 379, 382, 384, 387, 391, 394, 398, 401, 403, 406, 410, 413, 417, 420, 422, 425, 429, 432, 436, 439, 441, 444, 448, 451, 455, 458, 460, 463, 467, 470, 474, 477, 479, 482, 486, 4, 24, 37, 49, 61, 73, 85, 97, 109, 121, 133, 22, 35, 47, 59, 71, 83, 95, 107, 119, 131, 136, 138, 139, 143, 145, 146, 150, 152, 153, 157, 162, 164, 165, 169, 170, 172, 173, 177, 182, 184, 185, 189, 191, 192, 196, 198, 199, 203, 205, 206, 210, 212, 213, 217, 219, 220, 224, 226, 227, 231, 233, 234, 238, 240, 241, 245, 247, 248, 252, 257, 259, 260, 264, 266, 267, 271, 276, 278, 279, 283, 288, 290, 291, 295, 300, 302, 303, 307, 312, 317, 322, 327, 332, 334, 335, 339, 341, 342, 346, 348, 349, 353, 355, 356, 360, 362, 363, 367, 369, 370, 374, 376, 377, 381, 386, 388, 389, 393, 395, 396, 400, 405, 407, 408, 412, 414, 415, 419, 424, 426, 427, 431, 433, 434, 438, 443, 445, 446, 450, 452, 453, 457, 462, 464, 465, 469, 471, 472, 476, 481, 483, 484]
abbrev hk : PySem.W.Hook := hookL AS fa fn ts tf ex
def ob (s : PySem.W.SharedT) : He.AlX := seenL AS fa fn ts tf ex (HandSHeadRun.getT s)
theorem ob_eq (s : PySem.W.SharedT) : ob s = hk.obs s.abs := seenL_eq (HandSHeadRun.getT_eq s)
def loose0 : List Str := ["ScreenError", "BadFace", "BadDeed", "BadTalk", "BadChange", "BadPacket", "BadLayout", "BadName", "BadFilm", "Nothing", "PERCENT", "is_whole", "is_within", "is_tuple_of", "are_signs", "is_sign", "MOST_ROWS", "MOST_COLUMNS", "MOST_INK", "BLANK", "need_face", "need_rows", "is_cell", "need_size", "need_face_of_size", "size_of", "need_face_like", "blank_cells", "pushed", "pulled"]
def loose1 : List Str := ["rolled", "MOST_ROLL", "ROLL_COST", "PUT_COST", "CURSOR_COST", "need_change", "is_part", "is_place", "parts_done", "part_done", "need_places", "cells_of", "with_put", "cost_of_parts", "part_cost", "change_of", "change_with_roll", "put_of", "spans_to_put", "is_worth_joining", "MOST_TICK", "MOST_TIMES", "need_film", "need_film_face", "need_length", "need_pairs", "next_face", "face_at", "face_up_to", "cost_of"]
def loose2 : List Str := ["filmed", "need_faces_by_ticks", "cut", "spliced", "slowed", "moved", "_law_cell", "_law_drawn", "_law_word", "_law_told", "_law_cell_of", "_law_face", "_law_size", "_law_no_film", "_law_no_pairs"]
def loose : List Str := loose0 ++ loose1 ++ loose2
set_option maxHeartbeats 0 in
theorem runF (w : World) : HandSHeadRun.RunEq R (PySem.W.view R.prog [82]) hk ob 8000 loose (w.withFollow "special-get-raises" false) := by
  intro os
  kernel_rfl
set_option maxHeartbeats 0 in
theorem runT (w : World) : HandSHeadRun.RunEq R (PySem.W.view R.prog [82]) hk ob 8000 loose (w.withFollow "special-get-raises" true) := by
  intro os
  kernel_rfl
theorem run (w : World) : HandSHeadRun.RunEq R (PySem.W.view R.prog [82]) hk ob 8000 loose w :=
  PySem.W.byRow2 "special-get-raises" (P := fun w => HandSHeadRun.RunEq R (PySem.W.view R.prog [82]) hk ob 8000 loose w) runF runT w

end K93

namespace FP
open PySem PySem.Spec PyProof.Rows L2 HotX L2H
def YE (X : Cx) (T : List (Addr × Str)) (δ : De) (ω : Om) (e : Expr) (d : PyData) (ω' : Om) : Prop := ∀ σ H, Rl X.K H σ δ ω → LamX.Tabs T H → ∀ Q : VK, (∀ v H', Stp T ω ω' H H' → Rl X.K H' σ δ ω' → Dp X.K (hid (ads ω') H') v d → Q v H') → wpe X e σ H Q
def YT (X : Cx) (T : List (Addr × Str)) (δ : De) (ω : Om) (e : Expr) (k : Bool) (ω' : Om) : Prop := ∀ σ H, Rl X.K H σ δ ω → LamX.Tabs T H → ∀ Q : Bool → Hp → Prop, (∀ H', Stp T ω ω' H H' → Rl X.K H' σ δ ω' → Q k H') → wpt X e σ H Q
section
variable {X : Cx} {W : WX} {T : List (Addr × Str)} {δ : De} {ω ω1 ω2 : Om} {a b c e : Expr} {es r : List Expr} {d da db dz : PyData} {ds : List PyData} {pos p : Pos} {k x y : Bool} {R : Out → Prop} {ss sa sb : List Stmt}
theorem YE.eq (h : YE X T δ ω e d ω1) (q : d = dz) : YE X T δ ω e dz ω1 := q ▸ h
theorem PTd.x2 (h : PTd X δ ω e k) : YT X T δ ω e k ω := fun σ H rl t Q q => h σ H rl Q fun H' s => q H' (.of s) (rl.mono s)
end
section
variable {X : Cx} {CX : CXT} {k : Nat} {f C : Addr} {fd : FuncData} {ps : List Str} {sp : Sp} {E : L2.St → XK} {x m : Str} {p pos apos : Pos} {e o : Expr} {es : List Expr} {ta : TE} {t : TA}
end
section
variable {X : Cx} {W : WX} {T : List (Addr × Str)} {δ : De} {ω : Om} {e : Expr} {es : List Expr} {d : PyData} {ds : List PyData} {pos p p1 apos : Pos} {R : Out → Prop} {ss : List Stmt} {a C : Addr} {fs fs' : Fs} {f x m : Str} {k : Nat}
/-- a new object -/
def NW (X : Cx) (T : List (Addr × Str)) (δ : De) (ω : Om) (e : Expr) (o : Od) : Prop := ∀ σ H, Rl X.K H σ δ ω → LamX.Tabs T H → ∀ Q : VK, (∀ D H', Stp T ω (omD ω D o) H H' → Rl X.K H' σ δ (omD ω D o) → Q (.ref D) H') → wpe X e σ H Q
theorem stp_new {H H' : Hp} {D : Addr} {o : Od} (s : Same H H') (n : H D = none) : Stp T ω (omD ω D o) H H' := ⟨fun b o h _ _ => s b o h, fun a h => by
  rcases List.mem_cons.mp (show a ∈ D :: ω.os.map (·.1) from h) with z | z
  · exact .inr fun o ho => by
      rw [z, n] at ho
      cases ho
  · exact .inl z, rfl, fun t => t.ext s⟩
theorem stp_sd {H H' : Hp} {ω1 ω2 : Om} {r : Sd} {v : V} (s : Stp T ω1 ω2 H H') (h : SdV X.K (hid (ads ω1) H) r v) : SdV X.K (hid (ads ω2) H') r v := by
  cases r with
  | im d => exact dp_ke s.seen d v h
  | ad a => exact h
end
end FP

namespace FP
open PySem PySem.Spec PyProof.Rows L2 HotX L2H
section
variable {X : Cx} {T : List (Addr × Str)} {δ : De} {ω : Om} {d : PyData} {pos p : Pos} {k : Nat}
end
end FP

namespace FP
open PySem PySem.Spec PyProof.Rows L2
section
variable {X : Cx} {δ : De} {ω : Om} {a b e : Expr} {d : PyData} {ds : List PyData} {pos p : Pos} {j k : Bool}
theorem PTd.eq (h : PTd X δ ω e k) (q : k = j) : PTd X δ ω e j := q ▸ h
theorem PWd.eq (h : PWd X δ ω e k) (q : k = j) : PWd X δ ω e j := q ▸ h
end
section
variable {X : Cx} {W : WX} {T : List (Addr × Str)} {δ : De} {ω : Om} {pos : Pos} {R : Out → Prop} {ss : List Stmt}
end
end FP

namespace FP
open PySem PySem.Spec PyProof.Rows L2
section
variable {X : Cx} {δ : De} {ω : Om} {a b e : Expr} {d : PyData} {ds : List PyData} {pos p : Pos} {j k : Bool} {y z : Str}
end
end FP

namespace FP
open PySem PySem.Spec PyProof.Rows L2
section
variable {X : Cx} {δ : De} {ω : Om} {a b e tg : Expr} {d : PyData} {ds : List PyData} {pos p : Pos} {j k : Bool} {y z : Str}
theorem PN.eq {dt : List PyData} (h : PN X δ ω e ds) (q : ds = dt) : PN X δ ω e dt := q ▸ h
/-- the last one -/
theorem atI_last {α : Type} {xs : List α} {x : α} : atI (xs ++ [x]) (-1) = some x := by
  unfold atI ixN
  rw [if_neg (by decide), if_pos (by simp; omega)]
  show (xs ++ [x])[(-1 + ((xs ++ [x]).length : Int)).toNat]? = some x
  have e : (-1 + ((xs ++ [x]).length : Int)).toNat = xs.length := by
    simp
    omega
  rw [e]
  simp
end
end FP

namespace FP
open PySem PySem.Spec PyProof.Rows L2
abbrev Os := List (Addr × Od)
inductive Rg where
  | ok (r : Sd)
  | er (C : Addr)
abbrev FrG := Os → List Sd → (Rg → Os → Prop) → Prop
def RgQ (K : PySem.W.Frag) (ps : List Addr) (os' : Os) (H' : Hp) (Q : VK) (E : XK) : Rg → Prop
  | .ok r => ∀ v, SdV K (hid (ads ⟨ps, os'⟩) H') r v → Q v H'
  | .er Z => E (.ref Z) none H'
def spG (K : PySem.W.Frag) (fr : FrG) : Sp := fun vs H Q E => ∃ (ps : List Addr) (os : Os) (as : List Sd) (R : Rg → Os → Prop), Ro K H ⟨ps, os⟩ ∧ Paired (SdV K (hid (ads ⟨ps, os⟩) H)) as vs ∧ fr os as R ∧
  ∀ r os' H', R r os' → (∀ b o, H b = some o → b ∉ os.map (·.1) → H' b = some o) → (∀ a ∈ os'.map (·.1), a ∈ os.map (·.1) ∨ H a = none) → Ro K H' ⟨ps, os'⟩ → RgQ K ps os' H' Q E r
structure GOk (P : Program) (w : World) (K : PySem.W.Frag) (mg : Str → Option Value) (base : Heap) (k : Nat) (x : Str) (fr : FrG) : Prop where
  ex : ∃ f fd ps, FnOk P w K mg base (L2N.CX P w) k f fd ps (spG K fr) ∧ mg x = some (.ref f) ∧ PySem.W.keepIn K (.ref f) = true ∧ L2.Binds K fd ps []
/-- a method -/
structure GMOk (P : Program) (w : World) (K : PySem.W.Frag) (mg : Str → Option Value) (base : Heap) (k : Nat) (C : Addr) (m : Str) (fr : FrG) : Prop where
  ex : ∃ f fd ps, FnOk P w K mg base (L2N.CX P w) k f fd ps (spG K fr) ∧ Meth K C m f ∧ L2.Binds K fd ps []
theorem GOk.mono {P : Program} {w : World} {K : PySem.W.Frag} {mg : Str → Option Value} {base : Heap} {j k : Nat} {x : Str} {fr : FrG} (G : GOk P w K mg base j x fr) (h : j ≤ k) : GOk P w K mg base k x fr := by
  obtain ⟨f, fd, ps, F, m, kp, b⟩ := G.ex
  exact ⟨f, fd, ps, F.mono h, m, kp, b⟩
theorem GMOk.mono {P : Program} {w : World} {K : PySem.W.Frag} {mg : Str → Option Value} {base : Heap} {j k : Nat} {C : Addr} {m : Str} {fr : FrG} (G : GMOk P w K mg base j C m fr) (h : j ≤ k) : GMOk P w K mg base k C m fr := by
  obtain ⟨f, fd, ps, F, m, b⟩ := G.ex
  exact ⟨f, fd, ps, F.mono h, m, b⟩
section
variable {P : Program} {w : World} {K : PySem.W.Frag} {mg : Str → Option Value} {base : Heap} {x qual : Str} {params : Arguments} {body : List Stmt} {scope : Scope} {kws : List (Str × V)} {f C : Addr} {fd : FuncData} {N ps : List Str} {k : Nat} {fr : FrG}
end
def PS1 (X : Cx) (δ : De) (ω : Om) (e : Expr) (r : Sd) : Prop := ∀ σ H, Rl X.K H σ δ ω → ∀ Q : VK, (∀ v H', Same H H' → SdV X.K (hid (ads ω) H') r v → Q v H') → wpe X e σ H Q
section
variable {X : Cx} {W : WX} {T : List (Addr × Str)} {δ : De} {ω : Om} {e : Expr} {es : List Expr} {d : PyData} {r : Sd} {rs : List Sd} {pos p p1 apos : Pos} {R : Out → Prop} {ss : List Stmt} {a C : Addr} {x m : Str} {k : Nat} {fr : FrG}
end
end FP

namespace FP
open PySem PySem.Spec PyProof.Rows L2
section
variable {K : PySem.W.Frag} {H H' : Hp}
end
section
variable {X : Cx} {W : WX} {T : List (Addr × Str)} {δ : De} {ω : Om} {b e o : Expr} {es : List Expr} {d : PyData} {ds : List PyData} {r : Sd} {pos p p1 sp : Pos} {R : Out → Prop} {ss : List Stmt} {a c : Addr} {x : Str} {kvs : List (Key × Sd)} {z : Str}
theorem PS1.ex (h : PS1 X δ ω e r) (hR : R (.rt r ω)) : EX X W T e δ ω R := fun σ H rl t Q q _ => h σ H rl Q fun v H' s dv => q _ ω v H' hR (.of s) (rl.mono s) dv
theorem NW.ex {ob : Od} (h : NW X T δ ω e ob) (hR : ∀ D, R (.rt (.ad D) (omD ω D ob))) : EX X W T e δ ω R := fun σ H rl t Q q _ => h σ H rl t Q fun D H' st l => q _ _ _ H' (hR D) st l rfl
/-- a list that stands somewhere -/
theorem PS1.plt {xs : List PyData} (h : PS1 X δ ω e (.ad c)) (hc : (c, Od.lst (xs.map .im)) ∈ ω.os) : PLt X δ ω e xs := fun σ H rl Q k => h σ H rl Q fun v H' s dv => by
  have dv : v = .ref c := dv
  subst dv
  obtain ⟨vs, g1, g2⟩ := (rl.mono s).ro.ob c _ hc
  exact k c vs H' s g1 (dpa_im g2)
variable {trs : List (TE × TE)} {Z : List (Key × Sd) → Om → Prop} {jk : Nat} {kp : Pos}
end
end FP

namespace FP
open PySem PySem.Spec PyProof.Rows L2
section
variable {X : Cx} {W : WX} {T : List (Addr × Str)} {δ : De} {ω : Om} {a b e o : Expr} {es : List Expr} {d : PyData} {ds : List PyData} {r : Sd} {pos p p1 sp : Pos} {R : Out → Prop} {ss : List Stmt} {x : Str}
/-- int of a truth -/
theorem PS1.pd (h : PS1 X δ ω e (.im d)) : PD X δ ω e d := h
end
end FP

namespace FP
open PySem PySem.Spec PyProof.Rows L2
section
variable {X : Cx} {W : WX} {T : List (Addr × Str)} {δ : De} {ω : Om} {a b c e o : Expr} {es : List Expr} {d : PyData} {ds : List PyData} {r : Sd} {pos p p1 sp : Pos} {R : Out → Prop} {ss : List Stmt} {x : Str}
end
end FP

namespace FP
open PySem PySem.Spec PyProof.Rows L2 HotX L2H
section
variable {X : Cx} {W : WX} {T : List (Addr × Str)} {δ : De} {ω ω1 ω2 : Om} {a b c e : Expr} {es r : List Expr} {d da db dz : PyData} {ds : List PyData} {pos p : Pos} {k : Nat} {R : Out → Prop} {ss sa sb : List Stmt} {C : Addr} {fs' : Fs}
end
end FP

namespace FP
open PySem PySem.Spec PyProof.Rows L2 HotX L2H
section
variable {X : Cx} {W : WX} {T : List (Addr × Str)} {δ : De} {ω : Om} {a e : Expr} {d : PyData} {pos p : Pos} {R : Out → Prop}
theorem PR.ex {rr : Rs} (h : PR X W δ ω e rr) (h1 : ∀ d, rr = .ok d → R (.rt (.im d) ω)) (h2 : ∀ Z, rr = .er Z → R (.ex Z ω)) : EX X W T e δ ω R := fun σ H rl t Q q q2 => h σ H rl Q (by
  cases rr with
  | ok d => exact fun v H' s dv => q _ ω v H' (h1 d rfl) (.of s) (rl.mono s) dv
  | er Z => exact fun H' s => q2 Z ω σ H' (h2 Z rfl) (.of s) (rl.mono s).ro)
theorem dpa_int {K : PySem.W.Frag} {H : Hp} : ∀ {ns : List Int} {vs : List V}, DpAll K H vs (ns.map .int) → vs = ns.map V.int
  | [], _, .nil => rfl
  | n :: ns, _, .cons h1 h2 => by
    cases h1
    rw [dpa_int h2]
    rfl
/-- sum of whole numbers -/
theorem pd_sumI {ns : List Int} (hc : X.calm = true) (hm : X.mg "sum" = none) (ha : PL X δ ω a (ns.map .int)) (hg : Gl X "sum" := by rfl) (he : starEach [a] X.env = (false, eval a X.env) :: starEach [] X.env := by rfl) : PD X δ ω (.Call (.Name "sum" p) [a] [] pos) (.int ns.sum) := fun σ H rl Q k =>
  we (pe_callB (cr_sum hc) hg hm boot_sum (pa_cons pe_w pa_nil he) (he := he)) (ha σ H rl _ fun q vs H1 s1 h1 d1 => by
    have ev : vs = ns.map V.int := dpa_int d1
    subst ev
    exact ⟨q, ns, rfl, h1, k _ H1 s1 (.int _)⟩)
end
end FP

namespace FP
open PySem PySem.Spec PyProof.Rows L2 HotX L2H
section
variable {X : Cx} {δ : De} {ω : Om} {k f : Expr} {pos dp apos cpos : Pos}
end
end FP

namespace FP
open PySem PySem.Spec PyProof.Rows L2 HotX L2H
section
variable {X : Cx} {W : WX} {T : List (Addr × Str)} {δ : De} {R : Out → Prop} {ss : List Stmt}
end
end FP

namespace FP
open PySem PySem.Spec PyProof.Rows L2 HotX L2H
section
variable {X : Cx} {δ : De} {ω : Om}
variable {W : WX} {T : List (Addr × Str)} {tg iter : Expr} {pos : Pos} {R : Out → Prop} {ss : List Stmt} {x : Str}
end
end FP

namespace FP
open PySem PySem.Spec PyProof.Rows L2 HotX L2H
structure EsSt (e it : Addr) (x : Str) (t : Tok) (i : Nat) (h : Heap) : Prop where
  en : ∃ old, IsEnum h e it (i : Int) old
  wk : h.IsStrIter it (strIterType x) x t i
section
variable {X : Cx} {W : WX} {T : List (Addr × Str)} {δ : De} {ω : Om} {a b e o iter : Expr} {pos p tpos : Pos} {R : Out → Prop} {ss sa : List Stmt} {elts : List Expr} {kk : Nat} {c : Addr} {r : Sd}
end
end FP

namespace FP
open PySem PySem.Spec PyProof.Rows L2 HotX L2H
abbrev Fo := List (Str × Sd)
section
variable {X : Cx} {W : WX} {T : List (Addr × Str)} {δ : De} {ω ω1 : Om} {a b c e o iter tg : Expr} {es : List Expr} {d : PyData} {ds : List PyData} {r : Sd} {rs : List Sd} {pos p p1 apos : Pos} {R : Out → Prop} {ss sa sb : List Stmt} {z C : Addr} {fs : Fo} {f x m : Str} {k : Nat} {fr : FrG}
def YX (X : Cx) (W : WX) (T : List (Addr × Str)) (δ : De) (ω : Om) (e : Expr) (R : Rg → Om → Prop) : Prop := ∀ σ H, Rl X.K H σ δ ω → LamX.Tabs T H → ∀ Q : VK,
  (∀ r ω' v H', R (.ok r) ω' → Stp T ω ω' H H' → Rl X.K H' σ δ ω' → SdV X.K (hid (ads ω') H') r v → Q v H') → (∀ Z ω' H', R (.er Z) ω' → Stp T ω ω' H H' → Rl X.K H' σ δ ω' → W (.ref Z) none σ H') → wpe X e σ H Q
def ZE (X : Cx) (T : List (Addr × Str)) (δ : De) (ω : Om) (e : Expr) (R : PyData → Om → Prop) : Prop := ∀ σ H, Rl X.K H σ δ ω → LamX.Tabs T H → ∀ Q : VK, (∀ d ω' v H', R d ω' → Stp T ω ω' H H' → Rl X.K H' σ δ ω' → Dp X.K (hid (ads ω') H') v d → Q v H') → wpe X e σ H Q
theorem ZE.imp {R1 R2 : PyData → Om → Prop} (h : ZE X T δ ω e R1) (q : ∀ d ω', R1 d ω' → R2 d ω') : ZE X T δ ω e R2 := fun σ H rl t Q k => h σ H rl t Q fun d ω' v H' z => k d ω' v H' (q d ω' z)
theorem PD.ze {Z : PyData → Om → Prop} (h : PD X δ ω e d) (q : Z d ω) : ZE X T δ ω e Z := fun σ H rl t Q k => h σ H rl Q fun v H' s dv => k d ω v H' q (.of s) (rl.mono s) dv
theorem YE.ze {Z : PyData → Om → Prop} (h : YE X T δ ω e d ω1) (q : Z d ω1) : ZE X T δ ω e Z := fun σ H rl t Q k => h σ H rl t Q fun v H' s l dv => k d ω1 v H' q s l dv
theorem YX.ze {Z : PyData → Om → Prop} (h : YX X (fun _ _ _ _ => False) T δ ω e (fun r ω' => match r with | .ok (.im d) => Z d ω' | _ => False)) : ZE X T δ ω e Z := fun σ H rl t Q k => h σ H rl t Q (fun r ω' v H' z s l dv => by
    cases r with
    | im d => exact k d ω' v H' z s l dv
    | ad a => exact False.elim z) (fun Z ω' H' z _ _ => False.elim z)
theorem YX.ex {Rr : Rg → Om → Prop} (h : YX X W T δ ω e Rr) (q : ∀ r ω', Rr r ω' → match r with | .ok r => R (.rt r ω') | .er Z => R (.ex Z ω')) : EX X W T e δ ω R := fun σ H rl t Q k1 k2 => h σ H rl t Q (fun r ω' v H' z s l dv => k1 r ω' v H' (q _ _ z) s l dv) (fun Z ω' H' z s l => k2 Z ω' σ H' (q _ _ z) s l.ro)
theorem YX.imp {R1 R2 : Rg → Om → Prop} (h : YX X W T δ ω e R1) (q : ∀ r ω', R1 r ω' → R2 r ω') : YX X W T δ ω e R2 := fun σ H rl t Q k1 k2 => h σ H rl t Q (fun r ω' v H' z => k1 r ω' v H' (q _ _ z)) (fun Z ω' H' z => k2 Z ω' H' (q _ _ z))
end
end FP

namespace FP
open PySem PySem.Spec PyProof.Rows L2 HotX L2H
section
variable {X : Cx} {T : List (Addr × Str)} {δ : De} {ω : Om} {d : PyData} {pos p : Pos} {k : Nat}
end
section
variable {X : Cx} {W : WX} {T : List (Addr × Str)} {δ : De} {ω : Om} {a b c e tg iter : Expr} {es : List Expr} {d : PyData} {ds : List PyData} {pos p : Pos} {R : Out → Prop} {ss : List Stmt} {x : Str}
end
end FP

namespace FP
open PySem PySem.Spec PyProof.Rows L2 HotX L2H
section
variable {X : Cx} {W : WX} {T : List (Addr × Str)} {δ : De} {ω ω1 : Om} {a b c e o iter tg : Expr} {es : List Expr} {d : PyData} {ds : List PyData} {r : Sd} {rs : List Sd} {pos p p1 apos : Pos} {R : Out → Prop} {ss sa sb : List Stmt} {x m : Str} {k : Nat} {Z : PyData → Om → Prop}
theorem Rl.keep {H H' : Hp} {σ : L2.St} {ω ω' : Om} (rl : Rl X.K H σ δ ω) (st : Stp T ω ω' H H') (ro : Ro X.K H' ω') : Rl X.K H' σ δ ω' := ⟨rl.len, fun i r hi => by
  obtain ⟨v, h1, h2⟩ := rl.sl i r hi
  exact ⟨v, h1, stp_sd (X := X) st h2⟩, ro⟩
theorem Rl.permO {H : Hp} {σ : L2.St} {ps : List Addr} {os os' : Os} (hp : os.Perm os') (rl : Rl X.K H σ δ ⟨ps, os⟩) : Rl X.K H σ δ ⟨ps, os'⟩ := by
  have hma : ∀ a, a ∈ os.map (·.1) ↔ a ∈ os'.map (·.1) := fun a => (hp.map _).mem_iff
  have hh : hid (ads ⟨ps, os⟩) H = hid (ads ⟨ps, os'⟩) H := by
    funext b
    unfold hid
    have e : b ∈ ads ⟨ps, os⟩ ↔ b ∈ ads ⟨ps, os'⟩ := by
      show b ∈ ps ++ os.map (·.1) ↔ b ∈ ps ++ os'.map (·.1)
      rw [List.mem_append, List.mem_append, hma]
    by_cases h : b ∈ ads ⟨ps, os⟩
    · rw [if_pos h, if_pos (e.mp h)]
    · rw [if_neg h, if_neg (fun z => h (e.mpr z))]
  refine ⟨rl.len, fun i r hi => ?_, fun z o hz => ?_, (hp.map _).nodup rl.ro.nd, rl.ro.th⟩
  · obtain ⟨v, h1, h2⟩ := rl.sl i r hi
    rw [hh] at h2
    exact ⟨v, h1, h2⟩
  · have g := rl.ro.ob z o (hp.mem_iff.mpr hz)
    rw [hh] at g
    exact g
end
end FP

namespace FP
open PySem PySem.Spec PyProof.Rows L2 HotX L2H
section
variable {X : Cx} {W : WX} {T : List (Addr × Str)} {δ : De} {ω ω1 : Om} {a b c e o iter tg : Expr} {es : List Expr} {d : PyData} {ds : List PyData} {r : Sd} {rs : List Sd} {pos p p1 apos : Pos} {R : Out → Prop} {ss sa sb : List Stmt} {x m : Str} {k : Nat}
/-- a list of own lists -/
def PLa (X : Cx) (δ : De) (ω : Om) (e : Expr) (As : List Addr) : Prop := ∀ σ H, Rl X.K H σ δ ω → ∀ Q : VK, (∀ p H', Same H H' → SqL X.K H' p (As.map V.ref) → Q (.ref p) H') → wpe X e σ H Q
theorem PLa.eq {As Bs : List Addr} (h : PLa X δ ω e As) (q : As = Bs) : PLa X δ ω e Bs := q ▸ h
theorem stp_permL {H H' : Hp} {ps : List Addr} {os os' : Os} {ω : Om} (hp : os.Perm os') (st : Stp T ⟨ps, os'⟩ ω H H') : Stp T ⟨ps, os⟩ ω H H' := ⟨fun b x h n p => st.keep b x h (fun z => n ((hp.map _).mem_iff.mpr z)) p, fun a ha => (st.new a ha).imp (fun z => (hp.map _).mem_iff.mpr z) id, st.ps, st.tab⟩
theorem ZE.perm {ps : List Addr} {os os' : Os} {Z : PyData → Om → Prop} (hp : os.Perm os') (h : ZE X T δ ⟨ps, os'⟩ e Z) : ZE X T δ ⟨ps, os⟩ e Z := fun σ H rl t Q q => h σ H (rl.permO hp) t Q fun d ω' v H' z s l dv => q d ω' v H' z (stp_permL hp s) l dv
theorem YX.perm {ps : List Addr} {os os' : Os} {Z : Rg → Om → Prop} (hp : os.Perm os') (h : YX X W T δ ⟨ps, os'⟩ e Z) : YX X W T δ ⟨ps, os⟩ e Z := fun σ H rl t Q q q2 => h σ H (rl.permO hp) t Q (fun r ω' v H' z s l dv => q r ω' v H' z (stp_permL hp s) l dv) (fun Z ω' H' z s l => q2 Z ω' H' z (stp_permL hp s) l)
end
end FP

namespace FP
open PySem PySem.Spec PyProof.Rows L2 HotX L2H
section
variable {X : Cx} {W : WX} {T : List (Addr × Str)} {δ : De} {ω ω1 : Om} {a b c e o iter tg : Expr} {es : List Expr} {d da db : PyData} {ds : List PyData} {r : Sd} {rs : List Sd} {pos p p1 apos : Pos} {R : Out → Prop} {ss sa sb : List Stmt} {x m : Str} {k : Nat} {fr : FrG}
end
end FP

namespace FP
open PySem PySem.Spec PyProof.Rows L2 HotX L2H
section
variable {X : Cx} {W : WX} {T : List (Addr × Str)} {δ : De} {ω : Om} {a b e o iter : Expr} {pos p tpos : Pos} {R : Out → Prop} {ss sa : List Stmt}
end
end FP

namespace FP
open PySem PySem.Spec PyProof.Rows L2 HotX L2H
section
variable {X : Cx}
/-- what the loop keeps: nothing yet, or the best so far and its key -/
inductive MinSt (items : List V) (kf : Nat → Int) : Nat → Array Value → Prop
  | nil : MinSt items kf 0 #[]
  | best {j i : Nat} {x : V} {vb : Value} {tb : Tok} (lt : i < j) (at_ : items[i]? = some x) (rel : RelV x vb) (first : ∀ j', j' < j → kf i ≤ kf j' ∧ (j' < i → kf i < kf j')) : MinSt items kf j #[vb, .int (kf i) tb]
theorem MinSt.one {items : List V} {kf : Nat → Int} {x : V} {v : Value} {t : Tok} (h : items[0]? = some x) (r : RelV x v) : MinSt items kf 1 #[v, .int (kf 0) t] :=
  .best Nat.one_pos h r fun j' hj => by
    obtain rfl : j' = 0 := by omega
    exact ⟨Int.le_refl _, fun z => absurd z (Nat.lt_irrefl _)⟩
theorem MinSt.more {items : List V} {kf : Nat → Int} {j i : Nat} {x : V} {v : Value} {t : Tok} (lt : i < j) (hx : items[i]? = some x) (r : RelV x v) (f : ∀ j', j' < j → kf i ≤ kf j' ∧ (j' < i → kf i < kf j')) (ge : ¬ kf j < kf i) : MinSt items kf (j + 1) #[v, .int (kf i) t] :=
  .best (Nat.lt_succ_of_lt lt) hx r fun j' hj => by
    rcases Nat.lt_or_ge j' j with z | z
    · exact f j' z
    · obtain rfl : j' = j := by omega
      omega
variable {δ : De} {ω : Om} {a : Expr} {d : PyData} {ds : List PyData} {pos p : Pos}
end
end FP

namespace FP
open PySem PySem.Spec PyProof.Rows L2 HotX L2H
section
variable {X : Cx} {pins : List (Addr × Obj)} {σ : L2.St} {H : Hp} {s : Shared} {h' : Heap}
def absI (n : Int) : Int := if n < 0 then -n else n
/-- how the numbers stand then -/
structure AbsSorted (ns' ns : List Int) : Prop where
  perm : ns'.Perm ns
  ord : ns'.Pairwise fun x y => absI x ≤ absI y
  stay : ∀ z, ns'.filter (fun x => absI x == z) = ns.filter (fun x => absI x == z)
open Classical in
variable {δ : De} {ω : Om} {a b : Expr} {d : PyData} {ds : List PyData} {pos p : Pos}
end
end FP

namespace FP
open PySem PySem.Spec PyProof.Rows L2 HotX L2H
section
variable {X : Cx} {δ : De} {ω : Om} {iter elt : Expr} {pos : Pos}
end
end FP

namespace FP
open PySem
abbrev zr (f0 : Value) (f : Bool) (TI TO : Addr) : Obj := { cls := .type "zip", dict := none, data := .fields #[f0, .bool f, .bool false, .ref TI, .ref TO], slots := #[] }
def Lent (v : Value) : Prop := v = .none ∨ ∃ T : Addr, v = rawInt T
/-- within a turn: base is the heap at its start -/
structure Zm (S1 S2 : Nat → Heap → Prop) (z TI TO i1 i2 : Addr) (base : Heap) (j1 j2 : Nat) (f0 : Value) (f : Bool) (a b : Value) (h : Heap) : Prop where
  sz : h.objs.size = base.objs.size
  kp : ∀ c o, c ∉ [z, TO, i1, i2] → base.get? c = some o → h.get? c = some o
  rz : h.get? z = some (zr f0 f TI TO)
  ri : IsPair h TI (.ref i1) (.ref i2)
  ro : IsPair h TO a b
  s1 : S1 j1 h
  s2 : S2 j2 h
/-- behind a turn: the new pair stands at the end -/
structure Zf (S1 S2 : Nat → Heap → Prop) (z TI TO i1 i2 : Addr) (base : Heap) (j : Nat) (f0 : Value) (x y : Value) (h : Heap) : Prop where
  sz : h.objs.size = base.objs.size + 1
  kp : ∀ c o, c ∉ [z, TO, i1, i2] → base.get? c = some o → h.get? c = some o
  rz : ∃ f, h.get? z = some (zr f0 f TI TO)
  ri : IsPair h TI (.ref i1) (.ref i2)
  ro : ∃ a b, IsPair h TO a b
  s1 : S1 j h
  s2 : S2 j h
  new : IsPair h base.objs.size x y
section
variable {prog : Program} {w : World} {A : Around} {E : Value → Shared → Prop} {s : Shared} {z TI TO i1 i2 : Addr} {fp1 fp2 : List Addr} {n1 n2 i j1 j2 : Nat} {P1 P2 : Nat → Value → Prop} {S1 S2 : Nat → Heap → Prop} {a b a' b' f0 f0' : Value} {f f' : Bool} {base h h' : Heap}
theorem Zm.one (m : Zm S1 S2 z TI TO i1 i2 base j1 j2 f0 f a b h) (S : ZipSep2 z TI TO i1 i2 fp1 fp2) (D2 : Draws prog w A i2 fp2 n2 P2 S2) (sb : Heap.SameBut i1 h h') (e : S1 (j1 + 1) h') : Zm S1 S2 z TI TO i1 i2 base (j1 + 1) j2 f0 f a b h' :=
  ⟨sb.1.trans m.sz, fun c o hc q => (sb.2 c fun y => hc (by simp [y])).trans (m.kp c o hc q), (sb.2 _ S.zi1).trans m.rz, (sb.2 _ S.TIi1).trans m.ri, (sb.2 _ S.Ti1).trans m.ro, e, D2.over m.s2 sb S.sep1_2⟩
theorem Zm.two (m : Zm S1 S2 z TI TO i1 i2 base j1 j2 f0 f a b h) (S : ZipSep2 z TI TO i1 i2 fp1 fp2) (D1 : Draws prog w A i1 fp1 n1 P1 S1) (sb : Heap.SameBut i2 h h') (e : S2 (j2 + 1) h') : Zm S1 S2 z TI TO i1 i2 base j1 (j2 + 1) f0 f a b h' :=
  ⟨sb.1.trans m.sz, fun c o hc q => (sb.2 c fun y => hc (by simp [y])).trans (m.kp c o hc q), (sb.2 _ S.zi2).trans m.rz, (sb.2 _ S.TIi2).trans m.ri, (sb.2 _ S.Ti2).trans m.ro, D1.over m.s1 sb S.sep2_1, e⟩
theorem Zm.push {x y : Value} (m : Zm S1 S2 z TI TO i1 i2 base i i f0 f a b h) (D1 : Draws prog w A i1 fp1 n1 P1 S1) (D2 : Draws prog w A i2 fp2 n2 P2 S2) : Zf S1 S2 z TI TO i1 i2 base i f0 x y (h.push { cls := .type "tuple", data := .seq #[x, y] }) :=
  have up : ∀ c o, h.get? c = some o → (h.push { cls := .type "tuple", data := .seq #[x, y] }).get? c = some o := fun c o q => Heap.get?_push_of_some _ q
  ⟨by rw [Heap.size_push, m.sz], fun c o hc q => up c o (m.kp c o hc q), ⟨f, up _ _ m.rz⟩, up _ _ m.ri, ⟨a, b, up _ _ m.ro⟩, D1.frame _ _ _ m.s1 fun c _ o q => up c o q, D2.frame _ _ _ m.s2 fun c _ o q => up c o q, by rw [← m.sz]; exact Heap.get?_push_size _ rfl⟩
/-- e's record, and nothing but e was touched since base -/
structure Em (base : Heap) (e : Addr) (r : Obj) (h : Heap) : Prop where
  sz : h.objs.size = base.objs.size
  kp : ∀ c o, c ≠ e → base.get? c = some o → h.get? c = some o
  re : h.get? e = some r
theorem Em.set {e : Addr} {r r' : Obj} (m : Em base e r h) (sb : Heap.SameBut e h h') (q : h'.get? e = some r') : Em base e r' h' :=
  ⟨sb.1.trans m.sz, fun c o hc q => (sb.2 c hc).trans (m.kp c o hc q), q⟩
abbrev er (f0 : Value) (it : Addr) (i : Int) (old : Value) : Obj := { cls := .type "enumerate", dict := none, data := .fields #[f0, .bool false, .ref it, rawInt i, .none, old], slots := #[] }
end
section
variable {prog : Program} {w : World} {A : Around} {E : Value → Shared → Prop} {s : Shared}
end
end FP

namespace FP
open PySem PySem.Spec PyProof.Rows L2 HotX L2H
structure EzSt (e z TI TO i1 i2 a b : Addr) (i : Nat) (h : Heap) : Prop where
  en : ∃ old, IsEnum h e z (i : Int) old
  zp : ∃ f0 f, Lent f0 ∧ h.get? z = some (zr f0 f TI TO)
  ti : IsPair h TI (.ref i1) (.ref i2)
  to : ∃ x y, IsPair h TO x y
  w1 : h.IsTupleIter i1 a i
  w2 : h.IsTupleIter i2 b i
section
variable {P : Program} {w : World} {K : PySem.W.Frag} {elts : List Expr} {kk : Nat} {tpos : Pos} {e z TI TO i1 i2 a b : Addr}
theorem EzSt.keep {i : Nat} {h h' : Heap} (st : EzSt e z TI TO i1 i2 a b i h) (k : ∀ c ∈ [e, z, TI, TO, i1, i2], ∀ o, h.get? c = some o → h'.get? c = some o) : EzSt e z TI TO i1 i2 a b i h' :=
  ⟨st.en.imp fun _ q => k e (by simp) _ q, st.zp.imp fun _ q => q.imp fun _ q => ⟨q.1, k z (by simp) _ q.2⟩, k TI (by simp) _ st.ti, st.to.imp fun _ q => q.imp fun _ q => k TO (by simp) _ q, st.w1.at fun o q => k i1 (by simp) o q, st.w2.at fun o q => k i2 (by simp) o q⟩
end
section
variable {X : Cx} {W : WX} {T : List (Addr × Str)} {δ : De} {ω : Om} {a b : Expr} {pos p p2 zp ep : Pos} {R : Out → Prop} {ss sa : List Stmt} {kk : Nat}
end
end FP

namespace FP
open PySem PySem.Spec PyProof.Rows L2 HotX L2H
structure ZnSt (z TI TO i1 i2 a b : Addr) (i : Nat) (h : Heap) : Prop where
  zp : ∃ f0 f, Lent f0 ∧ h.get? z = some (zr f0 f TI TO)
  ti : IsPair h TI (.ref i1) (.ref i2)
  to : ∃ x y, IsPair h TO x y
  w1 : h.IsTupleIter i1 a i
  w2 : h.IsTupleIter i2 b i
section
variable {P : Program} {w : World} {K : PySem.W.Frag} {n : Str} {tpos : Pos} {z TI TO i1 i2 a b : Addr}
theorem ZnSt.keep {i : Nat} {h h' : Heap} (st : ZnSt z TI TO i1 i2 a b i h) (k : ∀ c ∈ [z, TI, TO, i1, i2], ∀ o, h.get? c = some o → h'.get? c = some o) : ZnSt z TI TO i1 i2 a b i h' :=
  ⟨st.zp.imp fun _ q => q.imp fun _ q => ⟨q.1, k z (by simp) _ q.2⟩, k TI (by simp) _ st.ti, st.to.imp fun _ q => q.imp fun _ q => k TO (by simp) _ q, st.w1.at fun o q => k i1 (by simp) o q, st.w2.at fun o q => k i2 (by simp) o q⟩
end
section
variable {X : Cx} {W : WX} {T : List (Addr × Str)} {δ : De} {ω : Om} {a b c elt : Expr} {pos p : Pos} {R : Out → Prop} {ss : List Stmt} {xs ys : List PyData}
end
end FP

namespace FP
open PySem PySem.Spec PyProof.Rows L2 HotX L2H
section
variable {X : Cx} {W : WX} {T : List (Addr × Str)} {δ : De} {ω : Om} {a b c e elt iter : Expr} {pos p : Pos} {R : Out → Prop} {ss body : List Stmt} {d : PyData}
theorem pt_truPL {ds : List PyData} (h : PL X δ ω e ds) (he : ∀ whole, isTrue e X.env whole = (do let v ← whole; standAt e.pos; holding [v] (truthy v)) := by intro _; rfl) : PTd X δ ω e (!ds.isEmpty) := fun σ H r Q q =>
  wt (pt_truth pe_w he) (h σ H r _ fun l vs H1 s1 h1 d1 => by
    refine ⟨!ds.isEmpty, .inl ⟨vs, h1, ?_⟩, q H1 s1⟩
    cases d1 <;> rfl)
end
end FP

namespace FP
open PySem PySem.Spec PyProof.Rows L2 HotX L2H
section
variable {X : Cx} {W : WX} {T : List (Addr × Str)} {δ : De} {ω : Om} {a b c e o elt iter : Expr} {pos p : Pos} {R : Out → Prop} {ss body : List Stmt} {d : PyData}
end
end FP

namespace FP
open PySem PySem.Spec PyProof.Rows L2
def spT (K : PySem.W.Frag) (T : List (Addr × Str)) (fr : List PyData → Bool → Prop) : Sp := fun vs H Q _ => ∃ ds b, DpAll K H vs ds ∧ fr ds b ∧ LamX.Tabs T H ∧ ∀ H', Stp T ⟨[], []⟩ ⟨[], []⟩ H H' → Q (.bl b) H'
structure DefT (P : Program) (w : World) (K : PySem.W.Frag) (mg : Str → Option Value) (base : Heap) (T : List (Addr × Str)) (k : Nat) (x : Str) (fr : List PyData → Bool → Prop) : Prop where
  ex : ∃ f fd ps, FnOk P w K mg base (L2N.CX P w) k f fd ps (spT K T fr) ∧ mg x = some (.ref f) ∧ PySem.W.keepIn K (.ref f) = true ∧ L2.Binds K fd ps []
section
variable {X : Cx} {W : WX} {T : List (Addr × Str)} {δ : De} {ω : Om} {a b c e : Expr} {es : List Expr} {d : PyData} {ds : List PyData} {pos p : Pos} {k : Nat} {x : Str} {R : Out → Prop} {ss : List Stmt} {Z : PyData → Om → Prop} {fr : List PyData → Bool → Prop} {v : Bool}
theorem ZE.ex (h : ZE X T δ ω e Z) (q : ∀ d ω', Z d ω' → R (.rt (.im d) ω')) : EX X W T e δ ω R := fun σ H rl t Q k1 _ => h σ H rl t Q fun d ω' v H' z s l dv => k1 (.im d) ω' v H' (q d ω' z) s l dv
end
structure LamY (K : PySem.W.Frag) (mg : Str → Option Value) (base : Heap) (T : List (Addr × Str)) (y : Str) : Prop where
  ex : ∃ P, LamX.TabB base mg (He.codeOf K (y, none)) P ∧ (P, (y ++ ".<locals>.") ++ "<lambda>") ∈ T ∧ ∀ p ∈ T, p.1 = P → p.2 = (y ++ ".<locals>.") ++ "<lambda>"
end FP

namespace FP
open PySem PySem.Spec PyProof.Rows L2 HotX L2H
inductive Sk where
  | l
  | t
def IsS (h : Heap) : Sk → Addr → Array Value → Prop
  | .l => h.IsList
  | .t => h.IsTuple
def ItS (h : Heap) : Sk → Addr → Addr → Nat → Prop
  | .l => h.IsListIter
  | .t => h.IsTupleIter
abbrev itO : Sk → Addr → Obj
  | .l, a => { cls := .type "list_iterator", data := .fields #[.ref a, .int 0 0] }
  | .t, a => { cls := .type "tuple_iterator", data := .fields #[.ref a, .int 0 0] }
theorem IsS.at {k : Sk} {h h' : Heap} {a : Addr} {vs : Array Value} (q : IsS h k a vs) (e : ∀ o, h.get? a = some o → h'.get? a = some o) : IsS h' k a vs := by
  cases k with
  | l => exact let ⟨o, ho, r⟩ := q; ⟨o, e o ho, r⟩
  | t => exact let ⟨o, ho, r⟩ := q; ⟨o, e o ho, r⟩
theorem ItS.at {k : Sk} {h h' : Heap} {a b : Addr} {i : Nat} (q : ItS h k a b i) (e : ∀ o, h.get? a = some o → h'.get? a = some o) : ItS h' k a b i := by
  cases k with
  | l => exact let ⟨o, ho, r⟩ := q; ⟨o, e o ho, r⟩
  | t => exact let ⟨o, ho, r⟩ := q; ⟨o, e o ho, r⟩
theorem IsS.lt {k : Sk} {h : Heap} {a : Addr} {vs : Array Value} (q : IsS h k a vs) : a < h.objs.size := by
  cases k with
  | l => exact let ⟨o, ho, _⟩ := q; Heap.lt_size ho
  | t => exact let ⟨o, ho, _⟩ := q; Heap.lt_size ho
theorem ItS.ob {k : Sk} {h : Heap} {a b : Addr} {i : Nat} (q : ItS h k a b i) : ∃ o, h.get? a = some o ∧ ∀ v, o.data ≠ .cell v := by
  cases k with
  | l => exact let ⟨o, ho, _, d⟩ := q; ⟨o, ho, fun v z => by rw [d] at z; cases z⟩
  | t => exact let ⟨o, ho, _, d⟩ := q; ⟨o, ho, fun v z => by rw [d] at z; cases z⟩
theorem ItS.new {k : Sk} {h : Heap} {a b : Addr} (q : h.get? a = some (itO k b)) : ItS h k a b 0 := by
  cases k with
  | l => exact ⟨_, q, rfl, rfl⟩
  | t => exact ⟨_, q, rfl, rfl⟩
section
variable {prog : Program} {w : World} {A : Around} {E : Value → Shared → Prop} {s : Shared}
/-- the five things that a zip of two is made of -/
structure ZpNew (k1 k2 : Sk) (a b : Addr) (h h' : Heap) : Prop where
  z : h'.get? (h.objs.size + 4) = some (zr .none false (h.objs.size + 2) (h.objs.size + 3))
  ti : IsPair h' (h.objs.size + 2) (.ref h.objs.size) (.ref (h.objs.size + 1))
  to : IsPair h' (h.objs.size + 3) .none .none
  w1 : ItS h' k1 h.objs.size a 0
  w2 : ItS h' k2 (h.objs.size + 1) b 0
  kp : ∀ c o, h.get? c = some o → h'.get? c = some o
end
section
variable {prog : Program} {w : World} {A : Around} {E : Value → Shared → Prop} {s : Shared} {z TI TO i1 i2 : Addr} {fp1 fp2 : List Addr} {n1 n2 i : Nat} {P1 P2 : Nat → Value → Prop} {S1 S2 : Nat → Heap → Prop} {a b f0 : Value} {f : Bool}
end
section
variable {prog : Program} {w : World} {A : Around} {E : Value → Shared → Prop} {s : Shared} {z TI TO : Addr} {f0 : Value} {f : Bool}
end
structure ZsSt (k1 k2 : Sk) (z TI TO i1 i2 a b : Addr) (i : Nat) (h : Heap) : Prop where
  zp : ∃ f0 f, Lent f0 ∧ h.get? z = some (zr f0 f TI TO)
  ti : IsPair h TI (.ref i1) (.ref i2)
  to : ∃ x y, IsPair h TO x y
  w1 : ItS h k1 i1 a i
  w2 : ItS h k2 i2 b i
section
variable {X : Cx} {pins : List (Addr × Obj)} {σ : L2.St} {H : Hp} {s : Shared} {k : Sk} {a : Addr} {xs ys : List V}
end
section
variable {P : Program} {w : World} {K : PySem.W.Frag} {tg : Expr} {k1 k2 : Sk} {z TI TO i1 i2 a b : Addr}
theorem ZsSt.keep {i : Nat} {h h' : Heap} (st : ZsSt k1 k2 z TI TO i1 i2 a b i h) (k : ∀ c ∈ [z, TI, TO, i1, i2], ∀ o, h.get? c = some o → h'.get? c = some o) : ZsSt k1 k2 z TI TO i1 i2 a b i h' :=
  ⟨st.zp.imp fun _ q => q.imp fun _ q => ⟨q.1, k z (by simp) _ q.2⟩, k TI (by simp) _ st.ti, st.to.imp fun _ q => q.imp fun _ q => k TO (by simp) _ q, st.w1.at fun o q => k i1 (by simp) o q, st.w2.at fun o q => k i2 (by simp) o q⟩
end
section
variable {X : Cx} {W : WX} {T : List (Addr × Str)} {δ : De} {ω : Om} {a b c elt tg iter : Expr} {pos p zp : Pos} {R : Out → Prop} {ss : List Stmt} {xs ys : List PyData} {da db : PyData}
end
end FP

namespace FP
open PySem PySem.Spec PyProof.Rows L2 HotX L2H
section
variable {K : PySem.W.Frag} {H : Hp} {σ : L2.St} {δ : De} {ω : Om} {j : Nat} {a : Addr} {o : Od} {u : HO}
end
section
variable {X : Cx} {W : WX} {T : List (Addr × Str)} {δ : De} {ω : Om} {b c e o iter elt kx vx tg : Expr} {es : List Expr} {d : PyData} {ds : List PyData} {r : Sd} {pos p p1 sp apos cpos : Pos} {R : Out → Prop} {ss : List Stmt} {a : Addr} {kvs : List (Key × Sd)} {k : Key}
variable {trs : List (TE × TE)} {Z : List (Key × Sd) → Om → Prop} {n : Int}
end
end FP

namespace FP
open PySem PySem.Spec PyProof.Rows L2 HotX L2H
section
variable {X : Cx} {W : WX} {T : List (Addr × Str)} {δ : De} {ω : Om} {a b c e : Expr} {es : List Expr} {d da : PyData} {ds : List PyData} {r : Sd} {pos p : Pos} {R : Out → Prop} {ss : List Stmt}
end
end FP

namespace FP
open PySem PySem.Spec PyProof.Rows L2 HotX L2H
section
variable {X : Cx} {δ : De} {ω : Om} {o : Expr} {pos p : Pos} {a : Addr} {kvs : List (Key × Sd)}
end
end FP

namespace FP
open PySem PySem.Spec PyProof.Rows L2 HotX L2H
section
variable {X : Cx} {W : WX} {T : List (Addr × Str)} {δ : De} {ω : Om} {a b e : Expr} {es r : List Expr} {d da db : PyData} {ds : List PyData} {pos p : Pos}
end
end FP

namespace FP
open PySem PySem.Spec PyProof.Rows L2 HotX L2H
section
variable {prog : Program} {w : World} {A : Around} {R : Result → Shared → Prop} {I : Addr} {fp wr : List Addr} {G : Array GenState → Array GenState → Prop} {n : Nat} {P : Nat → Value → Prop} {St : Nat → Shared → Prop}
end
section
variable {prog : Program} {w : World} {A : Around} {E : Value → Shared → Prop} {s : Shared}
end
end FP

namespace FP
open PySem PySem.Spec PyProof.Rows L2 HotX L2H
section
variable {X : Cx} {δ : De} {ω : Om} {a : Expr} {p p2 q pos : Pos}
end
end FP

namespace FP
open PySem PySem.Spec PyProof.Rows L2 HotX L2H
section
variable {X : Cx} {W : WX} {T : List (Addr × Str)} {δ : De} {ω : Om} {a b e o : Expr} {es : List Expr} {d : PyData} {pos p : Pos} {k : Nat} {x y : Str} {rs : List Sd} {fr : FrG} {R : Out → Prop} {ss : List Stmt}
theorem PR.yx {rr : Rs} {Z : Rg → Om → Prop} (h : PR X W δ ω e rr) (z : match rr with | .ok d => Z (.ok (.im d)) ω | .er C => Z (.er C) ω) : YX X W T δ ω e Z := fun σ H rl t Q q q2 => h σ H rl Q (by
  cases rr with
  | ok d => exact fun v H' s dv => q (.im d) ω v H' z (.of s) (rl.mono s) dv
  | er C => exact fun H' s => q2 C ω H' z (.of s) (rl.mono s))
end
end FP

namespace FP
open PySem PySem.Spec PyProof.Rows L2 HotX L2H
section
variable {X : Cx} {W : WX} {T : List (Addr × Str)} {δ : De} {ω : Om} {a b : Expr} {ds : List PyData} {pos : Pos}
end
end FP

namespace FP
open PySem PySem.Spec PyProof.Rows L2 HotX L2H
section
variable {X : Cx} {δ : De} {ω : Om} {a : Expr} {d : PyData} {ds : List PyData} {pos p : Pos}
end
end FP

namespace FP
open PySem PySem.Spec PyProof.Rows L2 HotX L2H
section
variable {X : Cx} {W : WX} {T : List (Addr × Str)} {δ : De} {ω : Om} {b e o : Expr} {d : PyData} {pos lp ap cp : Pos} {k : Key} {z : Addr} {j : Nat} {kvs : List (Key × Sd)} {R : Out → Prop} {ss : List Stmt}
end
end FP

namespace FP
open PySem PySem.Spec PyProof.Rows L2 HotX L2H
section
variable {X : Cx} {W : WX} {T : List (Addr × Str)} {δ : De} {ω : Om} {o e iter tg kx vx elt : Expr} {es : List Expr} {d : PyData} {a : Addr} {kvs : List (Key × Sd)} {pos p p2 : Pos} {R : Out → Prop} {ss : List Stmt}
end
end FP

namespace FP
open PySem PySem.Spec PyProof.Rows L2 HotX L2H
section
variable {X : Cx} {W : WX} {T : List (Addr × Str)} {δ : De} {ω : Om} {a b e : Expr} {pos p : Pos}
theorem PS1.yx {r : Sd} {Z : Rg → Om → Prop} (h : PS1 X δ ω e r) (z : Z (.ok r) ω) : YX X W T δ ω e Z := fun σ H rl t Q q _ => h σ H rl _ fun v H1 s d => q r ω v H1 z (.of s) (rl.mono s) d
end
end FP

namespace FP
open PySem PySem.Spec PyProof.Rows L2 HotX L2H
section
variable {X : Cx} {W : WX} {T : List (Addr × Str)} {δ : De} {ω : Om} {o b : Expr} {pos p ap cp : Pos} {z : Addr} {kvs : List (Key × Sd)}
end
end FP

namespace FP
open PySem PySem.Spec PyProof.Rows L2 HotX L2H
section
variable {X : Cx} {W : WX} {T : List (Addr × Str)} {δ : De} {ω : Om} {a b o : Expr} {pos p apos : Pos} {z y : Str} {n : Int}
end
end FP

namespace FP
open PySem PySem.Spec PyProof.Rows L2 HotX L2H
section
variable {X : Cx} {W : WX} {T : List (Addr × Str)} {δ : De} {ω : Om} {a b : Expr} {ss : List Stmt} {pos : Pos} {R : Out → Prop} {Z : Addr} {d : PyData}
end
end FP

namespace FP
open PySem PySem.Spec PyProof.Rows L2 HotX L2H
section
variable {X : Cx} {W : WX} {T : List (Addr × Str)} {δ : De} {ω : Om} {a b c e : Expr} {es : List Expr} {d : PyData} {ds : List PyData} {pos p apos : Pos} {R : Out → Prop} {ss sa : List Stmt} {z y : Str} {ts : List TE} {acc out : Str}
end
end FP

namespace FP
open PySem PySem.Spec PyProof.Rows L2 HotX L2H
section
variable {X : Cx} {W : WX} {T : List (Addr × Str)} {δ : De} {ω : Om} {a b e : Expr} {ds : List PyData} {pos : Pos} {R : Out → Prop} {ss : List Stmt}
end
end FP

namespace FP
open PySem PySem.Spec PyProof.Rows L2 HotX L2H
def SDT (X : Cx) (W : WX) (T : List (Addr × Str)) (ss : List Stmt) (δ : De) (ω : Om) (R : Out → Prop) : Prop :=
  ∃ t, PSsT X ss t ∧ ∀ σ H D, Rl X.K H σ δ ω → LamX.Tabs T H → Kt X W T ω H D R → t D σ H
section
variable {X : Cx} {W : WX} {T : List (Addr × Str)} {δ : De} {ω : Om} {c o : Expr} {ss : List Stmt} {R : Out → Prop} {z y v : Str} {apos pos p1 p2 p3 : Pos} {j k : Nat}
theorem SD.t (h : SD X W T ss δ ω R) : SDT X W T ss δ ω R := ⟨_, PSsT.of pss_w, h⟩
end
end FP

namespace FP
open PySem PySem.Spec PyProof.Rows L2 HotX L2H
section
variable {X : Cx} {δ : De} {ω : Om} {tg : Expr} {n : Str} {A : Addr} {zs : List Str} {p : Pos}
end
end FP

namespace FP
open PySem PySem.Spec PyProof.Rows L2 HotX L2H
end FP

namespace FP
open PySem PySem.Spec PyProof.Rows L2 HotX L2H
section
variable {X : Cx} {δ : De} {ω : Om} {b : Expr} {n z : Str} {A : Addr} {p2 apos cpos : Pos} {r : Option Value} {d : PyData}
end
end FP

namespace FP
open PySem PySem.Spec PyProof.Rows L2
section
variable {X : Cx} {W : WX} {T : List (Addr × Str)} {δ : De} {ω : Om} {e o : Expr} {es : List Expr} {d d1 d2 : PyData} {ds : List PyData} {pos p p1 apos : Pos} {R : Out → Prop} {ss : List Stmt} {a C : Addr} {fs fs' : Fs} {f x m : Str} {k : Nat} {z : Str}
end
end FP

namespace FP
open PySem PySem.Spec PyProof.Rows L2
section
variable {X : Cx} {W : WX} {T : List (Addr × Str)} {δ : De} {ω : Om} {a b c e o : Expr} {es : List Expr} {d : PyData} {ds : List PyData} {r : Sd} {pos p p1 apos cpos : Pos} {R : Out → Prop} {ss : List Stmt} {z C : Addr} {fs fs' : Fs} {m : Str} {k : Nat} {xs : List Sd}
end
end FP

namespace FP
open PySem PySem.Spec PyProof.Rows L2 HotX L2H
section
variable {X : Cx} {pins qins : List (Addr × Obj)} {σ : L2.St} {H : Hp} {s : Shared}
/-- a record whose address no frame has -/
theorem no_frame {base h : Heap} {l : List Env} {b : Addr} {o : Obj} {vs : Array Value} (ff : h.FunFrames base l) (e : h.get? b = some o) (d : o.data = .fields vs) : b ∉ frs l := fun hm => by
  obtain ⟨_, o2, e2, nf⟩ := ff.mem hm
  rw [e] at e2
  cases e2
  exact nf vs d
/-- what a caught exception is: its record, its traceback -/
structure Cau (X : Cx) (cls : Value) (d : Option Addr) (a : Addr) (oe : Obj) (T : Addr) (oT : Obj) : Prop where
  z : L2N.Zn cls d oe
  vs : ∃ vs, oe.data = .fields vs ∧ vs[1]? = some (.ref T)
  ne : T ≠ a
  ts : ∃ ts, oT.data = .fields ts ∧ ts[3]? = some .none
  a0 : X.s_0.heap.get? a = none
  T0 : X.s_0.heap.get? T = none
end
section
variable {X : Cx} {W : WX} {T : List (Addr × Str)} {δ : De} {ω : Om} {e tgt : Expr} {R : Out → Prop} {ss : List Stmt} {Z : Addr} {c : Value} {x : Str} {b₀ : Stmt} {np pos pos' rp apos : Pos} {g : TG}
end
end FP

namespace FP
open PySem PySem.Spec PyProof.Rows L2 HotX L2H
section
variable {X : Cx} {W : WX} {T : List (Addr × Str)} {δ : De} {ω : Om} {a b e : Expr} {pos p : Pos} {k : Nat} {x : Str} {R : Out → Prop} {ss : List Stmt} {Z : Addr} {fr : FrG} {r1 : Sd}
end
end FP

namespace FP
open PySem PySem.Spec PyProof.Rows L2 HotX L2H
section
variable {X : Cx} {W : WX} {δ : De} {ω : Om} {tg iter : Expr} {pos p : Pos} {k : Nat} {x : Str}
end
end FP

namespace FP
open PySem PySem.Spec PyProof.Rows L2 HotX L2H
section
variable {X : Cx} {W : WX} {T : List (Addr × Str)} {δ : De} {ω : Om} {o e b : Expr} {pos p ap cp : Pos} {z : Addr} {kvs : List (Key × Sd)} {ds : List PyData}
end
end FP
namespace FP
open PySem PySem.Spec PyProof.Rows L2 HotX L2H
section
variable {X : Cx} {W : WX} {T : List (Addr × Str)} {δ : De} {ω : Om} {c o2 iter tg : Expr} {pos p1 p2 p3 p4 : Pos} {a : Addr}
end
end FP

namespace FP
open PySem PySem.Spec PyProof.Rows L2 HotX L2H
section
variable {X : Cx} {W : WX} {T : List (Addr × Str)} {δ : De} {ω : Om} {e : Expr} {es : List Expr} {pos p1 apos : Pos} {z C : Addr} {fs : Fo} {x m : Str} {k : Nat} {fr : FrG}
end
section
variable {X : Cx} {W : WX} {T : List (Addr × Str)} {δ : De} {ω : Om} {e : Expr}
end
section
variable {X : Cx} {W : WX} {T : List (Addr × Str)} {δ : De} {ω : Om} {a b c iter tg : Expr} {pos : Pos} {R : Out → Prop} {ss sa : List Stmt}
end
section
variable {X : Cx} {T : List (Addr × Str)} {δ : De} {ω : Om} {o b : Expr} {pos : Pos} {a : Addr}
end
section
variable {X : Cx} {W : WX} {T : List (Addr × Str)} {δ : De} {ω : Om} {e : Expr}
end
section
variable {X : Cx} {T : List (Addr × Str)} {δ : De} {ω : Om} {e : Expr} {trs : List (TE × TE)} {Z : List (Key × Sd) → Om → Prop} {jk : Nat} {kp : Pos} {z : Str}
end
end FP

namespace FP
open PySem PySem.Spec PyProof.Rows L2 HotX L2H
section
variable {X : Cx}
variable {a b : Expr} {rest : List Expr} {pos : Pos} {ta tb : TE}
end
section
variable {X : Cx} {W : WX} {T : List (Addr × Str)} {δ : De} {ω : Om} {a b c e o : Expr} {r : List Expr} {d da db : PyData} {ds : List PyData} {pos ap cp : Pos} {z : Addr} {kvs : List (Key × Sd)} {k : Key}
end
end FP

namespace FP
open PySem PySem.Spec PyProof.Rows L2 HotX L2H
section
variable {X : Cx} {W : WX} {T : List (Addr × Str)} {δ : De} {ω : Om} {a b e o ke : Expr} {es : List Expr} {d : PyData} {pos p : Pos} {k : Nat} {x y : Str} {rs : List Sd} {fr : FrG} {R : Out → Prop} {ss : List Stmt} {trs : List (TE × TE)}
end
section
variable {X : Cx} {W : WX} {T : List (Addr × Str)} {δ : De} {e : Expr} {es : List Expr} {pos p p1 apos : Pos} {z C : Addr} {fs : Fo} {x m : Str} {k : Nat} {fr : FrG} {R : Out → Prop} {rs : List Sd}
end
section
variable {X : Cx} {W : WX} {T : List (Addr × Str)} {δ : De} {ω : Om} {pos : Pos} {R : Out → Prop} {trs : List (TE × TE)}
end
section
variable {X : Cx} {T : List (Addr × Str)} {δ : De} {ω : Om} {es : List Expr}
end
end FP

namespace FP
open PySem PySem.Spec PyProof.Rows L2 HotX L2H
section
variable {prog : Program} {w : World} {κ : Type} [DecidableEq κ] {knd : KeyKind prog w κ} {A : Around} {E : Value → Shared → Prop} {s : Shared}
end
section
variable {X : Cx} {T : List (Addr × Str)} {δ : De} {oe ke ve : Expr} {pos : Pos} {a : Addr} {kvs : List (Key × Sd)} {z : Str} {r : Sd}
end
end FP

namespace FP
open PySem PySem.Spec PyProof.Rows L2 HotX L2H
section
variable {X : Cx} {W : WX} {T : List (Addr × Str)} {δ : De} {ω : Om} {o kx vx : Expr} {pos cpos apos ipos : Pos} {R : Out → Prop} {ss : List Stmt} {a : Addr}
end
end FP

namespace FP
open PySem PySem.Spec PyProof.Rows L2 HotX L2H
section
variable {X : Cx} {δ : De} {ω : Om} {a b c : Expr} {pos : Pos}
end
section
variable {X : Cx} {W : WX} {T : List (Addr × Str)} {δ : De} {e : Expr} {es : List Expr} {pos p : Pos} {x : Str} {k : Nat} {fr : FrG} {R : Out → Prop} {rs : List Sd}
end
end FP

namespace FP
open PySem PySem.Spec PyProof.Rows L2 HotX L2H
def spGT (K : PySem.W.Frag) (T : List (Addr × Str)) (fr : FrG) : Sp := fun vs H Q E => ∃ (os : Os) (as : List Sd) (R : Rg → Os → Prop), Ro K H ⟨[], os⟩ ∧ Paired (SdV K (hid (ads ⟨[], os⟩) H)) as vs ∧ fr os as R ∧ LamX.Tabs T H ∧
  ∀ r os' H', R r os' → Stp T ⟨[], os⟩ ⟨[], os'⟩ H H' → Ro K H' ⟨[], os'⟩ → RgQ K [] os' H' Q E r
structure GOkT (P : Program) (w : World) (K : PySem.W.Frag) (mg : Str → Option Value) (base : Heap) (T : List (Addr × Str)) (k : Nat) (x : Str) (fr : FrG) : Prop where
  ex : ∃ f fd ps, FnOk P w K mg base (L2N.CX P w) k f fd ps (spGT K T fr) ∧ mg x = some (.ref f) ∧ PySem.W.keepIn K (.ref f) = true ∧ L2.Binds K fd ps []
theorem GOkT.mono {P : Program} {w : World} {K : PySem.W.Frag} {mg : Str → Option Value} {base : Heap} {T : List (Addr × Str)} {j k : Nat} {x : Str} {fr : FrG} (G : GOkT P w K mg base T j x fr) (h : j ≤ k) : GOkT P w K mg base T k x fr := by
  obtain ⟨f, fd, ps, F, m, kp, b⟩ := G.ex
  exact ⟨f, fd, ps, F.mono h, m, kp, b⟩
section
variable {P : Program} {w : World} {K : PySem.W.Frag} {mg : Str → Option Value} {base : Heap} {x qual : Str} {params : Arguments} {body : List Stmt} {scope : Scope} {f C : Addr} {fd : FuncData} {N ps : List Str} {k : Nat} {fr : FrG} {T : List (Addr × Str)}
end
section
variable {X : Cx} {W : WX} {T : List (Addr × Str)} {δ : De} {e : Expr} {es : List Expr} {pos p : Pos} {x : Str} {k : Nat} {fr : FrG} {R : Out → Prop} {rs : List Sd} {ss : List Stmt}
end
section
variable {X : Cx} {W : WX} {T : List (Addr × Str)} {δ : De} {e : Expr} {es : List Expr} {pos p p1 apos : Pos} {z C : Addr} {fs : Fo} {x m : Str} {k : Nat} {fr : FrG} {R : Out → Prop} {rs : List Sd}
end
end FP

namespace FP
open PySem PySem.Spec PyProof.Rows L2 HotX L2H
section
variable {X : Cx} {W : WX} {T : List (Addr × Str)} {δ : De} {ω ω1 : Om} {a b c e o iter tg : Expr} {es : List Expr} {d : PyData} {ds : List PyData} {r : Sd} {rs : List Sd} {pos p p1 apos : Pos} {R : Out → Prop} {ss sa sb : List Stmt} {x m : Str} {k : Nat} {Z : PyData → Om → Prop}
end

section
variable {X : Cx} {T : List (Addr × Str)} {δ : De} {ω : Om} {iter tg elt : Expr} {pos : Pos} {a : Addr}
end
section
variable {X : Cx} {T : List (Addr × Str)} {δ : De} {a1 b o2 e1 e2 : Expr} {pos p p3 : Pos} {a : Addr} {kvs : List (Key × Sd)} {x : Str} {k : Nat} {fr : FrG} {d d1 d2 da db dz : PyData} {key : Key} {r : Sd} {ω : Om}
end
section
variable {X : Cx} {T : List (Addr × Str)} {δ : De} {ω : Om} {e : Expr} {a : Addr} {kvs : List (Key × Sd)} {d : PyData} {R : Out → Prop} {W : WX} {p pos : Pos}
end
end FP

namespace FP
open PySem PySem.Spec PyProof.Rows L2 HotX L2H
section
variable {X : Cx} {W : WX} {T : List (Addr × Str)} {δ : De} {ω : Om} {e : Expr} {R : Out → Prop} {ss : List Stmt}
end
end FP

namespace FP
open PySem PySem.Spec PyProof.Rows L2
section
variable {X : Cx} {W : WX} {T : List (Addr × Str)} {δ : De} {ω : Om} {a iter : Expr} {pos : Pos} {R : Out → Prop} {ss sa : List Stmt} {ds : List PyData}
end
end FP

namespace FP
open PySem PySem.Spec PyProof.Rows L2
section
variable {X : Cx} {W : WX} {T : List (Addr × Str)} {δ : De} {ω : Om} {e : Expr} {pos : Pos} {R : Out → Prop} {ss : List Stmt} {z C : Addr}
end
end FP

namespace FP
open PySem PySem.Spec PyProof.Rows L2
section
variable {X : Cx} {W : WX} {T : List (Addr × Str)} {δ : De} {ω : Om} {a b e : Expr} {es r : List Expr} {pos : Pos} {R : Out → Prop}
end
end FP

namespace FP
open PySem PySem.Spec PyProof.Rows L2
section
variable {X : Cx} {W : WX} {T : List (Addr × Str)} {δ : De} {ω : Om} {iter tg elt e : Expr} {es : List Expr} {pos p : Pos} {R : Out → Prop}
end
section
variable {X : Cx} {W : WX} {T : List (Addr × Str)} {δ : De} {ω : Om} {a b e : Expr} {es : List Expr} {pos p : Pos} {R : Out → Prop} {C : Addr} {k : Nat} {fr : FrG}
end
end FP

namespace FP
open PySem PySem.Spec PyProof.Rows L2 HotX L2H
section
variable {X : Cx} {W : WX} {T : List (Addr × Str)} {δ : De} {ω : Om} {iter tg elt e : Expr} {es : List Expr} {pos p : Pos} {R : Out → Prop} {ss sa : List Stmt} {a : Addr} {kvs : List (Key × Sd)}
end
section
variable {X : Cx} {T : List (Addr × Str)} {δ : De} {ω : Om} {o2 b e1 : Expr} {pos p p3 : Pos} {a : Addr} {kvs kv2 : List (Key × Sd)} {d : PyData} {key : Key}
end
section
variable {X : Cx} {W : WX} {T : List (Addr × Str)} {δ : De} {ω : Om} {iter tg o2 b b3 e : Expr} {pos p p3 pos' : Pos} {R : Out → Prop} {ss sa : List Stmt} {a c : Addr} {kvs kv2 : List (Key × Sd)} {key k3 : Key} {ob : Od}
end
end FP

namespace FP
open PySem PySem.Spec PyProof.Rows L2
end FP

namespace FP
open PySem PySem.Spec PyProof.Rows L2 HotX L2H
section
variable {X : Cx} {W : WX} {T : List (Addr × Str)} {δ : De} {ω : Om} {pos : Pos} {R : Out → Prop}
end
end FP
namespace FP
open PySem PySem.Spec PyProof.Rows L2 HotX L2H
section
variable {X : Cx} {δ : De} {ω : Om} {pos : Pos}
end
end FP

namespace FP
open PySem PySem.Spec PyProof.Rows L2
section
variable {X : Cx} {W : WX} {T : List (Addr × Str)} {δ : De} {ω : Om} {a b e iter tg elt : Expr} {es : List Expr} {pos p : Pos} {R : Out → Prop} {ss sa : List Stmt} {r : Sd}
mutual
inductive OwnD (os : Os) : Sd → PyData → Prop
  | im (d : PyData) : OwnD os (.im d) d
  | tup {a : Addr} {rs : List Sd} {ds : List PyData} (h : (a, Od.tup rs) ∈ os) (hs : OwnDs os rs ds) : OwnD os (.ad a) (.tuple ds)
  | lst {a : Addr} {rs : List Sd} {ds : List PyData} (h : (a, Od.lst rs) ∈ os) (hs : OwnDs os rs ds) : OwnD os (.ad a) (.list ds)
inductive OwnDs (os : Os) : List Sd → List PyData → Prop
  | nil : OwnDs os [] []
  | cons {r : Sd} {d : PyData} {rs : List Sd} {ds : List PyData} (h : OwnD os r d) (hs : OwnDs os rs ds) : OwnDs os (r :: rs) (d :: ds)
end
theorem lend_hid {os rest : Os} {H : Hp} : Same (hid (ads ⟨[], os ++ rest⟩) H) (hid (ads ⟨[], rest⟩) H) := hid_more fun b h => by
  rcases List.mem_append.mp h with q | q
  · exact absurd q List.not_mem_nil
  · refine List.mem_append_right _ ?_
    show b ∈ (os ++ rest).map (·.1)
    rw [List.map_append]
    exact List.mem_append_right _ q
theorem lend_out {K : PySem.W.Frag} {os rest : Os} {H : Hp} (ro : Ro K H ⟨[], os ++ rest⟩) {a : Addr} {o : Od} (h : (a, o) ∈ os) : a ∉ ads ⟨[], rest⟩ := fun q => by
  have nd := ro.nd
  have nd : ((os ++ rest).map (·.1)).Nodup := nd
  rw [List.map_append] at nd
  rcases List.mem_append.mp q with q | q
  · exact List.not_mem_nil q
  · exact (List.nodup_append.mp nd).2.2 a (List.mem_map.mpr ⟨_, h, rfl⟩) a q rfl
mutual
theorem own_dp {K : PySem.W.Frag} {os rest : Os} {H : Hp} (ro : Ro K H ⟨[], os ++ rest⟩) : ∀ {r : Sd} {d : PyData}, OwnD os r d → ∀ {v : V}, SdV K (hid (ads ⟨[], os ++ rest⟩) H) r v → Dp K (hid (ads ⟨[], rest⟩) H) v d
  | _, _, .im d, v, h => dpm lend_hid h
  | _, _, .tup (a := a) m hs, v, h => by
    have h : v = .ref a := h
    subst h
    obtain ⟨vs, g1, g2⟩ := ro.ob a _ (List.mem_append_left _ m)
    exact .tup (SqT.of (hid_of (lend_out ro m) g1)) (own_dps ro hs g2)
  | _, _, .lst (a := a) m hs, v, h => by
    have h : v = .ref a := h
    subst h
    obtain ⟨vs, g1, g2⟩ := ro.ob a _ (List.mem_append_left _ m)
    exact .lst (SqL.of (hid_of (lend_out ro m) g1)) (own_dps ro hs g2)
theorem own_dps {K : PySem.W.Frag} {os rest : Os} {H : Hp} (ro : Ro K H ⟨[], os ++ rest⟩) : ∀ {rs : List Sd} {ds : List PyData}, OwnDs os rs ds → ∀ {vs : List V}, Paired (SdV K (hid (ads ⟨[], os ++ rest⟩) H)) rs vs → DpAll K (hid (ads ⟨[], rest⟩) H) vs ds
  | _, _, .nil, _, .nil => .nil
  | _, _, .cons h hs, _, .cons a b => .cons (own_dp ro h a) (own_dps ro hs b)
end
end
end FP
namespace FP
open PySem PySem.Spec PyProof.Rows L2
section
variable {X : Cx} {W : WX} {T : List (Addr × Str)} {δ : De} {ω : Om} {iter c elt : Expr} {pos : Pos} {R : Out → Prop}
end
end FP

namespace LC
open PySem PySem.Spec PyProof.Rows L2
/-- the record's context stands in the ground, out of the tracked ones' reach; it has none itself -/
def Way (B : Heap) (H : Hp) (o : Obj) : Prop := ∀ vs, o.data = .fields vs →
  vs[2]? = some .none ∨ ∃ c oc vc, vs[2]? = some (.ref c) ∧ B.get? c = some oc ∧ H c = none ∧ oc.data = .fields vc ∧ vc[2]? = some .none
def Zw (B : Heap) (H : Hp) (cls : Value) (d : Option Addr) : Obj → Prop := fun o => o.cls = cls ∧ o.dict = d ∧ Way B H o
theorem way_one {B : Heap} {H : Hp} {o : Obj} {v : Value} (h : Way B H o) : Way B H (o.mapFields (·.setIfInBounds 1 v)) := by
  obtain ⟨k, dd, dt, sl⟩ := o
  cases dt with
  | fields ws =>
    intro vs e
    have e : Data.fields (ws.setIfInBounds 1 v) = Data.fields vs := e
    cases e
    have q : (ws.setIfInBounds 1 v)[2]? = ws[2]? := by simp [Array.getElem?_setIfInBounds]
    rw [q]
    exact h ws rfl
  | _ =>
    intro vs e
    first
    | exact Data.noConfusion e
    | cases e
theorem Zw.steady {B : Heap} {H : Hp} {cls : Value} {d : Option Addr} : PXN.Steady1 (Zw B H cls d) := fun _ _ h => ⟨PXN.steady_cls _ _ h.1, PXN.steady_dict _ _ h.2.1, way_one h.2.2⟩
theorem zn_zw {B : Heap} {H : Hp} {cls : Value} {d : Option Addr} : ∀ o, L2N.Zn cls d o → Zw B H cls d o := fun _ h => ⟨h.1, h.2.1, fun vs e => .inl (h.2.2 vs e)⟩
theorem sky_imp {B : Heap} {l : List Env} {a L : Addr} {Z Z' : Obj → Prop} {h : Heap} (z : ∀ o, Z o → Z' o) (x : Sky B l a Z L h) : Sky B l a Z' L h := by
  rcases x with ⟨x1, x2, x3, oe, vs, x4, x5, x6⟩ | x | ⟨x1, x2, x3, x4⟩
  · exact .inl ⟨x1, x2, x3, oe, vs, x4, z _ x5, x6⟩
  · exact .inr (.inl (L2H.flyingZ_imp z x))
  · exact .inr (.inr ⟨x1, x2, x3, L2H.tracedZ_imp z x4⟩)
/-- such an exception in the air of X -/
def XE (X : Cx) (W : WX) (u : Value) (t : Shared) : Prop := ∃ (a : Addr) (B : Heap) (t0 : Shared) (pins : List (Addr × Obj)) (σ : L2.St) (H : Hp) (cls : Value) (d : Option Addr),
  u = .ref a ∧ Inv X pins σ H t0 ∧ (∀ b o, t0.heap.get? b = some o → b ∉ frs X.stack → B.get? b = some o) ∧ t0.heap.UpToSlots t.heap ∧ Sky B X.stack a (Zw B H cls d) X.env.locals t.heap ∧ H a = none ∧ t.os = t0.os ∧ AllBare t.gens ∧ W cls d σ H
def Takes (X : Cx) (W : WX) : Prop := ∀ u t, XE X W u t → X.xe u t
def CX (P : Program) (w : World) (outer : List Env) (H : Hp) (s : Shared) (E : XK) (u : Value) (t : Shared) : Prop := ∃ (a : Addr) (B : Heap) (G : Hp) (cls : Value) (d : Option Addr),
  u = .ref a ∧ HandSPX.FlyingZ B outer a (Zw B G cls d) t.heap ∧ HOk P w G B ∧ UB (frs outer) H G s.heap B t.heap ∧ G a = none ∧ t.os = s.os ∧ AllBare t.gens ∧ E cls d G
section
variable {X : Cx} {W : WX} {E : XK} {pins : List (Addr × Obj)} {σ : L2.St} {H : Hp} {s t : Shared} {u : Value}
theorem XE.of_N (x : L2N.XE X W u t) : XE X W u t := by
  obtain ⟨a, B, t0, pn, σ, H, cls, d, x1, x2, x3, x4, x5, x6⟩ := x
  exact ⟨a, B, t0, pn, σ, H, cls, d, x1, x2, x3, x4, sky_imp zn_zw x5, x6⟩
theorem Takes.toN (tk : Takes X W) : L2N.Takes X W := fun u t x => tk u t (.of_N x)
theorem Takes.imp {W' : WX} (tk : Takes X W) (h : ∀ c d σ H, W' c d σ H → W c d σ H) : Takes X W' := fun u t x => by
  obtain ⟨a, B, t0, pn, σ, H, cls, d, x1, x2, x3, x4, x5, x6, x7, x8, x9⟩ := x
  exact tk u t ⟨a, B, t0, pn, σ, H, cls, d, x1, x2, x3, x4, x5, x6, x7, x8, h _ _ _ _ x9⟩
/-- what a callee let out is in our air -/
theorem XE.of_call (I : Inv X pins σ H s) (hW : ∀ cls d G, E cls d G → W cls d σ G) (x : CX X.prog X.w X.stack H s E u t) : XE X W u t := by
  obtain ⟨a, B, G, cls, d, eu, fl, okB, ub, na, os, ag, hE⟩ := x
  have inT := fl.1
  -- the part of the heap that the ground and the frames are
  obtain ⟨P, p1, p2⟩ := restrict t.heap fun b => (B.get? b).isSome || decide (b ∈ frs X.stack)
  have ofB : ∀ b o, B.get? b = some o → P.get? b = some o := fun b o e => (p1 b (by rw [e]; rfl)).trans (inT b o e)
  have ofF : ∀ b, b ∈ frs X.stack → P.get? b = t.heap.get? b := fun b hb => p1 b (by rw [decide_eq_true hb, Bool.or_true])
  have toT : ∀ b o, P.get? b = some o → t.heap.get? b = some o ∧ (b ∉ frs X.stack → B.get? b = some o) := fun b o e => by
    cases k : ((B.get? b).isSome || decide (b ∈ frs X.stack)) with
    | false =>
      rw [p2 b k] at e
      cases e
    | true =>
      have e2 : t.heap.get? b = some o := (p1 b k).symm.trans e
      refine ⟨e2, fun nb => ?_⟩
      rw [decide_eq_false nb, Bool.or_false, Option.isSome_iff_exists] at k
      obtain ⟨o2, g⟩ := k
      rw [inT b o2 g] at e2
      rw [g, e2]
  have J : Inv X pins σ G { s with heap := P, gens := t.gens, drawn := t.drawn, toks := t.toks } := by
    refine I.call (ch := []) ⟨fun b o e n hb _ => ofB b o (ub.keep b o e n hb), fun b o e _ hb _ => ?_, fun b o e n _ => ub.free b o e n, fun b o e _ => ?_, ub.tups, ub.frzs, ub.tbls⟩ (okB.kept ofB) ag (fun _ z => nomatch z)
    · rw [ofF b hb]
      exact ub.slot b o e hb
    · by_cases hb : b ∈ frs X.stack
      · obtain ⟨sl, g⟩ := ub.slot b o e hb
        exact ⟨_, (ofF b hb).trans g⟩
      · obtain ⟨o2, g⟩ := ub.there b o e hb
        exact ⟨o2, ofB b o2 g⟩
  exact ⟨a, B, _, pins, σ, G, cls, d, eu, J, fun b o e nb => (toT b o e).2 nb, Heap.UpToSlots.of_keeps fun b o e => (toT b o e).1, .inr (.inl fl), na, os, ag, hW _ _ _ hE⟩
/-- a new one -/
theorem XE.new {a : Addr} {oe : Obj} {vs : Array Value} {cls : Value} {d : Option Addr} (I : Inv X pins σ H s) (k : ∀ b o, s.heap.get? b = some o → t.heap.get? b = some o) (na : s.heap.get? a = none) (ga : t.heap.get? a = some oe)
    (hz : Zw (PySem.W.hideAll s.heap (frs X.stack)) H cls d oe) (hd : oe.data = .fields vs) (h1 : vs[1]? = some .none) (Ha : H a = none) (os : t.os = s.os) (ag : AllBare t.gens) (w : W cls d σ H) : XE X W (.ref a) t := by
  have sub : ∀ {b o}, (PySem.W.hideAll s.heap (frs X.stack)).get? b = some o → s.heap.get? b = some o := fun e => PySem.W.of_hideAll _ e
  refine ⟨a, _, s, pins, σ, H, cls, d, rfl, I, fun b o e nb => PySem.W.hideAll_get _ e nb, Heap.UpToSlots.of_keeps k, .inl ⟨fun b o e => k b o (sub e), ?_, ?_, oe, vs, ga, hz, hd, h1⟩, Ha, os, ag, w⟩
  · cases e : (PySem.W.hideAll s.heap (frs X.stack)).get? a with
    | none => rfl
    | some o =>
      rw [sub e] at na
      cases na
  · exact (funFrames_none I.stack fun b hb => PySem.W.hideAll_none _ hb).of_keeps fun b o e _ => ⟨o, k b o e, rfl⟩
/-- it leaves the def -/
theorem XE.leave {E1 : Value → Shared → Prop} (hs : X.stack = X.env :: X.outer) (hf : X.env.frame = some X.env.locals) (hex : X.ex = []) (hW : ∀ cls d σ H, W cls d σ H → E cls d H) (x : XE X W u t) :
    wpAny (model X.prog X.w) X.A (leaving X.env u) (fun _ t2 => CX X.prog X.w X.outer X.H_0 X.s_0 E u t2) E1 t := by
  obtain ⟨a, B, t0, pn, σ, H, cls, d, eu, I, nb, up, sky, na, os, ag, w⟩ := x
  subst eu
  have fr : X.A.frames = some (X.env :: X.outer) := I.ok.frames.trans (congrArg some hs)
  have noex : ∀ b, b ∉ X.ex := by
    rw [hex]
    exact fun b => List.not_mem_nil
  have below : ∀ b o, X.s_0.heap.get? b = some o → b ∉ X.fs → b ∉ frs X.stack := fun b o e hb z => by
    rcases List.mem_cons.mp (I.stkSub b z) with q | q
    · have l1 := Nat.lt_of_lt_of_le (Heap.lt_size e) I.ok.above
      rw [q] at l1
      exact Nat.lt_irrefl _ l1
    · exact hb q
  have fin : ∀ h2, HandSPX.FlyingZ B X.outer a (Zw B H cls d) h2 → t.heap.UpToSlots h2 → CX X.prog X.w X.outer X.H_0 X.s_0 E (.ref a) { t with heap := h2 } := fun h2 fl up2 => by
    have sl : ∀ b o, X.s_0.heap.get? b = some o → b ∈ frs X.outer → ∃ sl, h2.get? b = some { o with slots := sl } := fun b o e hb => by
      obtain ⟨_, o1, g1, nf⟩ := I.ok.funs.mem hb
      rw [e] at g1
      cases g1
      obtain ⟨_, g2⟩ := I.base.slot b o e (I.ok.frf b hb) hb (noex b)
      obtain ⟨_, g3⟩ := up b _ g2 nf
      exact ⟨_, (up2 b _ g3 nf).choose_spec⟩
    have th : ∀ b o, X.s_0.heap.get? b = some o → b ∉ frs X.outer → ∃ o', B.get? b = some o' := fun b o e hb => by
      obtain ⟨o1, g1⟩ := I.base.there b o e (noex b)
      exact ⟨o1, nb b o1 g1 (below b o e hb)⟩
    exact ⟨a, B, H, cls, d, rfl, fl, I.inGround nb, ⟨fun b o e n hb => nb b o (I.base.keep b o e n hb (noex b)) (below b o e hb), sl, fun b o e n => I.base.free b o e n (noex b), th, I.base.tups, I.base.frzs, I.base.tbls⟩, na, os.trans I.os, ag, hW _ _ _ _ w⟩
  rw [hs] at sky
  rcases sky with ⟨y1, y2, y3, oe, vs, y4, y5, y6, y7⟩ | fl | hh
  · exact PXN.leaving_firstZ Zw.steady fr y3 hf y4 y1 y2 y6 y7 y5 fin
  · exact PXN.leaves_onZ Zw.steady fr hf fl fin
  · exact HandSPX.leaves_heldZ hf hh fin
theorem takes_of {E1 : Value → Shared → Prop} (hs : X.stack = X.env :: X.outer) (hf : X.env.frame = some X.env.locals) (hex : X.ex = []) (hx : X.xe = fun e t => wpAny (model X.prog X.w) X.A (leaving X.env e) (fun _ t2 => CX X.prog X.w X.outer X.H_0 X.s_0 E e t2) E1 t) :
    Takes X (fun cls d _ G => E cls d G) := fun u t x => by
  rw [hx]
  exact XE.leave (W := fun cls d _ G => E cls d G) hs hf hex (fun _ _ _ _ q => q) x
theorem passAt (tk : Takes X W) (σ : L2.St) : PassesAt (CX X.prog X.w) X σ (WE W σ) := fun _ _ _ e t I x => tk e t (XE.of_call I (fun _ _ _ q => q) x)
end
end LC

namespace LC
open PySem PySem.Spec PyProof.Rows L2 HotX
/-- x is handled, l its context (none, or one) -/
def Hot2 (A : Around) (x : Addr × Obj) (l : List (Addr × Obj)) : Prop := A.handled = some (.ref x.1) ∧ ∃ vs, x.2.data = .fields vs ∧
  ((l = [] ∧ vs[2]? = some .none) ∨ ∃ (y : Addr × Obj) (vy : Array Value), l = [y] ∧ vs[2]? = some (.ref y.1) ∧ y.1 ≠ x.1 ∧ y.2.data = .fields vy ∧ vy[2]? = some .none)
def HotIn (A : Around) (x : Addr × Obj) (l : List (Addr × Obj)) (h : Heap) : Prop := Hot2 A x l ∧ ∀ p ∈ x :: l, h.get? p.1 = some p.2
section
variable {prog : Program} {w : World} {A : Around} {E : Value → Shared → Prop} {s : Shared} {x : Addr × Obj} {l : List (Addr × Obj)} {a : Addr}
theorem HotIn.keep {h h' : Heap} (t : HotIn A x l h) (k : ∀ b o, h.get? b = some o → h'.get? b = some o) : HotIn A x l h' := ⟨t.1, fun p hp => k _ _ (t.2 p hp)⟩
theorem quiet_unchain (args : Args) : (Code.builtin "proto.unchain" args).quiet = true := Code.quiet_builtin _ (by decide +kernel)
theorem unchained2 {Q : Value → Shared → Prop} (t : HotIn A x l s.heap) (na : ∀ p ∈ x :: l, p.1 ≠ a) (q : Q .none s) :
    wpAny (model prog w) A (holding [Value.ref a] (runValue (.builtin "proto.unchain" ⟨[.ref a, .ref x.1, .ref x.1, .bool false], []⟩))) Q E s := by
  obtain ⟨⟨_, vs, dx, c | ⟨y, vy, rfl, cy, ny, dy, cn⟩⟩, g⟩ := t
  · exact unchained (g x List.mem_cons_self) dx c.2 q
  · have gx := g x List.mem_cons_self
    have gy := g y (List.mem_cons_of_mem _ List.mem_cons_self)
    have nay := na y (List.mem_cons_of_mem _ List.mem_cons_self)
    refine wpAny_holding (wpAny_runValue (codeAny_builtin entry_unchain ?_))
    show wpAny _ _ (field (.ref x.1) 2 >>= _) _ _ s
    refine wpAny_bind (wpAny_field gx dx cy ?_)
    rw [if_neg (c := (Value.ref y.1 == Value.none) = true) Bool.false_ne_true]
    have e1 : ¬ ((Value.ref y.1 == Value.ref a) = true) := fun z => nay (Value.ref.inj (eq_of_beq z))
    have e2 : ¬ ((Value.ref y.1 == Value.ref x.1) = true) := fun z => ny (Value.ref.inj (eq_of_beq z))
    rw [if_neg e1, if_neg e2]
    refine wpAny_bind ?_
    simp only [Bool.false_eq_true, if_false]
    refine wpAny_pure ?_
    refine wpAny_pure ⟨quiet_unchain _, codeAny_builtin entry_unchain ?_⟩
    show wpAny _ _ (field (.ref y.1) 2 >>= _) _ _ s
    refine wpAny_bind (wpAny_field gy dy cn ?_)
    rw [if_pos (show (Value.none == Value.none) = true from rfl)]
    first
    | exact wpAny_bind (wpAny_pure (wpAny_pure q))
    | exact wpAny_pure q
/-- a new exception is raised there -/
theorem raiseNew2 {α : Type} {oe : Obj} {vs : Array Value} {Q : α → Shared → Prop} (t : HotIn A x l s.heap) (na : ∀ p ∈ x :: l, p.1 ≠ a) (ga : s.heap.get? a = some oe) (da : oe.data = .fields vs) (hi : 2 < vs.size)
    (hE : E (.ref a) { s with heap := s.heap.update a (Obj.mapFields (·.setIfInBounds 2 (.ref x.1))) }) : wpAny (model prog w) A (raiseNew (.ref a) : Sem α) Q E s := by
  have hh := t.1.1
  have ne : (Value.ref x.1 != Value.ref a) = true := ref_bne (na x List.mem_cons_self)
  unfold raiseNew
  refine wpAny_bind (wpAny_handled ?_)
  rw [hh]
  first
  | (show wpAny _ _ (if (Value.ref x.1 != Value.ref a) = true then _ else _) _ _ _
     rw [if_pos ne]
     first
     | exact wpAny_bind (unchained2 t na (wpAny_bind (chained ga da hi (wpAny_throw hE))))
     | exact wpAny_bind (wpAny_bind (unchained2 t na (chained ga da hi (wpAny_throw hE)))))
  | (refine wpAny_bind ?_
     show wpAny _ _ (if (Value.ref x.1 != Value.ref a) = true then _ else _) _ _ _
     rw [if_pos ne]
     exact wpAny_bind (unchained2 t na (chained ga da hi (wpAny_throw hE))))
/-- a list is walked to its end there -/
theorem next_end2 {it p : Addr} {i : Nat} {items : Array Value} {Q : Option Value → Shared → Prop} (t : HotIn A x l s.heap) (hp : ∀ p ∈ x :: l, p.1 ≠ it) (hi : s.heap.IsListIter it p i) (hl : s.heap.IsList p items) (hx : items[i]? = none)
    (hQ : ∀ h', (∀ b o, b ≠ it → s.heap.get? b = some o → h'.get? b = some o) → Q none { s with heap := h' }) : wpAny (model prog w) A (pyNext (.ref it)) Q E s := by
  obtain ⟨oi, gi, ci, di⟩ := id hi
  obtain ⟨ol, gl, _, nl, dl⟩ := hl
  unfold pyNext
  refine wpAny_bind (wpAny_attempt (wpAny_callSpecial?_slot (name := Str.ofString "__next__") hi.typeIs slot_listiter_next (wpAny_call_entry slot_listiter_next hi.typeIs entry_listiter_next ?_ (args_listiter_next _))))
  show wpAny _ _ (field (.ref it) 0 >>= _) _ _ s
  refine wpAny_bind (wpAny_field gi di (x := .ref p) rfl ?_)
  show wpAny _ _ (if (Value.ref p == Value.none) = true then _ else _) _ _ s
  rw [if_neg (c := (Value.ref p == Value.none) = true) Bool.false_ne_true]
  show wpAny _ _ (field (.ref it) 1 >>= _) _ _ s
  refine wpAny_bind (wpAny_field gi di (x := .int i 0) rfl ?_)
  show wpAny _ _ (seqItems? (.ref p) >>= _) _ _ _
  refine wpAny_bind (wpAny_seqItems gl dl ?_)
  simp only [Int.toNat_natCast, hx]
  refine wpAny_bind (wpAny_rule (wpAny_bind (wpAny_setField gi di (by simp) ?_)))
  show wpAny _ _ (newExc (.type "StopIteration") [] >>= fun e => raiseNew e) _ _ _
  have old : ∀ b o, b ≠ it → s.heap.get? b = some o → (s.heap.update it (Obj.mapFields (·.setIfInBounds 0 Value.none))).get? b = some o := fun b o n z => (Heap.get?_update_other _ _ (Ne.symm n)).trans z
  have old1 : ∀ q ∈ x :: l, (s.heap.update it (Obj.mapFields (·.setIfInBounds 0 Value.none))).get? q.1 = some q.2 := fun q hq => old _ _ (hp q hq) (t.2 q hq)
  refine wpAny_bind ?_
  simp only [newExc, newTuple]
  refine wpAny_bind (wpAny_newObj_type (wpAny_bind (m := firstArgMember _ _) (wpAny_of_eq (a := Value.none) (by first | rfl | (simp only [firstArgMember]; rfl)) (wpAny_newObj_type ?_ (by size_fits)))) (by size_fits))
  refine raiseNew2 ⟨t.1, fun q hq => Heap.get?_push_of_some _ (Heap.get?_push_of_some _ (old1 q hq))⟩ (fun q hq => Nat.ne_of_lt (Heap.lt_size (Heap.get?_push_of_some _ (old1 q hq)))) (Heap.get?_push_size _ rfl) rfl (by first | (simp; done) | (simp; omega) | (simp only [Array.size_append]; simp; omega)) ?_
  refine wpAny_bind (wpAny_isInstance (T := "StopIteration") (b := true) ⟨_, Heap.get?_update_self _ (Heap.get?_push_size _ rfl) rfl, rfl⟩ isSubtype_stop (wpAny_pure (hQ _ fun b o n z => ?_)))
  rw [Heap.get?_update_other _ _ (Nat.ne_of_gt (Heap.lt_size (Heap.get?_push_of_some _ (old b o n z))))]
  exact Heap.get?_push_of_some _ (Heap.get?_push_of_some _ (old b o n z))
end
/-- the context bears it -/
def HotG (X : L2.Cx) : Prop := ∃ x l, Hot2 X.A x l ∧ ∀ p ∈ x :: l, p ∈ X.pn
theorem HotG.at {X : L2.Cx} {pins : List (Addr × Obj)} {σ : L2.St} {H : Hp} {s : Shared} (c : HotG X) (I : Inv X pins σ H s) : ∃ x l, HotIn X.A x l s.heap := by
  obtain ⟨x, l, h, m⟩ := c
  exact ⟨x, l, h, fun p hp => (I.pin p (List.mem_append_left _ (m p hp))).1⟩
end LC

namespace LC
open PySem PySem.Spec PyProof.Rows L2 HotX FP
/-- a list that is walked while x is handled -/
theorem walk2 {prog : Program} {w : World} {A : Around} {it q : Addr} {items : Array Value} {x : Addr × Obj} {l : List (Addr × Obj)} (hq : q ≠ it) (hp : ∀ p ∈ x :: l, p.1 ≠ it) :
    WalksS prog w A it (it :: q :: (x :: l).map (·.1)) [it] (fun a b => b = a) items.size (fun i v => items[i]? = some v) (fun i s => s.heap.IsListIter it q i ∧ s.heap.IsList q items ∧ HotIn A x l s.heap) where
  sub := fun b hb => by
    rw [List.mem_singleton.mp hb]
    exact List.mem_cons_self
  grefl := fun _ => rfl
  gtrans := fun _ _ _ a b => b.trans a
  frame := fun i s h' tk st _ k => by
    obtain ⟨s1, s2, hh, g⟩ := st
    exact ⟨s1.at fun o e => k it (by simp) o e, s2.at fun o e => k q (by simp) o e, hh, fun p m => k p.1 (List.mem_cons_of_mem _ (List.mem_cons_of_mem _ (List.mem_map_of_mem m))) _ (g p m)⟩
  item := fun i s Q E hi st k => by
    obtain ⟨s1, s2, hh, g⟩ := st
    refine wpAny_pyNext_list_item s1 s2 (x := items[i]) (by simp [hi]) fun h' t sb => k _ _ (by simp [hi]) ⟨t, s2.extBut sb.extBut hq, hh, fun p m => (sb.2 p.1 (hp p m)).trans (g p m)⟩ ⟨fun b o hb e => (sb.2 b fun z => hb (by simp [z])).trans e, rfl, rfl, rfl, Nat.le_refl _⟩
  done := fun s Q E st k => by
    obtain ⟨s1, s2, h⟩ := st
    exact next_end2 h hp s1 s2 (by simp) fun h' e => k _ ⟨fun b o hb g => e b o (fun z => hb (by simp [z])) g, rfl, rfl, rfl, Nat.le_refl _⟩
  self := fun _ _ _ _ st h => wpAny_pyIter_listiter st.1 h
/-- sum(xs) of a list of whole numbers, while an exception is handled -/
theorem cr_sum2 {X : L2.Cx} (hc : HotG X) : CallR X (.builtin "sum") (rSum X.K) := by
  intro pins s σ H vs us Q I r h
  obtain ⟨a, ns, rfl, hs, q⟩ := h
  obtain ⟨its, rv, hl, _⟩ := I.list hs
  obtain ⟨p, pl, hot⟩ := hc.at I
  rw [Vals.ref1 r]
  have lt : a < s.heap.objs.size := by
    obtain ⟨_, e, _⟩ := hl.isList
    exact Heap.lt_size e
  have ltp : ∀ r ∈ p :: pl, r.1 < s.heap.objs.size := fun r m => Heap.lt_size (hot.2 r m)
  have len : its.length = ns.length := by
    rw [← rv.length, List.length_map]
  refine call_sum_walkAnyS (wpAny_pyIter_list hl.isList ?_)
  refine ⟨_, _, _, _, _, _, _, fun i => ns.getD i 0, rfl, walk2 (q := a) (x := p) (l := pl) (items := its.toArray) (Nat.ne_of_lt lt) (fun r m => Nat.ne_of_lt (ltp r m)), ⟨⟨_, Heap.get?_push_size _ rfl, rfl, rfl⟩, hl.isList.push _, hot.keep fun _ _ e => Heap.get?_push_of_some _ e⟩, fun b hb => ?_, fun i v hv => ?_, fun s' t' m => ?_⟩
  · rw [Heap.size_push]
    rcases List.mem_cons.mp hb with z | hb
    · rw [z]
      exact Nat.lt_succ_self _
    · rcases List.mem_cons.mp hb with z | hb
      · rw [z]
        exact Nat.lt_succ_of_lt lt
      · obtain ⟨r, m, z⟩ := List.mem_map.mp hb
        rw [← z]
        exact Nat.lt_succ_of_lt (ltp r m)
  · have hi : i < ns.length := by
      have := (Array.getElem?_eq_some_iff.mp hv).1
      simp at this
      omega
    have e1 : (ns.map V.int)[i]? = some (V.int (ns.getD i 0)) := by
      rw [List.getElem?_map, List.getElem?_eq_getElem hi, List.getD_eq_getElem?_getD, List.getElem?_eq_getElem hi]
      rfl
    obtain ⟨u, hu, ru⟩ := rv.get e1
    have e2 : some v = some u := by
      rw [← hv, ← hu]
      simp
    cases e2
    exact ru
  · have e := preSum_take (f := fun i => ns.getD i 0) (ns := ns) (fun _ _ => rfl) ns.length (Nat.le_refl _)
    have e2 : its.toArray.size = ns.length := by simp [len]
    rw [e2, e, List.take_length]
    obtain ⟨m1, m2, m3, m4, m5⟩ := m
    obtain ⟨h', g', d', k', o'⟩ := s'
    cases m2
    cases m3
    cases m4
    exact ⟨.int _, H, I.kept (h' := h') (t' := k') fun b o z => m1 b o (fun n => by
      rw [List.mem_singleton.mp n] at z
      exact absurd (Heap.lt_size z) (Nat.lt_irrefl _)) (Heap.get?_push_of_some _ z), ⟨_, rfl⟩, q⟩
end LC

namespace LC
open PySem PySem.Spec PyProof.Rows L2 HotX FP
section
variable {X : L2.Cx}
theorem pe_lc2 {elt l : Expr} {scope : Scope} {y : Str} {py pos : Pos} {j : Nat} {tl te : TE} (hc : HotG X) (hN : X.N.Nodup) (hl : PE X l tl) (ok : BlkOk X.N X.env.scope scope [(y, j)])
    (hg : ∀ (s : Shared) (H : Hp) (C : Addr) (cl : List (Str × Addr)) (fp : List Addr), PG (X.blk s H scope (compEnvC scope cl C X.env) fp) (.Name y py) (gName j))
    (he : ∀ (s : Shared) (H : Hp) (C : Addr) (cl : List (Str × Addr)) (fp : List Addr), PE (X.blk s H scope (compEnvC scope cl C X.env) fp) elt te)
    (hs : ∀ x, foldedSetIterable l X.env x = pure x := by intro _; rfl) : PE X (.ListComp elt [⟨.Name y py, l, [], 0⟩] scope pos) (FP.tLh X.K j tl te) := by
  refine ⟨fun pins s0 σ H Q I h => ?_⟩
  have clo : ∀ z ∈ scope.names, z.2 = .free → ∃ c, X.env.cells.lookup z.1 = some c := fun z hz e => I.ok.has _ ((ok.free z hz e).elim .inl .inr)
  rw [eval_ListComp]
  refine wpAny_comprehension_free (use := none) rfl hs (closure_ok clo) ok.kind (fun z hz e => by rw [ok.uniq z hz, e]) (thn (hl.run pins s0 σ H _ I h) fun lv sa hx => ?_)
  obtain ⟨v, G, Ia, rv, a, xs, ys, ev, hsq, hlen, hsm, hstep, hend⟩ := hx
  subst ev
  obtain rfl : lv = Value.ref a := rv
  obtain ⟨its, rits, pl, _⟩ := Ia.list hsq
  obtain ⟨pp, pl2, hot1, hpn⟩ := hc
  -- the iterator, then the new list
  refine wpAny_pyIter_list pl.isList (wpAny_newObj_type (newEnv_comp ?_) (by show 0 ≤ sizeLine; decide))
  generalize eI : sa.heap.objs.size = it
  have fI : FpOk X pins G it := Ia.fpOk (Nat.le_of_eq eI) (Ia.hok.fresh (Nat.le_of_eq eI))
  generalize eb : ({ sa with heap := sa.heap.push { cls := .type "list_iterator", data := .fields #[.ref a, .int 0 0] } } : Shared) = sb
  have hb : sb.heap = sa.heap.push { cls := .type "list_iterator", data := .fields #[.ref a, .int 0 0] } := by rw [← eb]
  have Ib : Inv X pins σ G sb := by
    rw [← eb]
    exact Ia.kept (t' := sa.toks) fun b o e => Heap.get?_push_of_some _ e
  have turn0 : sb.heap.IsListIter it a 0 := by
    rw [hb, ← eI]
    exact ⟨_, Heap.get?_push_size _ rfl, rfl, rfl⟩
  have szI : it < sb.heap.objs.size := by
    obtain ⟨_, e, _⟩ := turn0
    exact Heap.lt_size e
  generalize eD : sb.heap.objs.size = D
  have nD : G D = none := Ib.hok.fresh (Nat.le_of_eq eD)
  have ItD : it ≠ D := by
    rw [← eD]
    exact Nat.ne_of_lt szI
  generalize ec : ({ sb with heap := sb.heap.push { cls := .type "list", data := .seq ([] : List Value).toArray } } : Shared) = sc
  have hcH : sc.heap = sb.heap.push { cls := .type "list", data := .seq ([] : List Value).toArray } := by rw [← ec]
  have Ic : Inv X pins σ (upd G D (.lst [])) sc := by
    rw [← ec]
    refine Ib.laid (t' := sb.toks) (fun b o e => Heap.get?_push_of_some _ e) (Nat.le_of_eq eD) ⟨Nat.zero_le _, [], 0, .nil, ?_⟩
    rw [← eD]
    exact Heap.get?_push_size _ rfl
  have fIc : FpOk X pins (upd G D (.lst [])) it := ⟨by rw [upd_ne ItD]; exact fI.1, fI.2⟩
  have szc : it < sc.heap.objs.size := by
    rw [hcH, Heap.size_push]
    exact Nat.lt_succ_of_lt szI
  have all1 : ∀ b ∈ [it], FpOk X pins (upd G D (.lst [])) b ∧ b < sc.heap.objs.size := fun b hb1 => by
    rw [List.mem_singleton.mp hb1]
    exact ⟨fIc, szc⟩
  have Id := block_start Ic ok hN all1
  have pg := hg sc (upd G D (.lst [])) sc.heap.objs.size (cellsFrom (sc.heap.objs.size + 1) scope.names (cloFrom X.env.cells scope.names [])) [it]
  have pe := he sc (upd G D (.lst [])) sc.heap.objs.size (cellsFrom (sc.heap.objs.size + 1) scope.names (cloFrom X.env.cells scope.names [])) [it]
  have PPc := fun r (m : r ∈ pp :: pl2) => Ic.pin r (List.mem_append_left _ (hpn r m))
  have nPit : ∀ r ∈ pp :: pl2, r.1 ≠ it := fun r m => fI.2.2.2.2.2 r (List.mem_append_left _ (hpn r m))
  have nPstk : ∀ r ∈ pp :: pl2, r.1 ∉ frs X.stack := fun r m z => (List.mem_cons.mp (Ic.stkSub r.1 z)).elim (PPc r m).2.2.1 (PPc r m).2.2.2.1
  show codeAny _ _ (.compStart (.ListComp elt [⟨.Name y py, l, [], 0⟩] scope pos) 0 (.ref it) (.ref D) (compEnvC scope (cellsFrom (sc.heap.objs.size + 1) scope.names (cloFrom X.env.cells scope.names [])) sc.heap.objs.size X.env)) (compPost (model X.prog X.w) X.A X.xe none _ (.ref D) sc.heap.objs.size) { sc with heap := pushCells (sc.heap.push { cls := .type "dict", data := .dict #[] }) scope.names }
  generalize eE : compEnvC scope (cellsFrom (sc.heap.objs.size + 1) scope.names (cloFrom X.env.cells scope.names [])) sc.heap.objs.size X.env = ce1 at Id pg pe ⊢
  have eL : ce1.locals = sc.heap.objs.size := by
    subst eE
    rfl
  generalize ed : ({ sc with heap := pushCells (sc.heap.push { cls := .type "dict", data := .dict #[] }) scope.names } : Shared) = sd at Id ⊢
  have turnD : sd.heap.IsListIter it a 0 := turn0.at fun o e => by
    rw [← ed]
    refine pushCells_keeps _ _ _ _ (Heap.get?_push_of_some _ ?_)
    rw [hcH]
    exact Heap.get?_push_of_some _ e
  -- what holds at the i-th turn
  have hotIn : ∀ {σ' : L2.St} {H' : Hp} {s' : Shared} {pins' : List (Addr × Obj)}, Inv (X.blk sc (upd G D (.lst [])) scope ce1 [it]) pins' σ' H' s' → HotIn X.A pp pl2 s'.heap := fun {σ' H' s' pins'} J =>
    ⟨hot1, fun r m => J.base.keep r.1 r.2 (PPc r m).1 (PPc r m).2.1 (nPstk r m) (fun z => nPit r m (List.mem_singleton.mp z))⟩
  have free1 : ∀ {σ' : L2.St} {H' : Hp} {s' : Shared}, Inv (X.blk sc (upd G D (.lst [])) scope ce1 [it]) [] σ' H' s' → H' it = none → FpOk (X.blk sc (upd G D (.lst [])) scope ce1 [it]) [] H' it := fun {σ' H' s'} J n =>
    ⟨n, (J.ok.exf it List.mem_cons_self).1, J.ok.exfs it List.mem_cons_self, .inl List.mem_cons_self, (J.ok.exf it List.mem_cons_self).2, fun q hq => nomatch (show q ∈ ([] : List (Addr × Obj)) from hq)⟩
  have sqIn : ∀ {H' : Hp}, (∀ b o, b ≠ D → G b = some o → H' b = some o) → SqL X.K H' a xs := fun {H'} k => by
    have s1 : Same G (upd H' D (.lst [])) := fun b o e => by
      by_cases z : b = D
      · rw [z, nD] at e
        cases e
      · rw [upd_ne z]
        exact k b o z e
    rcases hsq with (g | ⟨o, g⟩) | g
    · exact .inl (.inl (k a _ (fun z => by rw [z, nD] at g; cases g) g))
    · exact .inl (.inr ⟨o, k a _ (fun z => by rw [z, nD] at g; cases g) g⟩)
    · exact .inr g
  have loop : codeAny (model X.prog X.w) X.A (.compLoop (.ListComp elt [⟨.Name y py, l, [], 0⟩] scope pos) 0 (.ref it) (.ref D) ce1) (compPost (model X.prog X.w) X.A X.xe none (EP X pins σ Q) (.ref D) sc.heap.objs.size) sd := by
    refine compLoop_any (fun m s' => ∃ i H', m = xs.length - i ∧ i ≤ xs.length ∧ Inv (X.blk sc (upd G D (.lst [])) scope ce1 [it]) [] (wipe σ [j]) H' s' ∧ s'.heap.IsListIter it a i ∧ H' it = none ∧ H' D = some (.lst (ys.take i)) ∧ ∀ b o, b ≠ D → G b = some o → H' b = some o) ?_ xs.length
      ⟨0, _, by omega, Nat.zero_le _, Id, turnD, fIc.1, by rw [List.take_zero]; exact upd_same, fun b o n e => by rw [upd_ne n]; exact e⟩
    rintro m s5 ⟨i, H5, em, hi, I5, t5, n5, d5, k5⟩
    obtain ⟨its5, r5, pl5, _⟩ := I5.list (sqIn k5)
    have F5 := free1 I5 n5
    by_cases hlt : i < xs.length
    · have ex : xs[i]? = some xs[i] := List.getElem?_eq_getElem hlt
      have ey : ys[i]? = some ys[i] := List.getElem?_eq_getElem (by omega)
      obtain ⟨u, hu, ru⟩ := r5.get ex
      refine wpAny_pyNext_list_item t5 pl5.isList (x := u) (by simpa using hu) fun h6 t6 sb6 => ?_
      have I6 : Inv (X.blk sc (upd G D (.lst [])) scope ce1 [it]) [] (wipe σ [j]) H5 { s5 with heap := h6 } := I5.turned (t' := s5.toks) (fun b o n e => (sb6.2 b n).trans e) F5.1 F5.2.1 F5.2.2.2.1 F5.2.2.2.2.1 F5.2.2.2.2.2
      obtain ⟨o6, e6, c6, q6⟩ := id t6
      refine go_of (s := { s5 with heap := h6 }) e6 c6 q6 (by decide) ?_
      have I7 := I6.pinned (fp := [it]) (fun b hb1 => by rw [List.mem_singleton.mp hb1]; exact free1 I6 n5) (fun b hb1 => by
        rw [List.mem_singleton.mp hb1]
        exact ⟨o6, e6, fun v z => by rw [q6] at z; cases z⟩)
      refine thnF (pg.run _ _ _ H5 xs[i] u (fun σ8 H8 => σ8 = σ.set j (some xs[i]) ∧ H8 = H5) I7 ru ⟨by show ((σ.set j none).set j (some xs[i])) = _; rw [List.set_set], rfl⟩) fun _ s8 w8 => ?_
      obtain ⟨σ8, H8, I8, w8, w9⟩ := w8
      subst w8
      subst w9
      refine wpAny_tests_nil ?_
      simp only [if_true]
      -- the element; D hidden away
      have s1 : ∃ G1, Same G G1 ∧ True := ⟨G, Same.refl G, trivial⟩
      refine thnF (pe.run _ s8 _ H8 (fun z H9 => z = ys[i] ∧ H9 D = some (.lst (ys.take i)) ∧ ∀ b o, H8 b = some o → H9 b = some o) I8 ?_) fun uz s9 w => ?_
      · refine hstep i xs[i] ys[i] ex ey H8 (fun b o e => k5 b o (fun z => by rw [z, nD] at e; cases e) e) _ fun G2 s2 => ⟨rfl, s2 D _ d5, fun b o e => s2 b o e⟩
      · obtain ⟨z, H9, I9, r9, z9, d9, k9⟩ := w
        subst z9
        refine app_ok (X := X.blk sc (upd G D (.lst [])) scope ce1 [it]) I9 d9 (by rw [List.length_take]; exact Nat.lt_of_le_of_lt (Nat.min_le_left _ _) (Nat.lt_of_lt_of_le hlt (Nat.le_trans hsm (by rw [sizeLine_eq]; decide)))) r9 fun s11 I11 => ?_
        have P11 := I11.pin (it, o6) (List.mem_append_right _ (List.mem_append_right _ (mem_pinsAt List.mem_cons_self e6)))
        refine ⟨xs.length - (i + 1), by omega, i + 1, _, rfl, hlt, (I11.unpinned (pins := [])).weak (by show (σ.set j none).length = (σ.set j (some xs[i])).length; rw [List.length_set, List.length_set]) (fun q v e => ?_), ⟨o6, P11.1, c6, q6⟩, P11.2.1, ?_, fun b o n e => ?_⟩
        · have e : (σ.set j none)[q]? = some (some v) := e
          by_cases hq : j = q
          · subst hq
            by_cases hz : j < σ.length
            · rw [List.getElem?_set_self hz] at e
              cases e
            · rw [List.getElem?_eq_none (by rw [List.length_set]; omega)] at e
              cases e
          · rw [List.getElem?_set_ne hq] at e ⊢
            exact e
        · rw [upd_same, List.take_add_one, ey]
          rfl
        · rw [upd_ne n]
          exact k9 b o (k5 b o n e)
    · have ei : i = xs.length := by omega
      subst ei
      refine next_end2 (hotIn I5) nPit t5 pl5.isList (by have := r5.length; simp; omega) fun h6 k6 => ?_
      have I6 : Inv (X.blk sc (upd G D (.lst [])) scope ce1 [it]) [] (wipe σ [j]) H5 { s5 with heap := h6 } := I5.turned (t' := s5.toks) (fun b o n e => k6 b o n e) F5.1 F5.2.1 F5.2.2.2.1 F5.2.2.2.2.1 F5.2.2.2.2.2
      have I7 : Inv X pins σ H5 { s5 with heap := h6 } := Ic.call' (ch := [it]) I6.os I6.base I6.hok I6.bare fun b hb1 => by
        rw [List.mem_singleton.mp hb1]
        exact ⟨fIc.2.2.2.1, fIc.2.1, fIc.2.2.2.2.1, fIc.2.2.2.2.2⟩
      have nC : H5 sc.heap.objs.size = none := by
        have z : H5 ce1.locals = none := I6.free
        rw [eL] at z
        exact z
      obtain ⟨mm, hn, _⟩ := I6.loc
      have hn : ({ s5 with heap := h6 } : Shared).heap.Ns ce1.locals mm := hn
      rw [eL] at hn
      obtain ⟨f0, f1, f2, f3, f4, f5⟩ := Ic.fpOk (H' := H5) (Nat.le_refl sc.heap.objs.size) nC
      refine ⟨mm, hn, fun h'' sb2 => ⟨.ref D, H5, I7.turned (t' := s5.toks) (fun b o n e => (sb2.2 b n).trans e) f0 f1 f3 f4 f5, rfl, ?_⟩⟩
      rw [← hlen, List.take_length] at d5
      exact hend D H5 nD (fun b o e => k5 b o (fun z => by rw [z, nD] at e; cases e) e) d5
  exact codeAny_compStart_list loop (wpAny_pyIter_listiter turnD loop)
end
end LC

namespace LC
open PySem PySem.Spec PyProof.Rows L2 HotX FP L2H
section
variable {X : L2.Cx} {δ : De} {ω : Om} {a b c e : Expr} {es : List Expr} {d : PyData} {ds : List PyData} {pos p p1 p2 : Pos} {q : Addr × Obj} {D : Addr} {k : Bool}
/-- sum([elt for y in l]), of truths, while an exception is handled -/
theorem pd_sum2 {elt l : Expr} {scope : Scope} {y : Str} {py lpos : Pos} {j : Nat} {bs : List Bool} (hc : HotG X) (hN : X.N.Nodup) (hl : PL X δ ω l (bs.map .bool)) (hz : bs.length ≤ 1000) (ok : BlkOk X.N X.env.scope scope [(y, j)])
    (hg : ∀ (s : Shared) (H : Hp) (C : Addr) (cl : List (Str × Addr)) (fp : List Addr), PG (X.blk s H scope (compEnvC scope cl C X.env) fp) (.Name y py) (gName j))
    (he : ∀ (b : Bool) (s : Shared) (H : Hp) (C : Addr) (cl : List (Str × Addr)) (fp : List Addr), PD (X.blk s H scope (compEnvC scope cl C X.env) fp) (δ.set j (some (.im (.bool b)))) ω elt (.int (if b then 1 else 0)))
    (hm : X.mg "sum" = none) (hgs : Gl X "sum" := by rfl) (hs : ∀ x, foldedSetIterable l X.env x = pure x := by intro _; rfl)
    (hst : starEach [.ListComp elt [⟨.Name y py, l, [], 0⟩] scope lpos] X.env = (false, eval (.ListComp elt [⟨.Name y py, l, [], 0⟩] scope lpos) X.env) :: starEach [] X.env := by rfl) :
    PD X δ ω (.Call (.Name "sum" p) [.ListComp elt [⟨.Name y py, l, [], 0⟩] scope lpos] [] pos) (.int (bs.map fun b => if b then 1 else 0).sum) := fun σ H rl Q r =>
  we (pe_callB (cr_sum2 hc) hgs hm boot_sum (pa_cons (pe_lc2 (j := j) hc hN pe_w ok hg (fun s H0 C cl fp => pe_blk s H0 C cl fp) hs) pa_nil hst) (he := hst)) (hl σ H rl _ fun a vs G s1 h1 h2 => by
    have ev : vs = bs.map V.bl := dpa_bl h2
    subst ev
    refine ⟨a, _, bs.map fun b => V.int (if b then 1 else 0), rfl, h1, by simp, by simpa using hz, fun i x y ex ey G1 s2 R kk s H0 C cl fp => ?_, fun D G1 nD s2 hD => ?_⟩
    · obtain ⟨b, eb, rfl⟩ : ∃ b, bs[i]? = some b ∧ x = V.bl b := by
        rw [List.getElem?_map] at ex
        cases e : bs[i]? with
        | none =>
          rw [e] at ex
          cases ex
        | some b =>
          rw [e] at ex
          cases ex
          exact ⟨b, rfl, rfl⟩
      rw [List.getElem?_map, eb] at ey
      cases ey
      refine he b s H0 C cl fp _ G1 (((rl.mono s1).mono s2).set (x := .im (.bool b)) (.bl b)) R fun v G2 s3 dv => ?_
      cases dv
      exact kk G2 s3
    · refine ⟨D, bs.map fun b => if b then 1 else 0, rfl, SqL.of ?_, r _ G1 (s1.trans s2) (.int _)⟩
      rw [List.map_map]
      exact hD)
end
structure Word2 (P : Program) (w : World) (K : PySem.W.Frag) (mg : Str → Option Value) (base : Heap) (k : Nat) (wd : Str) (fw : Addr → PyData → Prop) : Prop where
  ex : ∃ g, mg wd = some (.ref g) ∧ PySem.W.keepIn K (.ref g) = true ∧ ∀ (A : Around) (outer : List Env) (s : Shared) (H : Hp) (q : Addr × Obj) (l : List (Addr × Obj)) (C : Addr) (d : PyData) (ps : List Addr) (Q : VK), fw C d → RoomH k A → Hot2 A q l → (∀ p ∈ q :: l, PinOk outer H s p) → q.2.cls = .ref C → q.2.dict = none →
    Env0 P w K mg base A outer s H → (∀ a ∈ ps, H a ≠ none) → (∀ v H', Same H H' → Dp K (hid ps H') v d → Q v H') → codeAny (model P w) A (.call (.ref g) ⟨[.ref q.1], []⟩) (CR C8.CX0 outer P w H s Q C8.E0) s
/-- the context of such a def's body -/
abbrev cx2 (CX : CXT) (P : Program) (w : World) (K : PySem.W.Frag) (mg : Str → Option Value) (base : Heap) (N : List Str) (qual : Str) (scope : Scope) (f : Addr) (cd : Value) (A : Around) (outer : List Env) (s : Shared) (H : Hp) (E : XK) (q : Addr × Obj) (l : List (Addr × Obj)) : L2.Cx :=
  { cxOf CX P w K mg base N qual scope f cd A outer s H E with calm := false, pn := q :: l }
/-- such a def, by its body -/
theorem word_ok {P : Program} {w : World} {K : PySem.W.Frag} {mg : Str → Option Value} {base : Heap} {x : Str} {params : Arguments} {body : List Stmt} {scope : Scope} {kws : List (Str × V)} {f : Addr} {fd : FuncData} {N : List Str} {y : Str} {k n : Nat} {fw : Addr → PyData → Prop}
    (F : FunD K x x params body scope [] kws f fd) (hm : mg x = some (.ref f)) (S : FnScope N [y] scope) (hn : N.length = n + 1)
    (hb : ∀ (kV doc pm : Value) (an : Option Addr) (cdv ct : Value) (us : List Value), us.length = [y].length → bindArgs (PySem.W.fnOf x x params body scope .none kV doc pm an cdv ct) ⟨us, []⟩ = pure ([y].zip us))
    (hbody : ∀ (cdv : Value) (A : Around) (outer : List Env) (s : Shared) (H : Hp) (q : Addr × Obj) (l : List (Addr × Obj)) (C : Addr) (d : PyData) (ps : List Addr), fw C d → Hot2 A q l → q.2.cls = .ref C → q.2.dict = none → RoomH k (A.deeper (envOfC x scope s.heap.objs.size f cdv)) →
      SD (cx2 C8.CX0 P w K mg base N x scope f cdv A outer s H C8.E0 q l) (fun _ _ _ _ => False) [] body (some (.ad q.1) :: List.replicate n none) ⟨ps, []⟩ (Fin (.ok d))) : Word2 P w K mg base (k + 1) x fw := by
  have hbs := FunD.bindsN (ps := [y]) F hb
  have kp := F.kp
  obtain ⟨oc, od, dV, kV, doc, pm, an, cdv, ct, osl, rfl, lk, hcd, hD, hK⟩ := F.ex
  refine ⟨f, hm, kp, fun A outer s H q l C d ps Q hf hr hot pin c1 c2 e0 hp hQ => ?_⟩
  have old : ∀ b o, base.get? b = some o → s.heap.get? b = some o := fun b o e => (e0.bs b o e).1
  have inK : K.In s.heap := e0.mod.kin.keeps old
  have bnd := hbs s [.ref q.1] inK rfl
  refine codeAny_call_function hr.depth (inK _ _ lk) rfl S.co S.gen rfl (PySem.W.codeRec_of inK hcd) (bnd _ _ _ _ (wpAny_newFunctionEnv_cells S.kind (fun z hz => ?_) fun env he s1 x1 => ?_))
  · rcases S.par z.1 (List.of_mem_zip hz).1 with t | t
    · exact .inl t
    · exact .inr ⟨t, PySem.W.cellsFrom_some _ _ _ (.inl t)⟩
  subst he
  refine ⟨(e0.mod.nolimit.keeps old).keeps x1.toInCall.keep, codeAny_func ?_⟩
  have I1 : Inv (cxH C8.CX0 P w K mg base N x scope f cdv A outer s H C8.E0 q) [] (L2.start N [.ref q.1]) H s1 := inv_startH (us := [.ref q.1]) S (pin q List.mem_cons_self) e0 rfl (.cons rfl .nil) x1
  have o := I1.ok
  have kept := x1.toInCall.keep
  have I : Inv (cx2 C8.CX0 P w K mg base N x scope f cdv A outer s H C8.E0 q l) [] (L2.start N [.ref q.1]) H s1 := by
    refine ⟨⟨o.mod, o.kind, o.glob, o.blt, o.above, o.inj, o.has, o.cab, o.hd, o.frames, o.stk, o.exf, o.bs, o.bsz, o.noex, o.exfs, o.funs, o.frf⟩, I1.os, I1.bare, I1.base, I1.loc, I1.cell, I1.free, I1.freeC, fun p hp => ?_, I1.hok, I1.len⟩
    have g := pin p (by simpa using hp)
    refine ⟨kept _ _ g.get, g.free, fun z => ?_, g.nofs, g.nocell⟩
    have lt := Heap.lt_size g.get
    rw [z] at lt
    exact Nat.lt_irrefl _ lt
  have go := hbody cdv A outer s H q l C d ps hf hot c1 c2 (hr.deeper _) (L2.start N [.ref q.1]) H { nx := fun _ H' => Q .non H', rt := Q } (FP.start1 hn hp) (fun _ z => nomatch z) ?_
  · refine wpAny_mono (pss_w.run [] s1 _ H _ I go) (fun fl s2 hs => ?_) fun _ _ z => z
    cases fl with
    | ret u =>
      obtain ⟨v, σ', H', J, rv, z⟩ := hs
      exact ⟨v, H', J.os, J.bare, J.base, J.hok, rv, z⟩
    | next =>
      obtain ⟨σ', H', J, z⟩ := hs
      exact ⟨.non, H', J.os, J.bare, J.base, J.hok, rfl, z⟩
    | brk =>
      obtain ⟨_, _, _, z⟩ := hs
      exact z.elim
    | cont =>
      obtain ⟨_, _, _, z⟩ := hs
      exact z.elim
  · have same : ∀ {ω' : Om} {H' : Hp}, Stp [] ⟨ps, []⟩ ω' H H' → Same H H' := fun st b o e => st.keep b o e (fun z => nomatch z) (.inl rfl)
    refine ⟨fun δ' ω' σ' H' z st l => ?_, fun r' ω' v H' z st l dv => ?_, fun _ _ _ _ z => (nomatch z), fun _ _ _ _ z => False.elim z, fun _ _ _ _ z => False.elim z⟩
    · cases z
      exact hQ .non H' (same st) .non
    · cases r' with
      | im d' =>
        cases z
        exact hQ v H' (same st) (dpm (hid_more fun b hb => List.mem_append_left _ (by rw [st.ps]; exact hb)) dv)
      | ad a => exact False.elim z
/-- the word is called, in the suite -/
theorem pe_word {X : L2.Cx} {q : Addr × Obj} {l : List (Addr × Obj)} {k i : Nat} {wd n : Str} {fw : Addr → PyData → Prop} {C : Addr} {d : PyData} {p5 p6 p7 : Pos} (G : Word2 X.prog X.w X.K X.mg X.base k wd fw) (hr : RoomH k X.A) (hot : Hot2 X.A q l) (hq : ∀ p ∈ q :: l, p ∈ X.pn) (c1 : q.2.cls = .ref C) (c2 : q.2.dict = none) (hf : fw C d)
    (hg : Gl X wd) (hN : X.N[i]? = some n) (hv : Vis X.env.scope n) (hdb : (wd == ("__debug__" : Str)) = false := by decide) (h1 : (n == ("__debug__" : Str)) = false := by decide) (h2 : (n == ("__classdict__" : Str)) = false := by decide)
    (he : starEach [.Name n p6] X.env = (false, eval (.Name n p6) X.env) :: starEach [] X.env := by rfl) :
    PE X (.Call (.Name wd p5) [.Name n p6] [] p7) (fun σ H Q => σ[i]? = some (some (.ref q.1)) ∧ ∃ ps, (∀ a ∈ ps, H a ≠ none) ∧ ∀ v H', Same H H' → Dp X.K (hid ps H') v d → Q v H') := by
  obtain ⟨g, m, kp, run⟩ := G.ex
  refine ⟨fun pins s σ H Q I h => ?_⟩
  obtain ⟨hs, ps, hp, hQ⟩ := h
  have ha : PA X [.Name n p6] (tCons (fun σ H Q => ∃ v, σ[i]? = some (some v) ∧ Q v H) tNil) := pa_cons (pe_var hN hv h1 h2) pa_nil he
  refine wpAny_Call_Name_kw (ld_glob I hg m (PySem.W.callWith_K (h₀ := X.base) I.ok.mod.kin kp (thn (ha.run p7 pins s σ H (fun vs H1 => vs = [V.ref q.1] ∧ H1 = H) I ⟨_, hs, rfl, rfl⟩) fun us s1 w => ?_) he (by rfl)) hdb)
  obtain ⟨vs, H1, J, rv, ev, eH⟩ := w
  subst ev
  subst eH
  refine ⟨J.kIn, ?_⟩
  rw [Vals.ref1 rv]
  have pin : ∀ p ∈ q :: l, PinOk X.stack H1 s1 p := fun p m => by
    have P1 := J.pin p (List.mem_append_left _ (hq p m))
    exact ⟨P1.1, P1.2.1, fun z => (List.mem_cons.mp (J.stkSub p.1 z)).elim P1.2.2.1 P1.2.2.2.1, P1.2.2.2.2⟩
  refine wpAny_call (codeAny_mono (run X.A X.stack s1 H1 q l C d ps Q hf hr hot pin c1 c2 J.env0 hp hQ) fun r s2 z => ?_)
  cases r with
  | error e => exact False.elim z
  | ok fl =>
    cases fl with
    | ret u => exact J.after z
    | next => exact False.elim z
    | brk => exact False.elim z
    | cont => exact False.elim z
end LC

namespace LC
open PySem PySem.Spec PyProof.Rows L2 HotX FP L2H
section
variable {X : L2.Cx} {pins qins P Q : List (Addr × Obj)} {σ : L2.St} {H : Hp} {s : Shared}
/-- fewer pins, or others that hold -/
theorem inv_pn (I : Inv { X with pn := P } pins σ H s) (h : ∀ p ∈ Q ++ qins, p ∈ P ++ pins) : Inv { X with pn := Q } qins σ H s :=
  let o := I.ok
  ⟨⟨o.mod, o.kind, o.glob, o.blt, o.above, o.inj, o.has, o.cab, o.hd, o.frames, o.stk, o.exf, o.bs, o.bsz, o.noex, o.exfs, o.funs, o.frf⟩, I.os, I.bare, I.base, I.loc, I.cell, I.free, I.freeC, fun p hp => I.pin p (h p hp), I.hok, I.len⟩
/-- one more -/
theorem inv_pin {p : Addr × Obj} (I : Inv { X with pn := P } pins σ H s) (g : s.heap.get? p.1 = some p.2) (n : H p.1 = none) (nL : p.1 ≠ X.env.locals) (nF : p.1 ∉ X.fs) (nc : ∀ v, p.2.data ≠ .cell v) : Inv { X with pn := p :: P } pins σ H s :=
  let o := I.ok
  ⟨⟨o.mod, o.kind, o.glob, o.blt, o.above, o.inj, o.has, o.cab, o.hd, o.frames, o.stk, o.exf, o.bs, o.bsz, o.noex, o.exfs, o.funs, o.frf⟩, I.os, I.bare, I.base, I.loc, I.cell, I.free, I.freeC, fun q hq => by
    rcases List.mem_cons.mp hq with e | m
    · rw [e]
      exact ⟨g, n, nL, nF, nc⟩
    · exact I.pin q m, I.hok, I.len⟩
/-- what the handler must bear -/
def wAs1 (X : L2.Cx) (c : Value) (i : Nat) (ex : Expr) (D : Ends) : WX := fun cls d σ H => PySem.W.exmOne X.K cls c = some true ∧ ∀ (q : Addr × Obj) (l pn : List (Addr × Obj)), q.2.cls = cls → q.2.dict = d →
  Hot2 (X.A.mark (some (.ref q.1))) q l → H q.1 = none → (∀ p ∈ q :: l, p ∈ pn) → wpe (X.suite q.1 pn) ex (σ.set i (some (.ref q.1))) H D.rt
theorem ps_tryAs {x n : Str} {c : Value} {i : Nat} {body : List Stmt} {ex : Expr} {np pos pos' rp : Pos} (hs : X.stack = X.env :: X.outer) (hf : X.env.frame = some X.env.locals) (hN : X.N.Nodup) (hi : X.N[i]? = some n) (hln : X.env.kindOf n = some .local) (hc : Names X x c) :
    PS X (.Try body [.ExceptHandler (some (.Name x np)) (some n) [.Return (some ex) rp] pos'] [] [] pos) (fun D σ H => ∀ pn xe, Takes (X.tr pn xe) (wAs1 X c i ex D) → wpss (X.tr pn xe) body D σ H) := by
  refine ⟨fun pins s σ H D I h => wpAny_Try_except ?_⟩
  have ok := I.ok
  have fr : X.A.frames = some (X.env :: X.outer) := ok.frames.trans (congrArg some hs)
  have run := (pss_w (X := X.tr (X.pn ++ pins) (fun e s₁ => wpAny (model X.prog X.w) X.A (noteFrame e X.env) (fun _ s₂ => wpAny (model X.prog X.w) X.A (setFlight e none) (fun _ s₃ => wpAny (model X.prog X.w) X.A (handleBy e X.env [.ExceptHandler (some (.Name x np)) (some n) [.Return (some ex) rp] pos']) (SP X pins D) X.xe s₃) X.xe s₂) X.xe s₁)) (st := body)).run [] s σ H D (I.toTry _) (h _ _ ?_)
  · refine wpAny_mono run (fun f s1 q => ?_) fun _ _ q => q
    cases f with
    | next =>
      obtain ⟨σ1, H1, I1, q1⟩ := q
      exact wpAny_execs_nil ⟨σ1, H1, I1.ofTry ok, q1⟩
    | brk =>
      obtain ⟨σ1, H1, I1, q1⟩ := q
      exact ⟨σ1, H1, I1.ofTry ok, q1⟩
    | cont =>
      obtain ⟨σ1, H1, I1, q1⟩ := q
      exact ⟨σ1, H1, I1.ofTry ok, q1⟩
    | ret u =>
      obtain ⟨v1, σ1, H1, I1, r1, q1⟩ := q
      exact ⟨v1, σ1, H1, I1.ofTry ok, r1, q1⟩
  · rintro u s1 ⟨a, B, t0, pins1, σ1, H1, cls, d, rfl, I1, nb, up, sky, na, os, ag, hm, hw⟩
    have J := I1.ofTry ok
    have sky1 : L2.Sky B (X.env :: X.outer) a (Zw B H1 cls d) X.env.locals s1.heap := by
      rw [← hs]
      exact sky
    refine L2N.Sky.land Zw.steady fr hf sky1 fun h2 fl2 up2 => ?_
    have J2 := J.landed (s' := { s1 with heap := h2 }) nb fl2.1 (up.trans up2) os ag
    obtain ⟨oe2, vs2, he2, hz2, hd2⟩ := fl2.there
    have n1 : a ∉ frs (X.env :: X.outer) := no_frame fl2.2.2.1 he2 hd2
    have nL : ∀ {b}, b ∉ frs (X.env :: X.outer) → b ≠ X.env.locals := fun {b} n z => n (List.mem_filterMap.mpr ⟨X.env, List.mem_cons_self, by rw [hf, z]⟩)
    have nF : ∀ {b}, b ∉ frs (X.env :: X.outer) → b ∉ X.fs := fun {b} n hm => by
      obtain ⟨e, he, q⟩ := List.mem_filterMap.mp hm
      exact n (List.mem_filterMap.mpr ⟨e, List.mem_cons_of_mem _ he, q⟩)
    have S2 := J2.suite he2 hd2 na (nL n1) (nF n1)
    refine wpAny_handleBy_cons (codeAny_handlers_test ?_) (by intro q; cases q)
    have looks : PySem.W.Looks (model X.prog X.w) h2 (typeOf (.ref a)) cls := fun A Q E s k q => wpAny_typeOf_ref (k _ _ he2) (by rw [hz2.1]; exact q)
    have named : ∀ {Q : Value → Shared → Prop} {E : Value → Shared → Prop}, Q c { s1 with heap := h2 } → wpAny (model X.prog X.w) (X.A.mark (some (.ref a))) (eval (.Name x np) X.env) Q E { s1 with heap := h2 } := fun {Q E} q => by
      obtain ⟨g1, g2, g3 | ⟨g3, g4, g5⟩⟩ := hc
      · exact ld_glob (X := X.suite a ((a, oe2) :: (X.pn ++ pins))) S2 g1 g3 q g2
      · exact ld_blt (X := X.suite a ((a, oe2) :: (X.pn ++ pins))) S2 g1 g3 g4 q g5 g2
    refine named ((PySem.W.exm_one (M := model X.prog X.w) J2.kIn looks hm).here ?_)
    refine codeAny_handlers_suite_as (HandSPX.lands_againZ fl2 fun h3 fl3 up3 => ?_)
    have J3 := J.landed (s' := { s1 with heap := h3 }) nb fl3.1 ((up.trans up2).trans up3) os ag
    obtain ⟨oe, vs, he, hz, hd⟩ := fl3.there
    have S3 := J3.suite he hd na (nL n1) (nF n1)
    -- what is handled, with its context
    obtain ⟨l, hot, S4⟩ : ∃ l, Hot2 (X.A.mark (some (.ref a))) (a, oe) l ∧ Inv (X.suite a ((a, oe) :: (l ++ (X.pn ++ pins)))) [] σ1 H1 { s1 with heap := h3 } := by
      rcases hz.2.2 vs hd with e | ⟨b, oc, vc, e1, e2, e3, e4, e5⟩
      · exact ⟨[], ⟨rfl, vs, hd, .inl ⟨rfl, e⟩⟩, S3⟩
      · have gb : h3.get? b = some oc := fl3.1 b oc e2
        have nb2 : b ∉ frs (X.env :: X.outer) := no_frame fl3.2.2.1 gb e4
        have nab : b ≠ a := fun z => by
          rw [z, fl3.2.1] at e2
          cases e2
        refine ⟨[(b, oc)], ⟨rfl, vs, hd, .inr ⟨(b, oc), vc, rfl, e1, nab, e4, e5⟩⟩, ?_⟩
        have S5 := inv_pin (X := X.suite a ((a, oe) :: (X.pn ++ pins))) (p := (b, oc)) S3 gb e3 (nL nb2) (nF nb2) (fun v z => by rw [e4] at z; cases z)
        refine inv_pn (X := X.suite a ((a, oe) :: (X.pn ++ pins))) S5 fun p hp => ?_
        simp only [List.append_nil, List.mem_cons, List.mem_append, List.not_mem_nil, or_false] at hp ⊢
        rcases hp with z | z | z | z
        · exact .inr (.inl z)
        · exact .inl z
        · exact .inr (.inr (.inl z))
        · exact .inr (.inr (.inr z))
    refine store_ok (X := X.suite a ((a, oe) :: (l ++ (X.pn ++ pins)))) (v := .ref a) S4 hN hi (.inl hln) rfl (fun s5 S5 => ?_) (.inr hln)
    have go := hw (a, oe) l ((a, oe) :: (l ++ (X.pn ++ pins))) hz.1 hz.2.1 hot na fun p m => by
      rcases List.mem_cons.mp m with e | m
      · rw [e]
        exact List.mem_cons_self
      · exact List.mem_cons_of_mem _ (List.mem_append_left _ m)
    refine wpAny_mono ((pss_one (ps_ret (pos := rp) pe_w)).run [] s5 _ H1 ⟨fun _ _ => False, D.rt, fun _ _ => False, fun _ _ => False⟩ S5 go) (fun f s6 q => ?_) fun _ _ z => z.elim
    cases f with
    | next =>
      obtain ⟨_, _, _, q⟩ := q
      exact q.elim
    | brk =>
      obtain ⟨_, _, _, q⟩ := q
      exact q.elim
    | cont =>
      obtain ⟨_, _, _, q⟩ := q
      exact q.elim
    | ret u =>
      obtain ⟨v6, σ6, H6, S6, r6, q6⟩ := q
      have S7 : Inv (X.suite a ((a, oe) :: (X.pn ++ pins))) [] σ6 H6 s6 := inv_pn (X := X.suite a ((a, oe) :: (l ++ (X.pn ++ pins)))) S6 fun p hp => by
        simp only [List.append_nil, List.mem_cons, List.mem_append] at hp ⊢
        rcases hp with z | z | z
        · exact .inl z
        · exact .inr (.inr (.inl z))
        · exact .inr (.inr (.inr z))
      exact gone_ok (S7.unsuite ok) hN hi hln fun s7 J7 => ⟨_, _, _, J7, r6, q6⟩
end
end LC

namespace LC
open PySem PySem.Spec PyProof.Rows L2 HotX FP L2H
structure DefC (P : Program) (w : World) (K : PySem.W.Frag) (mg : Str → Option Value) (base : Heap) (k : Nat) (x : Str) (fr : List PyData → Rs → Prop) : Prop where
  ex : ∃ f fd ps, FnOk P w K mg base (CX P w) k f fd ps (spD K fr) ∧ mg x = some (.ref f) ∧ PySem.W.keepIn K (.ref f) = true ∧ L2.Binds K fd ps []
theorem DefC.mono {P : Program} {w : World} {K : PySem.W.Frag} {mg : Str → Option Value} {base : Heap} {j k : Nat} {x : Str} {fr : List PyData → Rs → Prop} (G : DefC P w K mg base j x fr) (h : j ≤ k) : DefC P w K mg base k x fr := by
  obtain ⟨f, fd, ps, F, m, kp, b⟩ := G.ex
  exact ⟨f, fd, ps, F.mono h, m, kp, b⟩
theorem def_okC {P : Program} {w : World} {K : PySem.W.Frag} {mg : Str → Option Value} {base : Heap} {x qual : Str} {params : Arguments} {body : List Stmt} {scope : Scope} {kws : List (Str × V)} {f : Addr} {fd : FuncData} {N ps : List Str} {k : Nat} {fr : List PyData → Rs → Prop}
    (F : FunD K x qual params body scope [] kws f fd) (hm : mg x = some (.ref f)) (S : FnScope N ps scope) (hb : ∀ (kV doc pm : Value) (an : Option Addr) (cdv ct : Value) (us : List Value), us.length = ps.length → bindArgs (PySem.W.fnOf x qual params body scope .none kV doc pm an cdv ct) ⟨us, []⟩ = pure (ps.zip us))
    (len : ∀ ds r, fr ds r → ds.length = ps.length)
    (hbody : ∀ (cdv : Value) (A : Around) (outer : List Env) (s : Shared) (H : Hp) (E : XK) (qs : List Addr) (ds : List PyData) (r : Rs), Room k (A.deeper (envOfC qual scope s.heap.objs.size f cdv)) → fr ds r →
      SD (cxOf (CX P w) P w K mg base N qual scope f cdv A outer s H E) (WOf E) [] body (startD N ds) ⟨qs, []⟩ (Fin r)) : DefC P w K mg base (k + 1) x fr := by
  refine ⟨f, fd, ps, F.ok S (fun vs H Q E h => ?_) (fun cdv A outer s H vs Q E hr h => ?_), hm, F.kp, F.bindsN hb⟩
  · obtain ⟨qs, ds, r, _, h2, h3, _⟩ := h
    rw [dpa_len h2]
    exact len ds r h3
  · obtain ⟨qs, ds, r, h1, h2, h3, h4⟩ := h
    refine ⟨_, pss_w, hbody cdv A outer s H E qs ds r hr h3 _ _ _ (start_rl h2 h1) (fun _ z => nomatch z) ?_⟩
    have same : ∀ {ω' : Om} {H' : Hp}, Stp [] ⟨qs, []⟩ ω' H H' → Same H H' := fun st b o e => st.keep b o e (fun z => nomatch z) (.inl rfl)
    refine ⟨fun δ' ω' σ' H' z st l => ?_, fun r' ω' v H' z st l dv => ?_, fun C ω' σ' H' z st l => ?_, fun _ _ _ _ z => False.elim z, fun _ _ _ _ z => False.elim z⟩
    · have z : r = .ok .none := z
      subst z
      exact h4 .non H' (same st) .non
    · cases r' with
      | im d =>
        have z : r = .ok d := z
        subst z
        exact h4 v H' (same st) (dpm (hid_more fun b hb => List.mem_append_left _ (by rw [st.ps]; exact hb)) dv)
      | ad a => exact False.elim z
    · have z : r = .er C := z
      subst z
      exact h4 H' (same st)
section
variable {X : L2.Cx} {W : WX} {T : List (Addr × Str)} {δ : De} {ω : Om} {a e : Expr} {es : List Expr} {d : PyData} {ds : List PyData} {pos p : Pos} {k : Nat} {x : Str} {R : Out → Prop} {ss : List Stmt}
theorem ex_callC {fr : List PyData → Rs → Prop} {rr : Rs} (G : DefC X.prog X.w X.K X.mg X.base k x fr) (hr : Room k X.A) (tk : Takes X W) (ha : PDs X δ ω (a :: es) ds) (hf : fr ds rr) (hR : match rr with | .ok d => R (.rt (.im d) ω) | .er C => R (.ex C ω)) (hg : Gl X x := by rfl)
    (hdb : (x == ("__debug__" : Str)) = false := by decide) (he : starEach (a :: es) X.env = (false, eval a X.env) :: starEach es X.env := by rfl) (hpl : (backTo pos (starEach es X.env)).any (·.1) = false := by rfl) : EX X W T (.Call (.Name x p) (a :: es) [] pos) δ ω R := fun σ H rl t Q q q2 => by
  obtain ⟨f, fd, ps, F, m, kp, b⟩ := G.ex
  refine we (pe_callS (E := WE W) F hr hg m kp b (fun σ => passAt tk σ) pa_w hdb he hpl) (ha σ H rl _ fun vs H1 s1 d1 => ?_)
  refine ⟨ads ω, ds, rr, there_mono rl.ro.there s1, d1, hf, ?_⟩
  cases rr with
  | ok d => exact fun v H' s' d' => q _ ω v H' hR (.of (s1.trans s')) (rl.mono (s1.trans s')) d'
  | er C => exact fun H' s' => q2 C ω σ H' hR (.of (s1.trans s')) (rl.ro.mono (s1.trans s'))
theorem pr_callC {fr : List PyData → Rs → Prop} {rr : Rs} (G : DefC X.prog X.w X.K X.mg X.base k x fr) (hr : Room k X.A) (tk : Takes X W) (ha : PDs X δ ω (a :: es) ds) (hf : fr ds rr) (hg : Gl X x := by rfl)
    (hdb : (x == ("__debug__" : Str)) = false := by decide) (he : starEach (a :: es) X.env = (false, eval a X.env) :: starEach es X.env := by rfl) (hpl : (backTo pos (starEach es X.env)).any (·.1) = false := by rfl) : PR X W δ ω (.Call (.Name x p) (a :: es) [] pos) rr := fun σ H rl Q q => by
  obtain ⟨f, fd, ps, F, m, kp, b⟩ := G.ex
  refine we (pe_callS (E := WE W) F hr hg m kp b (fun σ => passAt tk σ) pa_w hdb he hpl) (ha σ H rl _ fun vs H1 s1 d1 => ⟨ads ω, ds, rr, there_mono rl.ro.there s1, d1, hf, ?_⟩)
  cases rr with
  | ok d => exact fun v H' s' d' => q v H' (s1.trans s') d'
  | er C => exact fun H' s' => q H' (s1.trans s')
/-- a call as a statement: it may raise -/
theorem sd_callC {fr : List PyData → Rs → Prop} {rr : Rs} {pos2 : Pos} (G : DefC X.prog X.w X.K X.mg X.base k x fr) (hr : Room k X.A) (tk : Takes X W) (ha : PDs X δ ω (a :: es) ds) (hf : fr ds rr)
    (h1 : ∀ d, rr = .ok d → SD X W T ss δ ω R) (h2 : ∀ C, rr = .er C → R (.ex C ω)) (hg : Gl X x := by rfl)
    (hdb : (x == ("__debug__" : Str)) = false := by decide) (he : starEach (a :: es) X.env = (false, eval a X.env) :: starEach es X.env := by rfl) (hpl : (backTo pos (starEach es X.env)).any (·.1) = false := by rfl)
    (hs : swapsWith (.Call (.Name x p) (a :: es) [] pos) none pos2.line X.env = pure false := by rfl) : SD X W T (.Expr (.Call (.Name x p) (a :: es) [] pos) pos2 :: ss) δ ω R :=
  sd_exprX (ex_callC G hr tk ha hf (by
    cases rr with
    | ok d => exact h1 d rfl
    | er C => exact h2 C rfl) hg hdb he hpl) hs
end
abbrev lamC (X : L2.Cx) (A : Around) (outer : List Env) (s : Shared) (H : Hp) (E : XK) (scope : Scope) (f c' : Addr) : L2.Cx :=
  (LamX.lamCx X A outer s H E scope f c').tr [] (fun e t => wpAny (model X.prog X.w) (A.deeper (LamX.lamEnv X scope s.heap.objs.size f c')) (leaving (LamX.lamEnv X scope s.heap.objs.size f c') e) (fun _ t' => CX X.prog X.w outer H s E e t') (fun e' t' => CX X.prog X.w outer H s E e' t') t)
theorem lamC_takes {X : L2.Cx} {A : Around} {outer : List Env} {s : Shared} {H : Hp} {E : XK} {scope : Scope} {f c' : Addr} : Takes (lamC X A outer s H E scope f c') (WOf E) := takes_of rfl rfl rfl rfl
/-- it is called, where what it lets out is taken -/
theorem pe_lamC {X Z : L2.Cx} {pins : List (Addr × Obj)} {σ : L2.St} {H : Hp} {s : Shared} {f c' : Addr} {pm ctv : Value} {params : Arguments} {body : Expr} {scope : Scope} {k i : Nat} {a : Str} {W : WX} {p1 p2 : Pos}
    (hP : Z.prog = X.prog) (hw : Z.w = X.w) (hK : Z.K = X.K) (hm : Z.mg = X.mg) (hB : Z.base = X.base) (h0 : Z.s_0 = s) (hH : Z.H_0 = H) (hex : Z.ex = []) (hfs : Z.fs = frs X.stack)
    (I : Inv X pins σ H s) (L : LamX.LamS X.env.scope scope) (hf : s.heap.get? f = some (PySem.W.kla_obj "<lambda>" (X.env.qual ++ "<lambda>") params body scope (cloFrom X.env.cells scope.names []) pm c' ctv)) (hfn : H f = none) (hfr : f ∉ frs X.stack)
    (hbind : bindArgs (PySem.W.kla_fn "<lambda>" (X.env.qual ++ "<lambda>") params body scope (cloFrom X.env.cells scope.names []) pm (.ref c') ctv) ⟨[], []⟩ = pure []) (tk : Takes Z W) (hr : Room (k + 1) Z.A)
    (hN : Z.N[i]? = some a) (hv : Vis Z.env.scope a) (hd : (a == ("__debug__" : Str)) = false := by decide) (hcd : (a == ("__classdict__" : Str)) = false := by decide) :
    PE Z (.Call (.Name a p1) [] [] p2) (fun τ G Q => τ[i]? = some (some (.ref f)) ∧ G c' = some (LamX.CodeO c' (X.env.qual ++ "<lambda>")) ∧
      ∀ (A : Around) (outer : List Env) (t : Shared), Room k (A.deeper (LamX.lamEnv X scope t.heap.objs.size f c')) → wpe (lamC X A outer t G (WE W τ) scope f c') body σ G Q) := by
  obtain ⟨zp, zw, zk, zmg, zb, zA, zN, zs, zh, zenv, zo, zst, zex, zfn, zc, zpn, zxe⟩ := Z
  dsimp only at hP hw hK hm hB h0 hH hex
  subst hP hw hK hm hB h0 hH hex
  refine ⟨fun pinsZ sZ τ G Q IZ h => ?_⟩
  obtain ⟨t1, t2, t3⟩ := h
  refine wpAny_Call_Name_kw (thn ((pe_var (pos := p1) (i := i) hN hv hd hcd).run pinsZ sZ τ G (fun v G1 => v = .ref f ∧ G1 = G) IZ ⟨.ref f, t1, rfl, rfl⟩) fun u s1 w => ?_)
  obtain ⟨v, G1, J, rv, ev, eG⟩ := w
  subst ev
  subst eG
  obtain rfl : u = Value.ref f := rv
  have un : Un (frs X.stack) [] zh G1 zs.heap s1.heap := by
    rw [← hfs]
    exact J.base
  have gf := un.keep f _ hf hfn hfr (fun z => nomatch z)
  have rc : codeAny (model X.prog X.w) zA (.call (.ref f) ⟨[], []⟩) (CR (CX X.prog X.w) zst X.prog X.w G1 s1 Q (WE W τ)) s1 := by
    obtain ⟨⟨oc, vs, tt, g1, g2, g3⟩, _, _⟩ := J.hok c' _ t2
    refine PySem.W.kla_callFunE hr.depth gf rfl L.co L.gen rfl ⟨c', oc, vs, tt, rfl, g1, g2, g3⟩ ?_
    rw [hbind]
    refine wpAny_pure (wpAny_newFunctionEnv (fun y hy => (L.own y hy).2) (fun y hy => (nomatch hy)) (fun h2 n2 b2 => ⟨J.nolimit.fresh _ b2, ?_⟩) L.kind)
    show codeAny _ _ (.expr body (LamX.lamEnv X scope s1.heap.objs.size f c')) _ _
    have J2 := (LamX.lam_start2 (E := WE W τ) (scope := scope) (f := f) (c' := c') (tk := s1.toks + ([] : List (Str × Value)).length) I L J.env0 hr.hd un n2 (fun b o e => b2.extBut b o (Nat.ne_of_lt (Heap.lt_size e)) (Heap.get?_push_of_some _ e))).toTry (fun e t => wpAny (model X.prog X.w) (zA.deeper (LamX.lamEnv X scope s1.heap.objs.size f c')) (leaving (LamX.lamEnv X scope s1.heap.objs.size f c') e) (fun _ t' => CX X.prog X.w zst G1 s1 (WE W τ) e t') (fun e' t' => CX X.prog X.w zst G1 s1 (WE W τ) e' t') t)
    refine PySem.W.kla_codeExpr (wpAny_mono (pe_w.run [] _ σ G1 Q J2 (t3 zA zst s1 (hr.deeper _))) (fun v s3 z => ?_) fun e s3 z => z)
    obtain ⟨v1, G3, J3, r3, q3⟩ := z
    exact ⟨v1, G3, J3.os, J3.bare, J3.base, J3.hok, r3, q3⟩
  refine PySem.W.callWith_F0 ⟨_, _, _, _, gf⟩ (wpAny_call (codeAny_mono rc fun r s2 z => ?_))
  · cases r with
    | error e => exact passAt tk τ pinsZ G1 s1 e s2 J z
    | ok fl =>
      cases fl with
      | ret u => exact J.after z
      | next => exact False.elim z
      | brk => exact False.elim z
      | cont => exact False.elim z
section
variable {X : L2.Cx} {T : List (Addr × Str)} {δ : De} {ω : Om} {d : PyData} {pos p : Pos} {k : Nat}
/-- a told lambda, whatever it hands back -/
theorem yx_toldC {Rz : Sd → Om → Prop} {x a e n wd : Str} {st : Stmt} {Ng : List Str} {CS : Addr} {fw : Addr → PyData → Prop} {p1 p2 p3 p4 p5 p6 p7 p8 p9 p10 lpos : Pos} {params : Arguments} {body : Expr} {scope : Scope} (G : Told X.K X.mg x st) (L : LamT X T) (hT : T ≠ []) (hps : ω.ps = []) (hr : Room (k + 2) X.A)
    (WK : Word2 X.prog X.w X.K X.mg X.base (k + 1) wd fw)
    (hst : defBody st = [.Try [.Return (some (.Call (.Name a p1) [] [] p2)) p3] [.ExceptHandler (some (.Name e p4)) (some n) [.Return (some (.Call (.Name wd p5) [.Name n p6] [] p7)) p8] p9] [] [] p10]) (S : FnScope Ng [a] (defScope st)) (hNd : Ng.Nodup) (hNg : Ng[0]? = some a) (hva : Vis (defScope st) a)
    (hN1 : Ng[1]? = some n) (hkn : (defScope st).names.lookup n = some .local) (hge : (defScope st).names.lookup e = some .globalImplicit) (hgw : (defScope st).names.lookup wd = some .globalImplicit) (hme : X.mg e = some (.ref CS))
    (hbn : ∀ (kV doc pm : Value) (an : Option Addr) (cdv ct : Value) (us : List Value), us.length = [a].length → bindArgs (PySem.W.fnOf x x (defArgs st) (defBody st) (defScope st) .none kV doc pm an cdv ct) ⟨us, []⟩ = pure ([a].zip us))
    (hb : ∀ (A : Around) (outer : List Env) (s : Shared) (H : Hp) (E : XK) (f c' : Addr), Room k (A.deeper (LamX.lamEnv X scope s.heap.objs.size f c')) → YX (lamC X A outer s H E scope f c') (WOf E) T δ ω body (fun r ω1 => match r with | .ok r' => Rz r' ω1 | .er Z => PySem.W.exmOne X.K (.ref Z) (.ref CS) = some true ∧ ∃ d, fw Z d ∧ Rz (.im d) ω1))
    (hL : LamX.LamS X.env.scope scope) (hdef : defaultsOf params X.env = ([], []) := by rfl) (hbind : ∀ (q : Str) (cl : List (Str × Addr)) (pm cv ctv : Value), bindArgs (PySem.W.kla_fn "<lambda>" q params body scope cl pm cv ctv) ⟨[], []⟩ = pure [] := by intros; rfl)
    (hg : Gl X x := by rfl) (hdb : (x == ("__debug__" : Str)) = false := by decide) (hd1 : (a == ("__debug__" : Str)) = false := by decide) (hcd1 : (a == ("__classdict__" : Str)) = false := by decide) (hde : (e == ("__debug__" : Str)) = false := by decide) (hdw : (wd == ("__debug__" : Str)) = false := by decide)
    (hdn : (n == ("__debug__" : Str)) = false := by decide) (hcn : (n == ("__classdict__" : Str)) = false := by decide) : YX X (fun _ _ _ _ => False) T δ ω (.Call (.Name x p) [.Lambda params body scope lpos] [] pos) (fun r ω1 => ∃ r', r = .ok r' ∧ Rz r' ω1) := fun σ H rl tb Q q _ => by
  obtain ⟨g, fd, F, hm⟩ := G.ex
  obtain ⟨c, P, TB, hcode, hmT, hu⟩ := L.ex
  have hbs := FunD.bindsN (ps := [a]) F hbn
  have kp := F.kp
  obtain ⟨oc, od, dV, kV, doc, pm, an, cdv, ct, osl, rfl, lk, hcd, hD, hK⟩ := F.ex
  unfold wpe
  intro pins s I
  refine wpAny_Call_Name_kw (ld_glob I hg hm ?_ hdb)
  refine PySem.W.callWith_K (h₀ := X.base) I.ok.mod.kin kp ?_ (by rfl) (by rfl)
  show wpAny _ _ (spliced ((false, eval (.Lambda params body scope lpos) X.env) :: backTo pos (starEach [] X.env))) _ _ s
  refine Calls.spliced_cons (LamX.lam_make2 I TB hcode hmT hu tb hdef (hL.has I.ok) fun f c' pm' ctv H1 s' I1 eN T1 hf hfn hfr hco => Calls.spliced_nil ⟨I1.kIn, ?_⟩)
  have rl1 : Rl X.K H1 σ δ ω := rl_ext (T := T) eN hps rl
  have st0 : Stp T ω ω H H1 := ⟨fun b o h _ p => eN b o h (p.resolve_left hT), fun a h => .inl h, rfl, fun _ => T1⟩
  have done : ∀ r ω1 v H2, Rz r ω1 → Stp T ω ω1 H1 H2 → Rl X.K H2 σ δ ω1 → SdV X.K (hid (ads ω1) H2) r v → Q v H2 := fun r ω1 v H2 z s2 l2 d2 => q r ω1 v H2 ⟨r, rfl, z⟩ (st0.trans s2) l2 d2
  refine wpAny_call (codeAny_mono (R := CR C8.CX0 X.stack X.prog X.w H1 s' Q C8.E0) (LamX.run_ofS (N := Ng) (ps := [a]) (us := [.ref f]) (vs := [.ref f]) lk hcd S hr I1.env0 (hbs s' [.ref f] I1.kIn rfl) (.cons rfl .nil) rfl fun hr' => ?_) fun rr s2 z => ?_)
  · rw [hst]
    -- the def's own context
    have tryW := ps_tryAs (X := (cxOf C8.CX0 X.prog X.w X.K X.mg X.base Ng x (defScope st) g cdv X.A X.stack s' H1 C8.E0).nox) (x := e) (n := n) (c := .ref CS) (i := 1) (np := p4) (pos := p10) (pos' := p9) (rp := p8) (ex := .Call (.Name wd p5) [.Name n p6] [] p7)
      (body := [.Return (some (.Call (.Name a p1) [] [] p2)) p3]) rfl rfl hNd hN1 hkn ⟨hge, hde, .inl hme⟩
    refine ⟨_, (pss_one tryW).nox, fun pn xe tk => wss (pss_one (ps_ret (pe_lamC (X := X) (Z := ((cxOf C8.CX0 X.prog X.w X.K X.mg X.base Ng x (defScope st) g cdv X.A X.stack s' H1 C8.E0).nox).tr pn xe) rfl rfl rfl rfl rfl rfl rfl rfl rfl I1 hL hf hfn hfr (hbind _ _ _ _ _) tk hr' hNg hva hd1 hcd1))) ⟨rfl, hco, fun A outer t hr2 => ?_⟩⟩
    refine hb A outer t H1 _ f c' hr2 σ H1 rl1 T1 Q (fun r ω1 v H2 z s2 l2 dv => ?_) (fun C ω1 H2 z s2 l2 => ?_)
    · exact done r ω1 v H2 z s2 l2 dv
    · obtain ⟨hx, d, hfw, z⟩ := z
      refine ⟨hx, fun q l pn2 c1 c2 hot nq hpn => ?_⟩
      have pw := pe_word (X := ((cxOf C8.CX0 X.prog X.w X.K X.mg X.base Ng x (defScope st) g cdv X.A X.stack s' H1 C8.E0).nox).suite q.1 pn2) (q := q) (l := l) (i := 1) (p5 := p5) (p6 := p6) (p7 := p7) WK ⟨(roomH_of hr').dp, (roomH_of hr').un⟩ hot hpn c1 c2 hfw hgw hN1 (.inl hkn) hdw hdn hcn
      refine we pw ⟨?_, ads ω1, l2.ro.there, fun v G' s3 dv => done (.im d) ω1 v G' z (s2.trans (.of s3)) (l2.mono s3) dv⟩
      rw [List.getElem?_set_self]
      unfold L2.start
      have := (List.getElem?_eq_some_iff.mp hN1).1
      simp
      omega
  · cases rr with
    | error e => exact False.elim z
    | ok fl =>
      cases fl with
      | ret u => exact I1.after z
      | next => exact False.elim z
      | brk => exact False.elim z
      | cont => exact False.elim z
theorem ze_toldC {Rz : PyData → Om → Prop} {x a e n wd : Str} {st : Stmt} {Ng : List Str} {CS : Addr} {fw : Addr → PyData → Prop} {p1 p2 p3 p4 p5 p6 p7 p8 p9 p10 lpos : Pos} {params : Arguments} {body : Expr} {scope : Scope} (G : Told X.K X.mg x st) (L : LamT X T) (hT : T ≠ []) (hps : ω.ps = []) (hr : Room (k + 2) X.A)
    (WK : Word2 X.prog X.w X.K X.mg X.base (k + 1) wd fw)
    (hst : defBody st = [.Try [.Return (some (.Call (.Name a p1) [] [] p2)) p3] [.ExceptHandler (some (.Name e p4)) (some n) [.Return (some (.Call (.Name wd p5) [.Name n p6] [] p7)) p8] p9] [] [] p10]) (S : FnScope Ng [a] (defScope st)) (hNd : Ng.Nodup) (hNg : Ng[0]? = some a) (hva : Vis (defScope st) a)
    (hN1 : Ng[1]? = some n) (hkn : (defScope st).names.lookup n = some .local) (hge : (defScope st).names.lookup e = some .globalImplicit) (hgw : (defScope st).names.lookup wd = some .globalImplicit) (hme : X.mg e = some (.ref CS))
    (hbn : ∀ (kV doc pm : Value) (an : Option Addr) (cdv ct : Value) (us : List Value), us.length = [a].length → bindArgs (PySem.W.fnOf x x (defArgs st) (defBody st) (defScope st) .none kV doc pm an cdv ct) ⟨us, []⟩ = pure ([a].zip us))
    (hb : ∀ (A : Around) (outer : List Env) (s : Shared) (H : Hp) (E : XK) (f c' : Addr), Room k (A.deeper (LamX.lamEnv X scope s.heap.objs.size f c')) → YX (lamC X A outer s H E scope f c') (WOf E) T δ ω body (fun r ω1 => match r with | .ok (.im d) => Rz d ω1 | .ok (.ad _) => False | .er Z => PySem.W.exmOne X.K (.ref Z) (.ref CS) = some true ∧ ∃ d, fw Z d ∧ Rz d ω1))
    (hL : LamX.LamS X.env.scope scope) (hdef : defaultsOf params X.env = ([], []) := by rfl) (hbind : ∀ (q : Str) (cl : List (Str × Addr)) (pm cv ctv : Value), bindArgs (PySem.W.kla_fn "<lambda>" q params body scope cl pm cv ctv) ⟨[], []⟩ = pure [] := by intros; rfl)
    (hg : Gl X x := by rfl) (hdb : (x == ("__debug__" : Str)) = false := by decide) (hd1 : (a == ("__debug__" : Str)) = false := by decide) (hcd1 : (a == ("__classdict__" : Str)) = false := by decide) (hde : (e == ("__debug__" : Str)) = false := by decide) (hdw : (wd == ("__debug__" : Str)) = false := by decide)
    (hdn : (n == ("__debug__" : Str)) = false := by decide) (hcn : (n == ("__classdict__" : Str)) = false := by decide) : ZE X T δ ω (.Call (.Name x p) [.Lambda params body scope lpos] [] pos) Rz :=
  YX.ze (YX.imp (yx_toldC (Rz := fun r ω1 => match r with | .im d => Rz d ω1 | .ad _ => False) G L hT hps hr WK hst S hNd hNg hva hN1 hkn hge hgw hme hbn (fun A outer s H E f c' hr' => YX.imp (hb A outer s H E f c' hr') fun r ω1 z => by
    cases r with
    | ok r => cases r <;> exact z
    | er Z => exact z) hL hdef hbind hg hdb hd1 hcd1 hde hdw hdn hcn) fun r ω1 z => by
    obtain ⟨r', rfl, z⟩ := z
    cases r' <;> exact z)
end
end LC

namespace LC
open PySem PySem.Spec PyProof.Rows L2 HotX FP L2H
section
variable {X : L2.Cx} {pins : List (Addr × Obj)} {σ : L2.St} {H : Hp} {s : Shared} {W : WX}
/-- y("..") makes a record of six fields -/
theorem made6 {y m : Str} {C : Addr} {j : Nat} {p p2 pos : Pos} {Q : XK} (F : ExcF X.K X.mg y C) (hg : Gl X y) (hdb : (y == ("__debug__" : Str)) = false) (I : Inv X pins σ H s) (h : Q (.ref C) none H) :
    wpAny (model X.prog X.w) X.A (eval (.Call (.Name y p) [.Constant (.str m) j p2] [] pos) X.env) (fun u s' => L2N.MkP X pins σ Q u s' ∧ Six u s') X.xe s := by
  have row : PA X [.Constant (.str m) j p2] (tCons (tC (.str m)) tNil) := pa_cons pe_str pa_nil
  refine wpAny_Call_Name_kw (ld_glob I hg F.gP (PySem.W.callWith_K (h₀ := X.base) I.ok.mod.kin F.kP ?_) hdb)
  refine thn (row.run pos pins s σ H (fun vs G => vs = [V.str m] ∧ H = G) I ⟨rfl, rfl⟩) fun us s1 w => ?_
  obtain ⟨vs, G, I1, r1, ev, eG⟩ := w
  subst ev
  rw [← eG] at I1
  refine ⟨I1.kIn, ?_⟩
  cases r1 with
  | cons ru rn =>
    cases rn
    obtain ⟨bm, N, nm, qn, bs, hdct, sn, sub, ab, col, dd, k0, k1, k2, k3, k5, mN, hC, hN, hni, T⟩ := exc_obj I1.kIn F.xP
    exact wpAny_call_exc_subT PySem.F.excBase_ValueError T hC hN hni (fun h' e hm => mk_of5 I1 hm (raises_own F.bP F.tP) h (I1.hok.gone hm.new)) (show 1 ≤ sizeLine by rw [sizeLine_eq]; omega)
/-- what the body may let out -/
def wFrom (X : L2.Cx) (c : Value) (C : Addr) (W : WX) : WX := fun cls _ σ H => PySem.W.exmOne X.K cls c = some true ∧ W (.ref C) none σ H
theorem ps_tryFrom {x y m : Str} {c : Value} {C : Addr} {body : List Stmt} {j j2 : Nat} {np p p2 pos1 cpos pos pos' rp : Pos} (hs : X.stack = X.env :: X.outer) (hf : X.env.frame = some X.env.locals) (hc : Names X x c)
    (hpa : ∀ hd : Option Value, PassesOwnAt (model X.prog X.w) (X.A.mark hd) X.A X.env X.xe) (tk : Takes X W) (F : ExcF X.K X.mg y C) (hg : Gl X y) (hdb : (y == ("__debug__" : Str)) = false) :
    PS X (.Try body [.ExceptHandler (some (.Name x np)) none [.Raise (some (.Call (.Name y p) [.Constant (.str m) j p2] [] pos1)) (some (.Constant .none j2 cpos)) rp] pos'] [] [] pos)
      (fun D σ H => ∀ pn xe, L2N.Takes (X.tr pn xe) (wFrom X c C W) → wpss (X.tr pn xe) body D σ H) := by
  refine ⟨fun pins s σ H D I h => wpAny_Try_except ?_⟩
  have ok := I.ok
  have fr : X.A.frames = some (X.env :: X.outer) := ok.frames.trans (congrArg some hs)
  have run := (pss_w (X := X.tr (X.pn ++ pins) (fun e s₁ => wpAny (model X.prog X.w) X.A (noteFrame e X.env) (fun _ s₂ => wpAny (model X.prog X.w) X.A (setFlight e none) (fun _ s₃ => wpAny (model X.prog X.w) X.A (handleBy e X.env [.ExceptHandler (some (.Name x np)) none [.Raise (some (.Call (.Name y p) [.Constant (.str m) j p2] [] pos1)) (some (.Constant .none j2 cpos)) rp] pos']) (SP X pins D) X.xe s₃) X.xe s₂) X.xe s₁)) (st := body)).run [] s σ H D (I.toTry _) (h _ _ ?_)
  · refine wpAny_mono run (fun f s1 q => ?_) fun _ _ q => q
    cases f with
    | next =>
      obtain ⟨σ1, H1, I1, q1⟩ := q
      exact wpAny_execs_nil ⟨σ1, H1, I1.ofTry ok, q1⟩
    | brk =>
      obtain ⟨σ1, H1, I1, q1⟩ := q
      exact ⟨σ1, H1, I1.ofTry ok, q1⟩
    | cont =>
      obtain ⟨σ1, H1, I1, q1⟩ := q
      exact ⟨σ1, H1, I1.ofTry ok, q1⟩
    | ret u =>
      obtain ⟨v1, σ1, H1, I1, r1, q1⟩ := q
      exact ⟨v1, σ1, H1, I1.ofTry ok, r1, q1⟩
  · rintro u s1 ⟨a, B, t0, pins1, σ1, H1, cls, d, rfl, I1, nb, up, sky, na, os, ag, hm, hw⟩
    have J := I1.ofTry ok
    have sky1 : L2.Sky B (X.env :: X.outer) a (L2N.Zn cls d) X.env.locals s1.heap := by
      rw [← hs]
      exact sky
    refine L2N.Sky.land L2N.Zn.steady fr hf sky1 fun h2 fl2 up2 => ?_
    have J2 := J.landed (s' := { s1 with heap := h2 }) nb fl2.1 (up.trans up2) os ag
    obtain ⟨oe2, vs2, he2, hz2, hd2⟩ := fl2.there
    have n1 : a ∉ frs (X.env :: X.outer) := no_frame fl2.2.2.1 he2 hd2
    have nL : a ≠ X.env.locals := fun z => n1 (List.mem_filterMap.mpr ⟨X.env, List.mem_cons_self, by rw [hf, z]⟩)
    have nF : a ∉ X.fs := fun hm => by
      obtain ⟨e, he, q⟩ := List.mem_filterMap.mp hm
      exact n1 (List.mem_filterMap.mpr ⟨e, List.mem_cons_of_mem _ he, q⟩)
    have S2 := J2.suite he2 hd2 na nL nF
    refine wpAny_handleBy_cons (codeAny_handlers_test ?_) (by intro q; cases q)
    have looks : PySem.W.Looks (model X.prog X.w) h2 (typeOf (.ref a)) cls := fun A Q E s k q => wpAny_typeOf_ref (k _ _ he2) (by rw [hz2.1]; exact q)
    have named : ∀ {Q : Value → Shared → Prop} {E : Value → Shared → Prop}, Q c { s1 with heap := h2 } → wpAny (model X.prog X.w) (X.A.mark (some (.ref a))) (eval (.Name x np) X.env) Q E { s1 with heap := h2 } := fun {Q E} q => by
      obtain ⟨g1, g2, g3 | ⟨g3, g4, g5⟩⟩ := hc
      · exact ld_glob (X := X.suite a ((a, oe2) :: (X.pn ++ pins))) S2 g1 g3 q g2
      · exact ld_blt (X := X.suite a ((a, oe2) :: (X.pn ++ pins))) S2 g1 g3 g4 q g5 g2
    refine named ((PySem.W.exm_one (M := model X.prog X.w) J2.kIn looks hm).here ?_)
    refine codeAny_handlers_suite (HandSPX.lands_againZ fl2 fun h3 fl3 up3 => ?_)
    have J3 := J.landed (s' := { s1 with heap := h3 }) nb fl3.1 ((up.trans up2).trans up3) os ag
    obtain ⟨oe, vs, he, hz, hd⟩ := fl3.there
    have hz3 := hz.2.2 vs hd
    have S3 := suiteX_of (J3.suite he hd na nL nF)
    refine wpAny_mono (E := X.xe) (Q := fun _ _ => False) ?_ (fun f s6 q => q.elim) (fun e6 s6 z => hpa (some (.ref a)) e6 s6 z)
    refine wpAny_execs_cons ?_
    show wpAny _ (X.A.mark (some (.ref a))) (do standAt rp; raiseStmt X.env (some (do let v ← eval (.Call (.Name y p) [.Constant (.str m) j p2] [] pos1) X.env; standAt rp; pure v)) (some (do let v ← eval (.Constant .none j2 cpos) X.env; standAt rp; pure v))) _ X.xe _
    refine wpAny_bind (wpAny_standAt (raise_made_hotN (x1 := a) (fun s2 Q2 q2 => wpAny_bind (Constant_none (wpAny_bind (wpAny_standAt (wpAny_pure q2))))) (wpAny_bind (wpAny_mono (made6 (X := suiteX X a ((a, oe) :: (X.pn ++ pins))) (Q := fun cls d G => cls = .ref C ∧ d = none ∧ G = H1) F hg hdb S3 ⟨rfl, rfl, rfl⟩) (fun u s4 hu => wpAny_bind (wpAny_standAt (wpAny_pure ?_))) fun _ _ x => x))))
    obtain ⟨⟨b, ob, ws, t1, G, cls2, d2, rfl, I4, k, nb4, hb, zb, db, w1, nG, os4, ag4, rs, rfl, rfl, rfl⟩, six⟩ := hu
    have hi := six b ob ws rfl hb db
    have pa := I4.pin (a, oe) (List.mem_append_left _ List.mem_cons_self)
    have nab : a ≠ b := fun z => by
      have g := pa.1
      rw [show ((a, oe) : Addr × Obj).1 = b from z, nb4] at g
      cases g
    have kept : ∀ c o, t1.heap.get? c = some o → (noneFrom s4.heap b).get? c = some o := fun c o e => by
      have nbc : b ≠ c := fun z => by
        rw [← z, nb4] at e
        cases e
      rw [noneFrom_other nbc]
      exact k c o e
    obtain ⟨r1, _⟩ := rs (model X.prog X.w) s4.heap (I4.kIn.keeps k)
    obtain ⟨_, r2⟩ := rs (model X.prog X.w) (noneFrom s4.heap b) (I4.kIn.keeps kept)
    obtain ⟨gb4, db4⟩ := noneFrom_at hb db
    have I5 : Inv X pins σ1 G t1 := unsuiteX I4 ok
    refine ⟨b, ob, ws, .ref C, rfl, hb, zb.1, db, w1, hi, nab, ⟨rfl, oe, vs, k _ _ pa.1, hd, hz3⟩, r1, r2, tk _ _ ?_⟩
    have one : (((ws.setIfInBounds 3 Value.none).setIfInBounds 4 (Value.bool true)).setIfInBounds 2 (Value.ref a))[1]? = some Value.none := set_other (by decide) (set_other (by decide) (set_other (by decide) w1))
    have two : (((ws.setIfInBounds 3 Value.none).setIfInBounds 4 (Value.bool true)).setIfInBounds 2 (Value.ref a))[2]? = some (Value.ref a) := by
      rw [Array.getElem?_setIfInBounds_self_of_lt]
      simp
      omega
    refine XE.new (s := t1) (cls := .ref C) (d := none) I5 (fun c o e => ?_) nb4 (Heap.get?_update_self _ gb4 (Obj.isFreed_of_fields (Obj.data_mapFields db4 _))) ⟨?_, ?_, fun vs5 e5 => ?_⟩ (Obj.data_mapFields db4 _) one nG os4 ag4 hw
    · have nbc : b ≠ c := fun z => by
        rw [← z, nb4] at e
        cases e
      show ((noneFrom s4.heap b).update b (Obj.mapFields (·.setIfInBounds 2 (.ref a)))).get? c = some o
      rw [Heap.get?_update_other _ _ nbc]
      exact kept c o e
    · rw [Obj.cls_mapFields, Obj.cls_mapFields, Obj.cls_mapFields]
      exact zb.1
    · rw [HandSPX.dict_mapFields, HandSPX.dict_mapFields, HandSPX.dict_mapFields]
      exact zb.2.1
    · rw [Obj.data_mapFields db4] at e5
      cases e5
      exact .inr ⟨a, oe, vs, two, PySem.W.hideAll_get _ pa.1 (by rw [hs]; exact n1), pa.2.1, hd, hz3⟩
end
section
variable {X : L2.Cx} {W : WX} {T : List (Addr × Str)} {δ : De} {ω : Om} {R : Out → Prop} {ss body : List Stmt} {c : Value} {C : Addr} {x y m : Str} {j j2 : Nat} {np p p2 pos1 cpos pos pos' rp : Pos}
/-- try: body; except x: raise y(..) from None -/
theorem sd_tryFrom (hb : ∀ pn xe W', L2N.Takes (X.tr pn xe) W' → SD (X.tr pn xe) W' T body δ ω (fun o => match o with
      | .ex Z ω' => PySem.W.exmOne X.K (.ref Z) c = some true ∧ R (.ex C ω')
      | o => Nxt X W T ss R o)) (hc : Names X x c) (tk : Takes X W) (hpa : ∀ hd : Option Value, PassesOwnAt (model X.prog X.w) (X.A.mark hd) X.A X.env X.xe) (F : ExcF X.K X.mg y C) (hg : Gl X y := by rfl) (hdb : (y == ("__debug__" : Str)) = false := by decide)
    (hs : X.stack = X.env :: X.outer := by rfl) (hf : X.env.frame = some X.env.locals := by rfl) :
    SD X W T (.Try body [.ExceptHandler (some (.Name x np)) none [.Raise (some (.Call (.Name y p) [.Constant (.str m) j p2] [] pos1)) (some (.Constant .none j2 cpos)) rp] pos'] [] [] pos :: ss) δ ω R :=
  sd_cons fun σ H D rl t k => ws (ps_tryFrom hs hf hc hpa tk F hg hdb) fun pn xe tk' => hb pn xe _ tk' σ H D rl t ⟨k.nx, k.rt, fun Z ω' σ' H' z st r => ⟨z.1, k.ex C ω' σ' H' z.2 st r⟩, k.bk, k.ct⟩
end
end LC

namespace FP
open PySem PySem.Spec PyProof.Rows L2
section
variable {X : Cx} {W : WX} {T : List (Addr × Str)} {δ : De} {ω : Om} {es : List Expr} {ds : List PyData} {pos : Pos} {x : Str} {R : Out → Prop} {ss : List Stmt}
/-- x = x + [..], a list of one's own and what is told: a new one -/
theorem sd_catx (i : Nat) {pos' lpos p1 bpos : Pos} {D : Addr} {xs : List PyData} (he : PXs X T δ (omD ω D (.lst (xs.map .im))) es ds) (hk : ∀ D2, SD X W T ss (δ.set i (some (.ad D2))) (omD (omD ω D (.lst (xs.map .im))) D2 (.lst ((xs ++ ds).map .im))) R) (hz : xs.length + ds.length ≤ 1000) (hN : X.N.Nodup)
    (hd : δ[i]? = some (some (.ad D)) := by rfl) (hi : X.N[i]? = some x := by rfl) (hv : Vis X.env.scope x := by first | exact Or.inl rfl | exact Or.inr (Or.inl rfl) | exact Or.inr (Or.inr rfl))
    (h1 : (x == ("__debug__" : Str)) = false := by decide) (h2 : (x == ("__classdict__" : Str)) = false := by decide) (hx : Loc X.env.scope x := by first | exact Or.inl rfl | exact Or.inr rfl)
    (hs : swapsWith (.BinOp (.Name x p1) .Add (.List es lpos) bpos) (some (.Name x pos')) pos.line X.env = pure false := by rfl) (hf : X.fn x = true ∨ X.env.scope.names.lookup x = some .local := by first | exact .inl rfl | exact .inr rfl | assumption) :
    SD X W T (.Assign [.Name x pos'] (.BinOp (.Name x p1) .Add (.List es lpos) bpos) pos :: ss) δ (omD ω D (.lst (xs.map .im))) R :=
  sd_cons fun σ H Dd rl t k => ws (ps_set hN hi hx (pe_op op_catQ (pe_var hi hv h1 h2) (pe_lst pa_w)) hs hf) (by
    obtain ⟨v, e1, e2⟩ := rl.sl i _ hd
    have e2 : v = .ref D := e2
    subst e2
    refine ⟨_, e1, he σ H rl t _ fun vs H1 s1 l1 d1 => ⟨Nat.le_of_lt (small1000 (by rw [dpa_len d1]; omega)), fun q hq => ?_⟩⟩
    have sm : Same H1 (upd H1 q (.lst vs)) := same_new hq
    have l2 := l1.mono sm
    obtain ⟨us, g1, g2⟩ := l2.ro.ob D _ List.mem_cons_self
    have g3 := dpa_im g2
    have d2 : DpAll X.K (hid (ads (omD ω D (.lst (xs.map .im)))) (upd H1 q (.lst vs))) vs ds := dpam (hid_same sm) d1
    have lu := dpa_len g3
    have lv := dpa_len d2
    refine ⟨D, q, us, vs, rfl, rfl, SqL.of g1, SqL.of upd_same, by rw [sizeLine_eq]; omega, fun p hp => ?_⟩
    have sm2 : Same (upd H1 q (.lst vs)) (upd (upd H1 q (.lst vs)) p (.lst (us ++ vs))) := same_new hp
    have l3 := l2.omD (xs := xs ++ ds) hp sm2 upd_same (dpam (hid_in hp sm2) (dpa_app g3 d2))
    exact k.nx _ _ _ _ (hk p) ((s1.trans (.of sm)).trans (stp_new sm2 hp)) (l3.set (x := .ad p) (v := .ref p) rfl))
end
end FP
namespace LC
open PySem PySem.Spec PyProof.Rows L2 HotX FP L2H
section
variable {X : L2.Cx} {T : List (Addr × Str)} {δ : De} {ω : Om} {d : PyData} {pos p : Pos} {k : Nat}
theorem px_toldC {x a e n wd : Str} {st : Stmt} {Ng : List Str} {CS : Addr} {fw : Addr → PyData → Prop} {r : Rs} {p1 p2 p3 p4 p5 p6 p7 p8 p9 p10 lpos : Pos} {params : Arguments} {body : Expr} {scope : Scope} (G : Told X.K X.mg x st) (L : LamT X T) (hT : T ≠ []) (hps : ω.ps = []) (hr : Room (k + 2) X.A)
    (WK : Word2 X.prog X.w X.K X.mg X.base (k + 1) wd fw)
    (hst : defBody st = [.Try [.Return (some (.Call (.Name a p1) [] [] p2)) p3] [.ExceptHandler (some (.Name e p4)) (some n) [.Return (some (.Call (.Name wd p5) [.Name n p6] [] p7)) p8] p9] [] [] p10]) (S : FnScope Ng [a] (defScope st)) (hNd : Ng.Nodup) (hNg : Ng[0]? = some a) (hva : Vis (defScope st) a)
    (hN1 : Ng[1]? = some n) (hkn : (defScope st).names.lookup n = some .local) (hge : (defScope st).names.lookup e = some .globalImplicit) (hgw : (defScope st).names.lookup wd = some .globalImplicit) (hme : X.mg e = some (.ref CS))
    (hbn : ∀ (kV doc pm : Value) (an : Option Addr) (cdv ct : Value) (us : List Value), us.length = [a].length → bindArgs (PySem.W.fnOf x x (defArgs st) (defBody st) (defScope st) .none kV doc pm an cdv ct) ⟨us, []⟩ = pure ([a].zip us))
    (hb : ∀ (A : Around) (outer : List Env) (s : Shared) (H : Hp) (E : XK) (f c' : Addr), Room k (A.deeper (LamX.lamEnv X scope s.heap.objs.size f c')) → PR (lamC X A outer s H E scope f c') (WOf E) δ ω body r)
    (hd : ToldD X.K CS fw d r) (hL : LamX.LamS X.env.scope scope) (hdef : defaultsOf params X.env = ([], []) := by rfl) (hbind : ∀ (q : Str) (cl : List (Str × Addr)) (pm cv ctv : Value), bindArgs (PySem.W.kla_fn "<lambda>" q params body scope cl pm cv ctv) ⟨[], []⟩ = pure [] := by intros; rfl)
    (hg : Gl X x := by rfl) (hdb : (x == ("__debug__" : Str)) = false := by decide) (hd1 : (a == ("__debug__" : Str)) = false := by decide) (hcd1 : (a == ("__classdict__" : Str)) = false := by decide) (hde : (e == ("__debug__" : Str)) = false := by decide) (hdw : (wd == ("__debug__" : Str)) = false := by decide)
    (hdn : (n == ("__debug__" : Str)) = false := by decide) (hcn : (n == ("__classdict__" : Str)) = false := by decide) : PX X T δ ω (.Call (.Name x p) [.Lambda params body scope lpos] [] pos) d := fun σ H rl t Q q => by
  have yx : ∀ (A : Around) (outer : List Env) (s : Shared) (H : Hp) (E : XK) (f c' : Addr), Room k (A.deeper (LamX.lamEnv X scope s.heap.objs.size f c')) → YX (lamC X A outer s H E scope f c') (WOf E) T δ ω body (fun r ω1 => match r with | .ok (.im d2) => d2 = d ∧ ω1 = ω | .ok (.ad _) => False | .er Z => PySem.W.exmOne X.K (.ref Z) (.ref CS) = some true ∧ ∃ d2, fw Z d2 ∧ d2 = d ∧ ω1 = ω) := fun A outer s H E f c' hr' => PR.yx (hb A outer s H E f c' hr') (by
    cases r with
    | ok d2 => exact ⟨hd, rfl⟩
    | er Z => exact ⟨hd.2, d, hd.1, rfl, rfl⟩)
  exact ze_toldC (Rz := fun d2 ω1 => d2 = d ∧ ω1 = ω) G L hT hps hr WK hst S hNd hNg hva hN1 hkn hge hgw hme hbn yx hL hdef hbind hg hdb hd1 hcd1 hde hdw hdn hcn σ H rl t Q fun d2 ω1 v H' z s l dv => by
    obtain ⟨rfl, rfl⟩ := z
    exact q v H' s l dv
end
end LC

namespace K93
open PySem PySem.Spec PyProof.Rows L2 FP
structure Bl (mg : Str → Option Value) : Prop where
  len : mg "len" = none
  range : mg "range" = none
  isi : mg "isinstance" = none
  int : mg "int" = none
  bool : mg "bool" = none
  str : mg "str" = none
  tuple : mg "tuple" = none
  all : mg "all" = none
  ord : mg "ord" = none
  min : mg "min" = none
  max : mg "max" = none
def isWhole : PyData → Bool
  | .int _ => true
  | _ => false
def isWithin (d : PyData) (lo hi : Int) : Bool := match d with
  | .int i => decide (lo ≤ i) && decide (i ≤ hi)
  | _ => false
def isTupleOf (d : PyData) (n : Int) : Bool := match d with
  | .tuple ds => decide ((ds.length : Int) = n)
  | _ => false
def okSign (c : Nat) : Bool := (decide (32 ≤ c) && decide (c ≤ 126)) && !decide (c = 37)
def areSigns (d : PyData) : Bool := match d with
  | .str z => z.cps.toList.all okSign
  | _ => false
def isSign (d : PyData) : Bool := match d with
  | .str z => z.cps.toList.all okSign && decide (z.length = 1)
  | _ => false
def isCell (d : PyData) : Bool := match d with
  | .tuple [a, b] => isSign a && isWithin b 0 7
  | _ => false
def isI : PyData → Bool
  | .int _ => true
  | .bool _ => true
  | _ => false
def isB : PyData → Bool
  | .bool _ => true
  | _ => false
def isS : PyData → Bool
  | .str _ => true
  | _ => false
def isT : PyData → Bool
  | .tuple _ => true
  | _ => false
def isL : PyData → Bool
  | .list _ => true
  | _ => false
theorem k_int : ∀ d : PyData, kitB (kindD d) "int" = some (isI d)
  | .none => (by decide +kernel : kitB "NoneType" "int" = some false)
  | .bool _ => (by decide +kernel : kitB "bool" "int" = some true)
  | .int _ => (by decide +kernel : kitB "int" "int" = some true)
  | .str _ => (by decide +kernel : kitB "str" "int" = some false)
  | .list _ => (by decide +kernel : kitB "list" "int" = some false)
  | .tuple _ => (by decide +kernel : kitB "tuple" "int" = some false)
  | .dict _ => (by decide +kernel : kitB "dict" "int" = some false)
theorem k_bool : ∀ d : PyData, kitB (kindD d) "bool" = some (isB d)
  | .none => (by decide +kernel : kitB "NoneType" "bool" = some false)
  | .bool _ => (by decide +kernel : kitB "bool" "bool" = some true)
  | .int _ => (by decide +kernel : kitB "int" "bool" = some false)
  | .str _ => (by decide +kernel : kitB "str" "bool" = some false)
  | .list _ => (by decide +kernel : kitB "list" "bool" = some false)
  | .tuple _ => (by decide +kernel : kitB "tuple" "bool" = some false)
  | .dict _ => (by decide +kernel : kitB "dict" "bool" = some false)
theorem k_str : ∀ d : PyData, kitB (kindD d) "str" = some (isS d)
  | .none => (by decide +kernel : kitB "NoneType" "str" = some false)
  | .bool _ => (by decide +kernel : kitB "bool" "str" = some false)
  | .int _ => (by decide +kernel : kitB "int" "str" = some false)
  | .str _ => (by decide +kernel : kitB "str" "str" = some true)
  | .list _ => (by decide +kernel : kitB "list" "str" = some false)
  | .tuple _ => (by decide +kernel : kitB "tuple" "str" = some false)
  | .dict _ => (by decide +kernel : kitB "dict" "str" = some false)
theorem k_tuple : ∀ d : PyData, kitB (kindD d) "tuple" = some (isT d)
  | .none => (by decide +kernel : kitB "NoneType" "tuple" = some false)
  | .bool _ => (by decide +kernel : kitB "bool" "tuple" = some false)
  | .int _ => (by decide +kernel : kitB "int" "tuple" = some false)
  | .str _ => (by decide +kernel : kitB "str" "tuple" = some false)
  | .list _ => (by decide +kernel : kitB "list" "tuple" = some false)
  | .tuple _ => (by decide +kernel : kitB "tuple" "tuple" = some true)
  | .dict _ => (by decide +kernel : kitB "dict" "tuple" = some false)
theorem k_list : ∀ d : PyData, kitB (kindD d) "list" = some (isL d)
  | .none => (by decide +kernel : kitB "NoneType" "list" = some false)
  | .bool _ => (by decide +kernel : kitB "bool" "list" = some false)
  | .int _ => (by decide +kernel : kitB "int" "list" = some false)
  | .str _ => (by decide +kernel : kitB "str" "list" = some false)
  | .list _ => (by decide +kernel : kitB "list" "list" = some true)
  | .tuple _ => (by decide +kernel : kitB "tuple" "list" = some false)
  | .dict _ => (by decide +kernel : kitB "dict" "list" = some false)
theorem bb_int : bootBuiltins "int" = some (.type "int") := by decide +kernel
theorem bb_bool : bootBuiltins "bool" = some (.type "bool") := by decide +kernel
theorem bb_str : bootBuiltins "str" = some (.type "str") := by decide +kernel
theorem bb_tuple : bootBuiltins "tuple" = some (.type "tuple") := by decide +kernel
theorem bb_list : bootBuiltins "list" = some (.type "list") := by decide +kernel
section
variable {P : Program} {w : World} {K : PySem.W.Frag} {mg : Str → Option Value} {base : Heap} {f : Addr} {fd : FuncData}
abbrev Df (K : PySem.W.Frag) (x : Str) (st : Stmt) (f : Addr) (fd : FuncData) : Prop := FunD K x x (defArgs st) (defBody st) (defScope st) [] [] f fd
def frWhole : List PyData → Rs → Prop := fun ds r => ∃ d, ds = [d] ∧ r = .ok (.bool (isWhole d))
theorem sc_whole : FnScope ["value"] ["value"] (defScope s_is_whole) := ⟨rfl, rfl, rfl, by decide +kernel, rfl, by decide +kernel, by decide +kernel⟩
theorem ok_whole (F : Df K "is_whole" s_is_whole f fd) (hm : mg "is_whole" = some (.ref f)) (B : Bl mg) : DefOk P w K mg base 1 "is_whole" frWhole := by
  refine def_ok F hm sc_whole (fun _ _ _ _ _ _ us hl => match us, hl with | [_], _ => rfl) (fun ds r h => by obtain ⟨d, rfl, _⟩ := h; rfl) (fun cdv A outer s H E qs ds r hr h => ?_)
  obtain ⟨d, rfl, rfl⟩ := h
  refine sd_ret (pd_and (pd_isi B.isi B.int bb_int (pd_var 0) (k_int d)) (fun _ => pd_one (pd_not (pd_isi B.isi B.bool bb_bool (pd_var 0) (k_bool d))))) ?_
  cases d <;> rfl
def frWithin : List PyData → Rs → Prop := fun ds r => ∃ d lo hi, ds = [d, .int lo, .int hi] ∧ r = .ok (.bool (isWithin d lo hi))
theorem sc_within : FnScope ["value", "least", "most"] ["value", "least", "most"] (defScope s_is_within) := ⟨rfl, rfl, rfl, by decide +kernel, rfl, by decide +kernel, by decide +kernel⟩
theorem ok_within (F : Df K "is_within" s_is_within f fd) (hm : mg "is_within" = some (.ref f)) (G1 : DefOk P w K mg base 1 "is_whole" frWhole) : DefOk P w K mg base 2 "is_within" frWithin := by
  refine def_ok F hm sc_within (fun _ _ _ _ _ _ us hl => match us, hl with | [_, _, _], _ => rfl) (fun ds r h => by obtain ⟨d, lo, hi, rfl, _⟩ := h; rfl) (fun cdv A outer s H E qs ds r hr h => ?_)
  obtain ⟨d, lo, hi, rfl, rfl⟩ := h
  cases hd : isWhole d with
  | false =>
    refine sd_ret (pd_andF (pd_call G1 hr (pds_cons (pd_var 0) pds_nil) ⟨d, rfl, by rw [hd]⟩)) ?_
    cases d <;> first | exact rfl | cases hd
  | true =>
    obtain ⟨i, rfl⟩ : ∃ i, d = .int i := by
      cases d <;> first | exact ⟨_, rfl⟩ | cases hd
    refine sd_ret (pd_and (pd_call G1 hr (pds_cons (pd_var 0) pds_nil) ⟨_, rfl, rfl⟩) (fun _ => pd_one (pd_chain op_le op_le rd_B0 (fun _ => rd_B0) (pd_var 1) (pd_var 0) (fun _ => pd_var 2)))) ?_
    exact rfl
def frTupleOf : List PyData → Rs → Prop := fun ds r => ∃ d n, ds = [d, .int n] ∧ r = .ok (.bool (isTupleOf d n))
theorem sc_tupleof : FnScope ["value", "many"] ["value", "many"] (defScope s_is_tuple_of) := ⟨rfl, rfl, rfl, by decide +kernel, rfl, by decide +kernel, by decide +kernel⟩
theorem ok_tupleof (F : Df K "is_tuple_of" s_is_tuple_of f fd) (hm : mg "is_tuple_of" = some (.ref f)) (B : Bl mg) : DefOk P w K mg base 1 "is_tuple_of" frTupleOf := by
  refine def_ok F hm sc_tupleof (fun _ _ _ _ _ _ us hl => match us, hl with | [_, _], _ => rfl) (fun ds r h => by obtain ⟨d, n, rfl, _⟩ := h; rfl) (fun cdv A outer s H E qs ds r hr h => ?_)
  obtain ⟨d, n, rfl, rfl⟩ := h
  by_cases hd : ∃ ds, d = .tuple ds
  · obtain ⟨ds, rfl⟩ := hd
    refine sd_ret (pd_and (pd_isi B.isi B.tuple bb_tuple (pd_var 0) (k_tuple _)) (fun _ => pd_one (pd_eqI (pd_lenT B.len (pd_var 0)) (pd_var 1)))) ?_
    exact rfl
  · have hk : kitB (kindD d) "tuple" = some false := by
      rw [k_tuple]
      cases d <;> first | rfl | exact absurd ⟨_, rfl⟩ hd
    refine sd_ret (pd_andF (pd_isi B.isi B.tuple bb_tuple (pd_var 0) hk)) ?_
    cases d <;> first | exact rfl | exact absurd ⟨_, rfl⟩ hd
def frSigns : List PyData → Rs → Prop := fun ds r => ∃ d, ds = [d] ∧ r = .ok (.bool (areSigns d)) ∧ ∀ z, d = .str z → z.length ≤ 1000
theorem sc_signs : FnScope ["value", "sign"] ["value"] (defScope s_are_signs) := ⟨rfl, rfl, rfl, by decide +kernel, rfl, by decide +kernel, by decide +kernel⟩
theorem rd_leS {K : PySem.W.Frag} {y z : Str} : RD K (fun x y H Q => ∃ i j, x = .str i ∧ y = .str j ∧ Q (.bl (!decide (j.cps.toList < i.cps.toList))) H) (.str y) (.str z) (.bool (!decide (z.cps.toList < y.cps.toList))) := fun ps x w H t hx hy Q q => by
  cases hx
  cases hy
  exact ⟨y, z, rfl, rfl, q _ H (Same.refl H) (.bl _)⟩
theorem le_one (a b : Nat) : (!decide (([b] : List Nat) < [a])) = decide (a ≤ b) := by
  by_cases h : a ≤ b
  · rw [decide_eq_true h, decide_eq_false]
    · rfl
    · intro z
      simp only [List.cons_lt_cons_iff] at z
      rcases z with z | ⟨_, z⟩
      · omega
      · exact absurd z (by simp)
  · rw [decide_eq_false h, decide_eq_true]
    · rfl
    · simp only [List.cons_lt_cons_iff]
      left
      omega
theorem ok_signs (F : Df K "are_signs" s_are_signs f fd) (hm : mg "are_signs" = some (.ref f)) (B : Bl mg) (hp : GlD K mg "PERCENT" (.int 37)) : DefOk P w K mg base 1 "are_signs" frSigns := by
  refine def_ok F hm sc_signs (fun _ _ _ _ _ _ us hl => match us, hl with | [_], _ => rfl) (fun ds r h => by obtain ⟨d, rfl, _⟩ := h; rfl) (fun cdv A outer s H E qs ds r hr h => ?_)
  obtain ⟨d, rfl, rfl, hz⟩ := h
  by_cases hd : ∃ z, d = .str z
  · obtain ⟨z, rfl⟩ := hd
    refine sd_ifF (pt_notd (k := true) (pt_bool (pd_isi B.isi B.str bb_str (pd_var 0) (k_str _)))) ?_
    have hl : (signsD z).length = z.length := by
      unfold signsD
      rw [List.length_map, Array.length_toList]
      rfl
    refine sd_ret (d := .bool ((z.cps.toList.map okSign).all id)) (pd_all rfl B.all (PN.pl (pn_lc (y := "sign") (j := 1) (items := signsD z) rfl sc_signs.nd (PWk.ws (wk_str (pd_var 0))) ?_ (blkOk_by (N := ["value", "sign"]) (sc := defScope s_are_signs) (by decide +kernel)) (fun _ _ _ _ _ => pg_name sc_signs.nd rfl (Or.inl rfl)) ?_ (by rw [hl]; exact Nat.le_trans (hz z rfl) (by decide))))) ?_
    · unfold signsD
      rw [List.length_map, List.length_map, List.length_map]
    · intro i d y hd hy D o s H C cl fp
      unfold signsD at hd
      rw [List.getElem?_map] at hd
      rw [List.getElem?_map, List.getElem?_map] at hy
      cases hc : z.cps.toList[i]? with
      | none =>
        rw [hc] at hd
        cases hd
      | some c =>
        rw [hc] at hd hy
        cases hd
        cases hy
        refine PD.eq (pd_and (pd_chain op_le_str op_le_str rd_leS (fun _ => rd_leS) pd_str (pd_var 1) (fun _ => pd_str)) (fun _ => pd_one (pd_neI (pd_ord B.ord (pd_var 1) rfl rfl) (pd_glob hp)))) ?_
        show PyData.bool ((!decide (([c] : List Nat) < [32]) && !decide (([126] : List Nat) < [c])) && !decide (((c : Nat) : Int) = 37)) = PyData.bool (okSign c)
        rw [le_one, le_one]
        unfold okSign
        have e : decide (((c : Nat) : Int) = 37) = decide (c = 37) := by
          by_cases h : c = 37
          · rw [decide_eq_true h, decide_eq_true (by omega)]
          · rw [decide_eq_false h, decide_eq_false (by omega)]
        rw [e]
    · show Rs.ok (.bool (z.cps.toList.all okSign)) = Rs.ok (.bool _)
      rw [List.all_map]
      rfl
  · have hk : kitB (kindD d) "str" = some false := by
      rw [k_str]
      cases d <;> first | rfl | exact absurd ⟨_, rfl⟩ hd
    refine sd_ifT (pt_notd (k := false) (pt_bool (pd_isi B.isi B.str bb_str (pd_var 0) hk))) (sd_ret pd_bl ?_)
    cases d <;> first | exact rfl | exact absurd ⟨_, rfl⟩ hd
end
end K93

namespace K93
open PySem PySem.Spec PyProof.Rows L2 FP
def smS (d : PyData) : Prop := ∀ z, d = .str z → z.length ≤ 1000
def smC (d : PyData) : Prop := ∀ ds, d = .tuple ds → ∀ x ∈ ds, smS x
def smR (d : PyData) : Prop := ∀ ds, d = .tuple ds → ds.length ≤ 1000 ∧ ∀ x ∈ ds, smC x
def smRs (d : PyData) : Prop := ∀ ds, d = .tuple ds → ds.length ≤ 1000 ∧ ∀ x ∈ ds, smR x
def smF (d : PyData) : Prop := ∀ ds, d = .tuple ds → ∀ x ∈ ds, smRs x
def lenT : PyData → Nat
  | .tuple ds => ds.length
  | _ => 0
def itemsT : PyData → List PyData
  | .tuple ds => ds
  | _ => []
def okSize (h w : PyData) : Bool := isWithin h 1 10 && isWithin w 1 20
def okRow (n : Nat) (c : PyData) : Bool := decide (lenT c = n) && (itemsT c).all isCell
def isRows (d : PyData) : Bool := match d with
  | .tuple (r0 :: rs) => (r0 :: rs).all isT && (okSize (.int (rs.length + 1 : Nat)) (.int (lenT r0 : Nat)) && (r0 :: rs).all (okRow (lenT r0)))
  | _ => false
def isFace (d : PyData) : Bool := match d with
  | .tuple [rows, row, col] => isRows rows && (isWithin row 0 ((lenT rows : Int) - 1) && isWithin col 0 ((lenT ((itemsT rows).headD .none) : Int) - 1))
  | _ => false
section
variable {P : Program} {w : World} {K : PySem.W.Frag} {mg : Str → Option Value} {base : Heap} {f C : Addr} {fd : FuncData}
def frSign : List PyData → Rs → Prop := fun ds r => ∃ d, ds = [d] ∧ r = .ok (.bool (isSign d)) ∧ smS d
theorem sc_sign : FnScope ["value"] ["value"] (defScope s_is_sign) := ⟨rfl, rfl, rfl, by decide +kernel, rfl, by decide +kernel, by decide +kernel⟩
theorem ok_sign (F : Df K "is_sign" s_is_sign f fd) (hm : mg "is_sign" = some (.ref f)) (B : Bl mg) (G1 : DefOk P w K mg base 1 "are_signs" frSigns) : DefOk P w K mg base 2 "is_sign" frSign := by
  refine def_ok F hm sc_sign (fun _ _ _ _ _ _ us hl => match us, hl with | [_], _ => rfl) (fun ds r h => by obtain ⟨d, rfl, _⟩ := h; rfl) (fun cdv A outer s H E qs ds r hr h => ?_)
  obtain ⟨d, rfl, rfl, hz⟩ := h
  by_cases hd : ∃ z, d = .str z
  · obtain ⟨z, rfl⟩ := hd
    refine sd_ret (pd_and (pd_call G1 hr (pds_cons (pd_var 0) pds_nil) ⟨_, rfl, rfl, hz⟩) (fun _ => pd_one (pd_eqI (pd_lenS B.len (pd_var 0) (Nat.le_trans (hz z rfl) (by decide))) pd_int))) ?_
    show Rs.ok (.bool (z.cps.toList.all okSign && decide (z.length = 1))) = Rs.ok (.bool (z.cps.toList.all okSign && decide (((z.length : Nat) : Int) = 1)))
    have e : decide (((z.length : Nat) : Int) = 1) = decide (z.length = 1) := by
      by_cases h : z.length = 1
      · rw [decide_eq_true h, decide_eq_true (by omega)]
      · rw [decide_eq_false h, decide_eq_false (by omega)]
    rw [e]
  · have e1 : areSigns d = false := by cases d <;> first | rfl | exact absurd ⟨_, rfl⟩ hd
    refine sd_ret (pd_andF (pd_call G1 hr (pds_cons (pd_var 0) pds_nil) ⟨_, rfl, by rw [e1], hz⟩)) ?_
    cases d <;> first | exact rfl | exact absurd ⟨_, rfl⟩ hd
def frCell : List PyData → Rs → Prop := fun ds r => ∃ d, ds = [d] ∧ r = .ok (.bool (isCell d)) ∧ smC d
theorem sc_cell : FnScope ["cell"] ["cell"] (defScope s_is_cell) := ⟨rfl, rfl, rfl, by decide +kernel, rfl, by decide +kernel, by decide +kernel⟩
theorem two_of {d : PyData} (h : isTupleOf d 2 = true) : ∃ a b, d = .tuple [a, b] := by
  cases d with
  | tuple ds =>
    have e : (ds.length : Int) = 2 := of_decide_eq_true h
    match ds, e with
    | [a, b], _ => exact ⟨a, b, rfl⟩
    | [], e => exact absurd e (by simp)
    | [_], e => exact absurd e (by simp)
    | _ :: _ :: _ :: r, e => exact absurd e (by simp only [List.length_cons]; omega)
  | _ => cases h
theorem ok_cell (F : Df K "is_cell" s_is_cell f fd) (hm : mg "is_cell" = some (.ref f)) (G1 : DefOk P w K mg base 1 "is_tuple_of" frTupleOf) (G2 : DefOk P w K mg base 2 "is_sign" frSign) (G3 : DefOk P w K mg base 2 "is_within" frWithin) (gi : GlD K mg "MOST_INK" (.int 7)) :
    DefOk P w K mg base 3 "is_cell" frCell := by
  refine def_ok F hm sc_cell (fun _ _ _ _ _ _ us hl => match us, hl with | [_], _ => rfl) (fun ds r h => by obtain ⟨d, rfl, _⟩ := h; rfl) (fun cdv A outer s H E qs ds r hr h => ?_)
  obtain ⟨d, rfl, rfl, hz⟩ := h
  cases ht : isTupleOf d 2 with
  | false =>
    refine sd_ret (pd_andF (pd_call (G1.mono (by decide)) hr (pds_cons (pd_var 0) (pds_cons pd_int pds_nil)) ⟨_, _, rfl, by rw [ht]⟩)) ?_
    have e : isCell d = false := by
      cases d with
      | tuple ds => match ds, ht with
        | [a, b], ht => cases ht
        | [], _ => rfl
        | [_], _ => rfl
        | _ :: _ :: _ :: _, _ => rfl
      | _ => rfl
    show Rs.ok (.bool (isCell d)) = _
    rw [e]
  | true =>
    obtain ⟨a, b, rfl⟩ := two_of ht
    refine sd_ret (pd_and (pd_call (G1.mono (by decide)) hr (pds_cons (pd_var 0) (pds_cons pd_int pds_nil)) ⟨_, _, rfl, rfl⟩) (fun _ =>
      pd_and (pd_call G2 hr (pds_cons (pd_ixT (d := a) (pd_var 0) pd_int rfl) pds_nil) ⟨_, rfl, rfl, hz _ rfl a (by simp)⟩) (fun _ =>
      pd_one (pd_call G3 hr (pds_cons (pd_ixT (d := b) (pd_var 0) pd_int rfl) (pds_cons pd_int (pds_cons (pd_glob gi) pds_nil))) ⟨_, _, _, rfl, rfl⟩)))) ?_
    exact rfl
def frSize (C : Addr) : List PyData → Rs → Prop := fun ds r => ∃ h w, ds = [h, w] ∧ r = if okSize h w then .ok .none else .er C
theorem sc_size : FnScope ["height", "width"] ["height", "width"] (defScope s_need_size) := ⟨rfl, rfl, rfl, by decide +kernel, rfl, by decide +kernel, by decide +kernel⟩
theorem ok_size (F : Df K "need_size" s_need_size f fd) (hm : mg "need_size" = some (.ref f)) (X1 : ExcF K mg "BadFace" C) (G1 : DefOk P w K mg base 2 "is_within" frWithin) (g1 : GlD K mg "MOST_ROWS" (.int 10)) (g2 : GlD K mg "MOST_COLUMNS" (.int 20)) :
    DefOk P w K mg base 3 "need_size" (frSize C) := by
  refine def_ok F hm sc_size (fun _ _ _ _ _ _ us hl => match us, hl with | [_, _], _ => rfl) (fun ds r h => by obtain ⟨_, _, rfl, _⟩ := h; rfl) (fun cdv A outer s H E qs ds r hr h => ?_)
  obtain ⟨a, b, rfl, rfl⟩ := h
  cases h1 : isWithin a 1 10 with
  | false =>
    refine sd_ifT (pt_notd (k := false) (pt_bool (pd_call G1 hr (pds_cons (pd_var 0) (pds_cons pd_int (pds_cons (pd_glob g1) pds_nil))) ⟨_, _, _, rfl, by rw [h1]⟩))) (sd_raise X1 (L2N.takes_of rfl rfl rfl rfl) ?_ rfl)
    show (if okSize a b = true then Rs.ok .none else Rs.er C) = Rs.er C
    unfold okSize
    rw [h1]
    rfl
  | true =>
    refine sd_ifF (pt_notd (k := true) (pt_bool (pd_call G1 hr (pds_cons (pd_var 0) (pds_cons pd_int (pds_cons (pd_glob g1) pds_nil))) ⟨_, _, _, rfl, by rw [h1]⟩))) ?_
    cases h2 : isWithin b 1 20 with
    | false =>
      refine sd_ifT (pt_notd (k := false) (pt_bool (pd_call G1 hr (pds_cons (pd_var 1) (pds_cons pd_int (pds_cons (pd_glob g2) pds_nil))) ⟨_, _, _, rfl, by rw [h2]⟩))) (sd_raise X1 (L2N.takes_of rfl rfl rfl rfl) ?_ rfl)
      show (if okSize a b = true then Rs.ok .none else Rs.er C) = Rs.er C
      unfold okSize
      rw [h1, h2]
      rfl
    | true =>
      refine sd_ifF (pt_notd (k := true) (pt_bool (pd_call G1 hr (pds_cons (pd_var 1) (pds_cons pd_int (pds_cons (pd_glob g2) pds_nil))) ⟨_, _, _, rfl, by rw [h2]⟩))) (sd_nil ?_)
      show (if okSize a b = true then Rs.ok .none else Rs.er C) = Rs.ok .none
      unfold okSize
      rw [h1, h2]
      rfl
def frRows (C : Addr) : List PyData → Rs → Prop := fun ds r => ∃ d, ds = [d] ∧ (r = if isRows d then .ok .none else .er C) ∧ smRs d
theorem sc_rows : FnScope ["rows", "cells", "cell"] ["rows"] (defScope s_need_rows) := ⟨rfl, rfl, rfl, by decide +kernel, rfl, by decide +kernel, by decide +kernel⟩
theorem isT_of {d : PyData} (h : isT d = true) : ∃ ds, d = .tuple ds := by
  cases d with
  | tuple ds => exact ⟨ds, rfl⟩
  | _ => cases h
theorem ok_rows (F : Df K "need_rows" s_need_rows f fd) (hm : mg "need_rows" = some (.ref f)) (B : Bl mg) (X1 : ExcF K mg "BadFace" C) (G1 : DefOk P w K mg base 3 "need_size" (frSize C)) (G2 : DefOk P w K mg base 3 "is_cell" frCell) :
    DefOk P w K mg base 4 "need_rows" (frRows C) := by
  refine def_ok F hm sc_rows (fun _ _ _ _ _ _ us hl => match us, hl with | [_], _ => rfl) (fun ds r h => by obtain ⟨_, rfl, _⟩ := h; rfl) (fun cdv A outer s H E qs ds r hr h => ?_)
  obtain ⟨d, rfl, er, hz⟩ := h
  have tk : L2N.Takes (cxOf (L2N.CX P w) P w K mg base ["rows", "cells", "cell"] "need_rows" (defScope s_need_rows) f cdv A outer s H E) (WOf E) := L2N.takes_of rfl rfl rfl rfl
  by_cases hd : ∃ rs, d = .tuple rs
  · obtain ⟨rs, rfl⟩ := hd
    obtain ⟨hz1, hz2⟩ := hz rs rfl
    have eall : (rs.map isT).all id = rs.all isT := by rw [List.all_map]; rfl
    refine sd_if (PWd.pt (pw_ord (pt_notd (pt_bool (pd_isi B.isi B.tuple bb_tuple (pd_var 0) (k_tuple _)))) (fun _ => pw_or1d (pt_notd (pt_bool (pd_all (bs := rs.map isT) rfl B.all
      (PN.pl (pn_lc (y := "cells") (j := 1) (items := rs) rfl sc_rows.nd (PWk.ws (wk_tup (pd_var 0))) (by rw [List.length_map, List.length_map]) (blkOk_by (N := ["rows", "cells", "cell"]) (sc := defScope s_need_rows) (by decide +kernel)) (fun _ _ _ _ _ => pg_name sc_rows.nd rfl (Or.inl rfl)) ?el (Nat.le_trans hz1 (by decide)))))))))) (fun hk => ?raise) (fun hk => sd_nil ?rest)
    case el =>
      intro i d y hd hy D o s H C cl fp
      rw [List.getElem?_map, List.getElem?_map, hd] at hy
      cases hy
      exact pd_isi B.isi B.tuple bb_tuple (pd_var 1) (k_tuple d)
    case raise =>
      rw [eall] at hk
      have hk2 : rs.all isT = false := by
        have : (false || !rs.all isT) = true := hk
        cases h : rs.all isT with
        | false => rfl
        | true => rw [h] at this; cases this
      refine sd_raise X1 tk ?_ rfl
      show r = Rs.er C
      rw [er]
      have e : isRows (.tuple rs) = false := by
        cases rs with
        | nil => rfl
        | cons r0 rs =>
          show ((r0 :: rs).all isT && _) = false
          rw [hk2]
          rfl
      rw [e]
      rfl
    case rest =>
      rw [eall] at hk
      have hk2 : rs.all isT = true := by
        have : (false || !rs.all isT) = false := hk
        cases h : rs.all isT with
        | true => rfl
        | false => rw [h] at this; cases this
      cases rs with
      | nil =>
        refine sd_ifT (pt_notd (k := false) (pt_truT (pd_var 0) rfl)) (sd_raise X1 tk ?_ rfl)
        show r = Rs.er C
        rw [er]
        rfl
      | cons r0 rs =>
        have ht0 : isT r0 = true := by
          rw [List.all_cons, Bool.and_eq_true] at hk2
          exact hk2.1
        obtain ⟨c0, rfl⟩ := isT_of ht0
        refine sd_ifF (pt_notd (k := true) (pt_truT (pd_var 0) rfl)) ?_
        refine sd_callX G1 hr tk (pds_cons (pd_lenT B.len (pd_var 0)) (pds_cons (pd_lenT B.len (pd_ixT (d := .tuple c0) (pd_var 0) pd_int atI0)) pds_nil)) ⟨_, _, rfl, rfl⟩ (fun d0 h0 => ?_) (fun C' h0 => ?_)
        · have hs : okSize (.int (((PyData.tuple c0 :: rs).length : Nat) : Int)) (.int ((c0.length : Nat) : Int)) = true := by
            cases h : okSize (.int (((PyData.tuple c0 :: rs).length : Nat) : Int)) (.int ((c0.length : Nat) : Int)) with
            | true => rfl
            | false => rw [h] at h0; cases h0
          have eR : isRows (.tuple (.tuple c0 :: rs)) = (PyData.tuple c0 :: rs).all (okRow c0.length) := by
            show ((PyData.tuple c0 :: rs).all isT && (okSize (.int (((PyData.tuple c0 :: rs).length : Nat) : Int)) (.int ((c0.length : Nat) : Int)) && (PyData.tuple c0 :: rs).all (okRow c0.length))) = _
            rw [hk2, hs]
            rfl
          rw [eR] at er
          generalize hrs : PyData.tuple c0 :: rs = all at *
          have hget0 : ∀ i d, all[i]? = some d → isT d = true := fun i d h => List.all_eq_true.mp hk2 d (List.mem_of_getElem? h)
          refine sd_for 1 (items := all) (fun i δ' ω' => ω' = ⟨qs, []⟩ ∧ δ'[0]? = some (some (.im (.tuple all))) ∧ δ'.length = 3 ∧ (all.take i).all (okRow c0.length) = true) (wk_tup (pd_var 0)) ⟨rfl, rfl, rfl, rfl⟩ (fun i d δ' ω' hi hv => ?_) (fun δ' ω' hv => sd_nil ?_) (pg_name sc_rows.nd rfl (Or.inl rfl)) (passes_of rfl) rfl
          · obtain ⟨rfl, h0', hl, hv⟩ := hv
            obtain ⟨cs, rfl⟩ := isT_of (hget0 i d hi)
            match δ', hl, h0' with
            | [_, y1, y2], _, h0' =>
              cases h0'
              have hi1 : (all.take (i + 1)).all (okRow c0.length) = okRow c0.length (.tuple cs) := by
                rw [List.take_add_one, hi, List.all_append, hv]
                simp
              have hat : atI all 0 = some (.tuple c0) := by
                rw [← hrs]
                exact atI0
              have bad : okRow c0.length (.tuple cs) = false → r = Rs.er C := fun z => by
                rw [er]
                have e : all.all (okRow c0.length) = false := by
                  cases h : all.all (okRow c0.length) with
                  | false => rfl
                  | true =>
                    rw [List.all_eq_true.mp h _ (List.mem_of_getElem? hi)] at z
                    cases z
                rw [e]
                rfl
              obtain ⟨hz3, hz4⟩ := hz2 _ (List.mem_of_getElem? hi) cs rfl
              refine sd_if (pt_cmpd op_ne rd_neI (pd_lenT B.len (pd_var 1)) (pd_lenT B.len (pd_ixT (d := .tuple c0) (pd_var 0) pd_int hat)) (nomark _)) (fun hk => ?_) (fun hk => sd_nil ?_)
              · refine sd_raise X1 tk (bad ?_) rfl
                have hne : ¬ cs.length = c0.length := fun z => by
                  rw [z] at hk
                  simp at hk
                show (decide (cs.length = c0.length) && _) = false
                rw [decide_eq_false hne]
                rfl
              · have heq : cs.length = c0.length := by
                  by_cases z : cs.length = c0.length
                  · exact z
                  · rw [decide_eq_false (by omega)] at hk
                    cases hk
                refine sd_if (pt_notd (pt_bool (pd_all (bs := cs.map isCell) rfl B.all (PN.pl (pn_lc (y := "cell") (j := 2) (items := cs) rfl sc_rows.nd (PWk.ws (wk_tup (pd_var 1))) (by rw [List.length_map, List.length_map]) (blkOk_by (N := ["rows", "cells", "cell"]) (sc := defScope s_need_rows) (by decide +kernel)) (fun _ _ _ _ _ => pg_name sc_rows.nd rfl (Or.inl rfl)) ?_ (Nat.le_trans hz3 (by decide))))))) (fun hk => ?_) (fun hk => sd_nil (sd_nil ?_))
                · intro i d y hd hy D o s H C cl fp
                  rw [List.getElem?_map, List.getElem?_map, hd] at hy
                  cases hy
                  exact pd_call G2 hr (pds_cons (pd_var 2) pds_nil) ⟨_, rfl, rfl, hz4 d (List.mem_of_getElem? hd)⟩
                · refine sd_raise X1 tk (bad ?_) rfl
                  have e : cs.all isCell = false := by
                    rw [List.all_map] at hk
                    have h2 : (!cs.all isCell) = true := hk
                    cases h : cs.all isCell with
                    | false => rfl
                    | true => rw [h] at h2; cases h2
                  show (_ && cs.all isCell) = false
                  rw [e, Bool.and_false]
                · refine ⟨rfl, rfl, rfl, ?_⟩
                  rw [hi1]
                  have e : cs.all isCell = true := by
                    rw [List.all_map] at hk
                    have h2 : (!cs.all isCell) = false := hk
                    cases h : cs.all isCell with
                    | true => rfl
                    | false => rw [h] at h2; cases h2
                  show (decide (cs.length = c0.length) && cs.all isCell) = true
                  rw [e, decide_eq_true heq]
                  rfl
          · obtain ⟨_, _, _, hv⟩ := hv
            rw [List.take_length] at hv
            show r = Rs.ok .none
            rw [er, hv]
            rfl
        · show r = Rs.er C'
          have hs : okSize (.int (((PyData.tuple c0 :: rs).length : Nat) : Int)) (.int ((c0.length : Nat) : Int)) = false := by
            cases h : okSize (.int (((PyData.tuple c0 :: rs).length : Nat) : Int)) (.int ((c0.length : Nat) : Int)) with
            | false => rfl
            | true => rw [h] at h0; cases h0
          rw [hs] at h0
          cases h0
          rw [er]
          have e : isRows (.tuple (.tuple c0 :: rs)) = false := by
            show ((PyData.tuple c0 :: rs).all isT && (okSize (.int (((PyData.tuple c0 :: rs).length : Nat) : Int)) (.int ((c0.length : Nat) : Int)) && _)) = false
            rw [hs, Bool.false_and, Bool.and_false]
          rw [e]
          rfl
  · have hk : kitB (kindD d) "tuple" = some false := by
      rw [k_tuple]
      cases d <;> first | rfl | exact absurd ⟨_, rfl⟩ hd
    refine sd_ifT (PWd.pt (pw_orT (pt_notd (k := false) (pt_bool (pd_isi B.isi B.tuple bb_tuple (pd_var 0) hk))))) (sd_raise X1 tk ?_ rfl)
    show r = Rs.er C
    rw [er]
    cases d <;> first | rfl | exact absurd ⟨_, rfl⟩ hd
end
end K93

namespace K93
open PySem PySem.Spec PyProof.Rows L2 FP
section
variable {P : Program} {w : World} {K : PySem.W.Frag} {mg : Str → Option Value} {base : Heap} {f C : Addr} {fd : FuncData}
def frFace (C : Addr) : List PyData → Rs → Prop := fun ds r => ∃ d, ds = [d] ∧ (r = if isFace d then .ok .none else .er C) ∧ smF d
theorem sc_face : FnScope ["face", "rows", "row", "column"] ["face"] (defScope s_need_face) := ⟨rfl, rfl, rfl, by decide +kernel, rfl, by decide +kernel, by decide +kernel⟩
theorem three_of {d : PyData} (h : isTupleOf d 3 = true) : ∃ a b c, d = .tuple [a, b, c] := by
  cases d with
  | tuple ds =>
    have e : (ds.length : Int) = 3 := of_decide_eq_true h
    match ds, e with
    | [a, b, c], _ => exact ⟨a, b, c, rfl⟩
    | [], e => exact absurd e (by simp)
    | [_], e => exact absurd e (by simp)
    | [_, _], e => exact absurd e (by simp)
    | _ :: _ :: _ :: _ :: r, e => exact absurd e (by simp only [List.length_cons]; omega)
  | _ => cases h
theorem rows_of {d : PyData} (h : isRows d = true) : ∃ c0 rs, d = .tuple (.tuple c0 :: rs) := by
  cases d with
  | tuple ds =>
    cases ds with
    | nil => cases h
    | cons r0 rs =>
      have h1 : ((r0 :: rs).all isT && _) = true := h
      rw [Bool.and_eq_true] at h1
      have h2 := h1.1
      rw [List.all_cons, Bool.and_eq_true] at h2
      obtain ⟨c0, rfl⟩ := isT_of h2.1
      exact ⟨c0, rs, rfl⟩
  | _ => cases h
theorem ok_face (F : Df K "need_face" s_need_face f fd) (hm : mg "need_face" = some (.ref f)) (B : Bl mg) (X1 : ExcF K mg "BadFace" C) (G1 : DefOk P w K mg base 1 "is_tuple_of" frTupleOf) (G2 : DefOk P w K mg base 4 "need_rows" (frRows C)) (G3 : DefOk P w K mg base 2 "is_within" frWithin) :
    DefOk P w K mg base 5 "need_face" (frFace C) := by
  refine def_ok F hm sc_face (fun _ _ _ _ _ _ us hl => match us, hl with | [_], _ => rfl) (fun ds r h => by obtain ⟨_, rfl, _⟩ := h; rfl) (fun cdv A outer s H E qs ds r hr h => ?_)
  obtain ⟨d, rfl, er, hz⟩ := h
  have tk : L2N.Takes (cxOf (L2N.CX P w) P w K mg base ["face", "rows", "row", "column"] "need_face" (defScope s_need_face) f cdv A outer s H E) (WOf E) := L2N.takes_of rfl rfl rfl rfl
  refine sd_if (pt_notd (pt_bool (pd_call (G1.mono (by decide)) hr (pds_cons (pd_var 0) (pds_cons pd_int pds_nil)) ⟨_, _, rfl, rfl⟩))) (fun hk => sd_raise X1 tk ?_ rfl) (fun hk => sd_nil ?_)
  · show r = Rs.er C
    rw [er]
    have e : isFace d = false := by
      cases d with
      | tuple ds => match ds, hk with
        | [], _ => rfl
        | [_], _ => rfl
        | [_, _], _ => rfl
        | [_, _, _], hk => cases hk
        | _ :: _ :: _ :: _ :: _, _ => rfl
      | _ => rfl
    rw [e]
    rfl
  · have ht : isTupleOf d 3 = true := by
      cases h : isTupleOf d 3 with
      | true => rfl
      | false => rw [h] at hk; cases hk
    obtain ⟨rows, row, col, rfl⟩ := three_of ht
    have hzr : smRs rows := hz _ rfl rows (by simp)
    refine sd_unp [1, 2, 3] (pd_var 0) (pg_tup rfl (pgs_cons (pg_name sc_face.nd rfl (.inl rfl)) (pgs_cons (pg_name sc_face.nd rfl (.inl rfl)) (pgs_cons (pg_name sc_face.nd rfl (.inl rfl)) pgs_nil)))) rfl rfl ?_
    refine sd_callX G2 hr tk (pds_cons (pd_var 1) pds_nil) ⟨_, rfl, rfl, hzr⟩ (fun d0 h0 => ?_) (fun C' h0 => ?_)
    · have hR : isRows rows = true := by
        cases h : isRows rows with
        | true => rfl
        | false => rw [h] at h0; cases h0
      obtain ⟨c0, rs, rfl⟩ := rows_of hR
      have eF : isFace (.tuple [.tuple (.tuple c0 :: rs), row, col]) = (isWithin row 0 ((((PyData.tuple c0 :: rs).length : Nat) : Int) - 1) && isWithin col 0 (((c0.length : Nat) : Int) - 1)) := by
        show (isRows _ && _) = _
        rw [hR]
        rfl
      rw [eF] at er
      refine sd_if (pt_notd (pt_bool (pd_call (G3.mono (by decide)) hr (pds_cons (pd_var 2) (pds_cons pd_int (pds_cons (pd_sub (pd_lenT B.len (pd_var 1)) pd_int) pds_nil))) ⟨_, _, _, rfl, rfl⟩))) (fun hk => sd_raise X1 tk ?_ rfl) (fun hk => sd_nil ?_)
      · show r = Rs.er C
        rw [er]
        have e : isWithin row 0 ((((PyData.tuple c0 :: rs).length : Nat) : Int) - 1) = false := by
          cases h : isWithin row 0 ((((PyData.tuple c0 :: rs).length : Nat) : Int) - 1) with
          | false => rfl
          | true => rw [h] at hk; cases hk
        rw [e]
        rfl
      · have e : isWithin row 0 ((((PyData.tuple c0 :: rs).length : Nat) : Int) - 1) = true := by
          cases h : isWithin row 0 ((((PyData.tuple c0 :: rs).length : Nat) : Int) - 1) with
          | true => rfl
          | false => rw [h] at hk; cases hk
        rw [e] at er
        refine sd_if (pt_notd (pt_bool (pd_call (G3.mono (by decide)) hr (pds_cons (pd_var 3) (pds_cons pd_int (pds_cons (pd_sub (pd_lenT B.len (pd_ixT (d := .tuple c0) (pd_var 1) pd_int atI0)) pd_int) pds_nil))) ⟨_, _, _, rfl, rfl⟩))) (fun hk => sd_raise X1 tk ?_ rfl) (fun hk => sd_nil (sd_nil ?_))
        · show r = Rs.er C
          rw [er]
          cases h : isWithin col 0 (((c0.length : Nat) : Int) - 1) with
          | false => rfl
          | true => rw [h] at hk; cases hk
        · show r = Rs.ok .none
          rw [er]
          cases h : isWithin col 0 (((c0.length : Nat) : Int) - 1) with
          | true => rfl
          | false => rw [h] at hk; cases hk
    · show r = Rs.er C'
      have e : isRows rows = false := by
        cases h : isRows rows with
        | false => rfl
        | true => rw [h] at h0; cases h0
      rw [e] at h0
      cases h0
      rw [er]
      have e2 : isFace (.tuple [rows, row, col]) = false := by
        show (isRows _ && _) = false
        rw [e]
        rfl
      rw [e2]
      rfl
def blankC : PyData := .tuple [.str (Str.ofString " "), .int 0]
def frBlankCells : List PyData → Rs → Prop := fun ds r => ∃ n : Int, ds = [.int n] ∧ -1000 ≤ n ∧ n ≤ 1000 ∧ r = .ok (.tuple (List.replicate n.toNat blankC))
theorem sc_bcells : FnScope ["width"] ["width"] (defScope s_blank_cells) := ⟨rfl, rfl, rfl, by decide +kernel, rfl, by decide +kernel, by decide +kernel⟩
theorem ok_bcells (F : Df K "blank_cells" s_blank_cells f fd) (hm : mg "blank_cells" = some (.ref f)) (g : GlD K mg "BLANK" blankC) : DefOk P w K mg base 1 "blank_cells" frBlankCells := by
  refine def_ok F hm sc_bcells (fun _ _ _ _ _ _ us hl => match us, hl with | [_], _ => rfl) (fun ds r h => by obtain ⟨_, rfl, _⟩ := h; rfl) (fun cdv A outer s H E qs ds r hr h => ?_)
  obtain ⟨n, rfl, h1, h2, rfl⟩ := h
  refine sd_ret (pd_rep1 (pd_tup (pds_cons (pd_glob g) pds_nil)) (pd_var 0) h1 h2) ?_
  exact rfl
theorem cut_to (ds : List PyData) (n : Nat) : FP.cutD ds none (some (n : Int)) = ds.take n := by
  unfold FP.cutD
  rw [HT.sIx_none, HT.sIx_nat, List.drop_zero, Nat.sub_zero]
  rcases Nat.le_total n ds.length with h | h
  · rw [Nat.min_eq_left h]
  · rw [Nat.min_eq_right h, List.take_length, List.take_of_length_le h]
theorem cut_from (ds : List PyData) (n : Nat) : FP.cutD ds (some (n : Int)) none = ds.drop n := by
  unfold FP.cutD
  rw [HT.sIx_none, HT.sIx_nat]
  rcases Nat.le_total n ds.length with h | h
  · rw [Nat.min_eq_left h, List.take_of_length_le (by rw [List.length_drop]; exact Nat.le_refl _)]
  · rw [Nat.min_eq_right h, List.drop_length, List.drop_of_length_le h, List.take_nil]
end
end K93

namespace K93
open PySem PySem.Spec PyProof.Rows L2 FP
theorem cell_of {d : PyData} (h : isCell d = true) : ∃ (c : Nat) (i : Int), d = .tuple [.str ⟨#[c]⟩, .int i] ∧ okSign c = true ∧ 0 ≤ i ∧ i ≤ 7 := by
  cases d with
  | tuple ds => match ds, h with
    | [], h => cases h
    | [_], h => cases h
    | _ :: _ :: _ :: _, h => cases h
    | [a, b], h =>
      have h1 : (isSign a && isWithin b 0 7) = true := h
      rw [Bool.and_eq_true] at h1
      obtain ⟨h1, h2⟩ := h1
      cases a with
      | str z =>
        cases b with
        | int i =>
          have h1 : (z.cps.toList.all okSign && decide (z.length = 1)) = true := h1
          have h2 : (decide (0 ≤ i) && decide (i ≤ 7)) = true := h2
          rw [Bool.and_eq_true, decide_eq_true_eq] at h1
          rw [Bool.and_eq_true, decide_eq_true_eq, decide_eq_true_eq] at h2
          obtain ⟨c⟩ := z
          have hs : c.toList.length = 1 := by rw [Array.length_toList]; exact h1.2
          match hc : c.toList, hs with
          | [k], _ =>
            have e : c = #[k] := Array.toList_inj.mp (by rw [hc])
            subst e
            have h3 := h1.1
            have h4 : ([k].all okSign) = true := h3
            rw [List.all_cons, Bool.and_eq_true] at h4
            exact ⟨k, i, rfl, h4.1, h2.1, h2.2⟩
        | _ => cases h2
      | _ => cases h1
  | _ => cases h
end K93

namespace K93
open PySem PySem.Spec PyProof.Rows L2 FP
section
variable {P : Program} {w : World} {K : PySem.W.Frag} {mg : Str → Option Value} {base : Heap} {f C : Addr} {fd : FuncData}
def cellAt (ns : List Int) (k : Nat) : Int := if ns = [] then (k : Int) * 7919 else ns.getD (k % ns.length) 0 + ((k / ns.length : Nat) : Int) * 104729
def frLCell : List PyData → Rs → Prop := fun ds r => ∃ (ns : List Int) (k : Nat), ds = [.list (ns.map .int), .int (k : Int)] ∧ ns.length ≤ 63 ∧ k ≤ 63 ∧ r = .ok (.int (cellAt ns k))
theorem sc_lcell : FnScope ["_law_script", "_law_k"] ["_law_script", "_law_k"] (defScope s__law_cell) := ⟨rfl, rfl, rfl, by decide +kernel, rfl, by decide +kernel, by decide +kernel⟩
theorem shp_ints (ns : List Int) : Shp 1 (.list (ns.map PyData.int)) := Shp.lst fun x h => by
  obtain ⟨n, _, rfl⟩ := List.mem_map.mp h
  exact .int n
theorem cmul_small {i j : Int} (h : -(2 ^ 64) < j ∧ j < 2 ^ 64) : CMul i j := .inr h
theorem ok_lcell (F : Df K "_law_cell" s__law_cell f fd) (hm : mg "_law_cell" = some (.ref f)) (B : Bl mg) : DefOk P w K mg base 1 "_law_cell" frLCell := by
  refine def_ok F hm sc_lcell (fun _ _ _ _ _ _ us hl => match us, hl with | [_, _], _ => rfl) (fun ds r h => by obtain ⟨_, _, rfl, _⟩ := h; rfl) (fun cdv A outer s H E qs ds r hr h => ?_)
  obtain ⟨ns, k, rfl, h1, h2, rfl⟩ := h
  refine sd_if (pt_cmpd (op_eqD hr.units) (rd_eqD (shp_ints ns).ok rfl) (pd_var 0) (PN.pd (pn_lst pds_nil)) (nomark _)) (fun hk => ?_) (fun hk => sd_nil ?_)
  · have e : ns = [] := by
      cases ns with
      | nil => rfl
      | cons n ns => cases hk
    subst e
    refine sd_ret (pd_mulS (cmul_small (by decide)) (pd_var 1) pd_int) ?_
    exact rfl
  · have hne : ns ≠ [] := fun e => by
      subst e
      cases hk
    have hl : 0 < ns.length := List.length_pos_iff.mpr hne
    have hlt : k % ns.length < ns.length := Nat.mod_lt _ hl
    have e1 : ((k : Int) % ((ns.map PyData.int).length : Nat) : Int) = ((k % ns.length : Nat) : Int) := by
      rw [List.length_map]
      omega
    have hat : atI (ns.map PyData.int) ((k : Int) % ((ns.map PyData.int).length : Nat) : Int) = some (.int (ns.getD (k % ns.length) 0)) := by
      rw [e1]
      refine atI_nat ?_
      rw [List.getElem?_map, List.getD_eq_getElem?_getD, List.getElem?_eq_getElem hlt]
      rfl
    have hL : (0 : Int) < (((ns.map PyData.int).length : Nat) : Int) := by rw [List.length_map]; omega
    refine sd_ret (pd_add (pd_ixL (PD.pl (pd_var 0)) (pd_mod hL (pd_var 1) (pd_lenL B.len (PD.pl (pd_var 0)))) hat) (pd_mulS (cmul_small (by decide)) (pd_fdiv (wide_div (b := 20) hL ?_ (by decide) (by decide)) (pd_var 1) (pd_lenL B.len (PD.pl (pd_var 0)))) pd_int)) ?_
    · rw [List.length_map]
      have : (2 : Nat) ^ 20 = 1048576 := by decide
      omega
    · show Rs.ok (.int (cellAt ns k)) = _
      unfold cellAt
      rw [if_neg hne]
      have e2 : ((k : Int) / (((ns.map PyData.int).length : Nat) : Int)) = ((k / ns.length : Nat) : Int) := by
        rw [List.length_map]
        omega
      rw [e2]
def M1 : Int := 340282366920938463463374607431768211507
def M2 : Int := 340282366920938463463374607431768211297
def M3 : Int := 18446744073709551557
def drawn (c k : Int) : Int :=
  let a := (c * 6364136223846793005 + (k + 1) * 1442695040888963407) % M1
  let b := a * a % M2
  ((b % M3 + 1) * (b / M3 + 1) * b) % M1
theorem M1p : (0 : Int) < M1 := by decide
theorem M2p : (0 : Int) < M2 := by decide
theorem M3p : (0 : Int) < M3 := by decide
def frDrawn : List PyData → Rs → Prop := fun ds r => ∃ c k : Int, ds = [.int c, .int k] ∧ r = .ok (.int (drawn c k))
theorem sc_drawn : FnScope ["_law_cell_here", "_law_k", "_law_more"] ["_law_cell_here", "_law_k"] (defScope s__law_drawn) := ⟨rfl, rfl, rfl, by decide +kernel, rfl, by decide +kernel, by decide +kernel⟩
theorem abs_lt {a : Int} {n : Nat} (h0 : 0 ≤ a) (h : a < ((2 ^ n : Nat) : Int)) : a.natAbs < 2 ^ n := by omega
theorem mod_abs (a : Int) {m : Int} (h : 0 < m) {n : Nat} (hm : m ≤ ((2 ^ n : Nat) : Int)) : (a % m).natAbs < 2 ^ n := abs_lt (Int.emod_nonneg _ (by omega)) (Int.lt_of_lt_of_le (Int.emod_lt_of_pos _ h) hm)
theorem ok_drawn (F : Df K "_law_drawn" s__law_drawn f fd) (hm : mg "_law_drawn" = some (.ref f)) : DefOk P w K mg base 1 "_law_drawn" frDrawn := by
  refine def_ok F hm sc_drawn (fun _ _ _ _ _ _ us hl => match us, hl with | [_, _], _ => rfl) (fun ds r h => by obtain ⟨_, _, rfl, _⟩ := h; rfl) (fun cdv A outer s H E qs ds r hr h => ?_)
  obtain ⟨c, k, rfl, rfl⟩ := h
  show SD _ _ _ _ _ _ (FP.Fin (.ok (.int (drawn c k))))
  refine sd_set 2 (pd_mod M1p (pd_add (pd_mulS (cmul_small (by decide)) (pd_var 0) pd_int) (pd_mulS (cmul_small (by decide)) (pd_add (pd_var 1) pd_int) pd_int)) pd_int) ?_ sc_drawn.nd
  have ha : ((c * 6364136223846793005 + (k + 1) * 1442695040888963407) % M1).natAbs < 2 ^ 129 := mod_abs _ M1p (by decide)
  have ed : drawn c k = (((((c * 6364136223846793005 + (k + 1) * 1442695040888963407) % M1) * ((c * 6364136223846793005 + (k + 1) * 1442695040888963407) % M1) % M2) % M3 + 1) * ((((c * 6364136223846793005 + (k + 1) * 1442695040888963407) % M1) * ((c * 6364136223846793005 + (k + 1) * 1442695040888963407) % M1) % M2) / M3 + 1) * (((c * 6364136223846793005 + (k + 1) * 1442695040888963407) % M1) * ((c * 6364136223846793005 + (k + 1) * 1442695040888963407) % M1) % M2)) % M1 := rfl
  rw [ed]
  generalize (c * 6364136223846793005 + (k + 1) * 1442695040888963407) % M1 = a at *
  refine sd_set 2 (pd_mod M2p (pd_mul (wide_mul ha ha (by decide) (by decide) (by decide)) (pd_var 2) (pd_var 2)) pd_int) ?_ sc_drawn.nd
  have hb : (a * a % M2).natAbs < 2 ^ 129 := mod_abs _ M2p (by decide)
  have hb0 : 0 ≤ a * a % M2 := Int.emod_nonneg _ (by decide)
  generalize a * a % M2 = b at *
  have h1 : (b % M3 + 1).natAbs < 2 ^ 65 := by
    have x1 := Int.emod_nonneg b (show M3 ≠ 0 by decide)
    have x2 := Int.emod_lt_of_pos b M3p
    have x3 : M3 + 1 < ((2 ^ 65 : Nat) : Int) := by decide
    exact abs_lt (by omega) (by omega)
  have h2 : (b / M3 + 1).natAbs < 2 ^ 130 := by
    have x1 : 0 ≤ b / M3 := Int.ediv_nonneg hb0 (by decide)
    have x2 : b / M3 ≤ b := Int.ediv_le_self _ hb0
    have x3 : b < ((2 ^ 129 : Nat) : Int) := by omega
    have x4 : ((2 ^ 129 : Nat) : Int) + 1 < ((2 ^ 130 : Nat) : Int) := by decide
    exact abs_lt (by omega) (by omega)
  have h3 : ((b % M3 + 1) * (b / M3 + 1)).natAbs < 2 ^ 195 := by
    rw [Int.natAbs_mul]
    calc (b % M3 + 1).natAbs * (b / M3 + 1).natAbs < 2 ^ 65 * 2 ^ 130 := Nat.mul_lt_mul'' h1 h2
      _ = 2 ^ 195 := by decide
  refine sd_set 2 (pd_mul (wide_mul h3 hb (by decide) (by decide) (by decide)) (pd_mul (wide_mul h1 h2 (by decide) (by decide) (by decide)) (pd_add (pd_mod M3p (pd_var 2) pd_int) pd_int) (pd_add (pd_fdiv (wide_div (b := 65) M3p (by decide) (by decide) (by decide)) (pd_var 2) pd_int) pd_int)) (pd_var 2)) ?_ sc_drawn.nd
  refine sd_ret (pd_mod M1p (pd_var 2) pd_int) ?_
  exact rfl
def sgs : List Nat := [32, 32, 97, 98, 126, 94]
def iks : List Int := [0, 0, 0, 1, 7]
def cellD (c : Nat) (i : Int) : PyData := .tuple [.str ⟨#[c]⟩, .int i]
def cellOfD (m : Int) : PyData := cellD (sgs.getD (m % 6).toNat 0) (iks.getD (m / 8 % 5).toNat 0)
def frCellOf : List PyData → Rs → Prop := fun ds r => ∃ m : Int, ds = [.int m] ∧ r = .ok (cellOfD m)
theorem sc_cellof : FnScope ["_law_more"] ["_law_more"] (defScope s__law_cell_of) := ⟨rfl, rfl, rfl, by decide +kernel, rfl, by decide +kernel, by decide +kernel⟩
theorem mod_nat (m : Int) (n : Nat) (h : 0 < n) : ∃ j : Nat, m % (n : Int) = (j : Int) ∧ j < n := ⟨(m % (n : Int)).toNat, by have := Int.emod_nonneg m (show (n : Int) ≠ 0 by omega); omega, by have := Int.emod_nonneg m (show (n : Int) ≠ 0 by omega); have := Int.emod_lt_of_pos m (show (0 : Int) < n by omega); omega⟩
theorem ok_cellof (F : Df K "_law_cell_of" s__law_cell_of f fd) (hm : mg "_law_cell_of" = some (.ref f)) : DefOk P w K mg base 1 "_law_cell_of" frCellOf := by
  refine def_ok F hm sc_cellof (fun _ _ _ _ _ _ us hl => match us, hl with | [_], _ => rfl) (fun ds r h => by obtain ⟨_, rfl, _⟩ := h; rfl) (fun cdv A outer s H E qs ds r hr h => ?_)
  obtain ⟨m, rfl, rfl⟩ := h
  obtain ⟨j1, e1, l1⟩ := mod_nat m 6 (by decide)
  obtain ⟨j2, e2, l2⟩ := mod_nat (m / 8) 5 (by decide)
  have e1 : m % 6 = (j1 : Int) := e1
  have e2 : m / 8 % 5 = (j2 : Int) := e2
  refine sd_ret (pd_tup (pds_cons (pd_ixL (d := .str ⟨#[sgs.getD j1 0]⟩) (PN.pl (pn_lst (pds_cons pd_str (pds_cons pd_str (pds_cons pd_str (pds_cons pd_str (pds_cons pd_str (pds_cons pd_str pds_nil)))))))) (pd_mod (by decide) (pd_var 0) pd_int) ?_)
    (pds_cons (pd_ixL (d := .int (iks.getD j2 0)) (PN.pl (pn_lst (pds_cons pd_int (pds_cons pd_int (pds_cons pd_int (pds_cons pd_int (pds_cons pd_int pds_nil))))))) (pd_mod (by decide) (pd_fdiv (wide_div (b := 20) (by decide) (by decide) (by decide) (by decide)) (pd_var 0) pd_int) pd_int) ?_) pds_nil))) ?_
  · rw [e1]
    refine atI_nat ?_
    match j1, l1 with
    | 0, _ => exact congrArg (fun z => some (PyData.str z)) (show Str.ofString " " = ⟨#[32]⟩ by decide +kernel)
    | 1, _ => exact congrArg (fun z => some (PyData.str z)) (show Str.ofString " " = ⟨#[32]⟩ by decide +kernel)
    | 2, _ => exact congrArg (fun z => some (PyData.str z)) (show Str.ofString "a" = ⟨#[97]⟩ by decide +kernel)
    | 3, _ => exact congrArg (fun z => some (PyData.str z)) (show Str.ofString "b" = ⟨#[98]⟩ by decide +kernel)
    | 4, _ => exact congrArg (fun z => some (PyData.str z)) (show Str.ofString "~" = ⟨#[126]⟩ by decide +kernel)
    | 5, _ => exact congrArg (fun z => some (PyData.str z)) (show Str.ofString "^" = ⟨#[94]⟩ by decide +kernel)
    | n + 6, h => omega
  · rw [e2]
    refine atI_nat ?_
    match j2, l2 with
    | 0, _ => rfl
    | 1, _ => rfl
    | 2, _ => rfl
    | 3, _ => rfl
    | 4, _ => rfl
    | n + 5, h => omega
  · show Rs.ok (cellD (sgs.getD (m % 6).toNat 0) (iks.getD (m / 8 % 5).toNat 0)) = _
    rw [e1, e2]
    rfl
def sizeD (m : Int) : Int × Int := (1 + m % (([3, 10] : List Int).getD (m / 16 % 2).toNat 1), 1 + m / 64 % (([4, 9, 20] : List Int).getD (m / 2048 % 3).toNat 1))
def frLSize : List PyData → Rs → Prop := fun ds r => ∃ m : Int, ds = [.int m] ∧ r = .ok (.tuple [.int (sizeD m).1, .int (sizeD m).2])
theorem sc_lsize : FnScope ["_law_more"] ["_law_more"] (defScope s__law_size) := ⟨rfl, rfl, rfl, by decide +kernel, rfl, by decide +kernel, by decide +kernel⟩
theorem size_le (m : Int) : 1 ≤ (sizeD m).1 ∧ (sizeD m).1 ≤ 10 ∧ 1 ≤ (sizeD m).2 ∧ (sizeD m).2 ≤ 20 := by
  obtain ⟨j1, e1, l1⟩ := mod_nat (m / 16) 2 (by decide)
  obtain ⟨j2, e2, l2⟩ := mod_nat (m / 2048) 3 (by decide)
  have e1 : m / 16 % 2 = (j1 : Int) := e1
  have e2 : m / 2048 % 3 = (j2 : Int) := e2
  unfold sizeD
  rw [e1, e2]
  show 1 ≤ 1 + m % (([3, 10] : List Int).getD j1 1) ∧ 1 + m % (([3, 10] : List Int).getD j1 1) ≤ 10 ∧ 1 ≤ 1 + m / 64 % (([4, 9, 20] : List Int).getD j2 1) ∧ 1 + m / 64 % (([4, 9, 20] : List Int).getD j2 1) ≤ 20
  have a1 : 1 ≤ 1 + m % (([3, 10] : List Int).getD j1 1) ∧ 1 + m % (([3, 10] : List Int).getD j1 1) ≤ 10 := by
    match j1, l1 with
    | 0, _ => show 1 ≤ 1 + m % 3 ∧ 1 + m % 3 ≤ 10; omega
    | 1, _ => show 1 ≤ 1 + m % 10 ∧ 1 + m % 10 ≤ 10; omega
    | n + 2, h => omega
  have a2 : 1 ≤ 1 + m / 64 % (([4, 9, 20] : List Int).getD j2 1) ∧ 1 + m / 64 % (([4, 9, 20] : List Int).getD j2 1) ≤ 20 := by
    match j2, l2 with
    | 0, _ => show 1 ≤ 1 + m / 64 % 4 ∧ 1 + m / 64 % 4 ≤ 20; omega
    | 1, _ => show 1 ≤ 1 + m / 64 % 9 ∧ 1 + m / 64 % 9 ≤ 20; omega
    | 2, _ => show 1 ≤ 1 + m / 64 % 20 ∧ 1 + m / 64 % 20 ≤ 20; omega
    | n + 3, h => omega
  exact ⟨a1.1, a1.2, a2.1, a2.2⟩
theorem ok_lsize (F : Df K "_law_size" s__law_size f fd) (hm : mg "_law_size" = some (.ref f)) : DefOk P w K mg base 1 "_law_size" frLSize := by
  refine def_ok F hm sc_lsize (fun _ _ _ _ _ _ us hl => match us, hl with | [_], _ => rfl) (fun ds r h => by obtain ⟨_, rfl, _⟩ := h; rfl) (fun cdv A outer s H E qs ds r hr h => ?_)
  obtain ⟨m, rfl, rfl⟩ := h
  obtain ⟨j1, e1, l1⟩ := mod_nat (m / 16) 2 (by decide)
  obtain ⟨j2, e2, l2⟩ := mod_nat (m / 2048) 3 (by decide)
  have e1 : m / 16 % 2 = (j1 : Int) := e1
  have e2 : m / 2048 % 3 = (j2 : Int) := e2
  have p1 : (0 : Int) < ([3, 10] : List Int).getD j1 1 := by
    match j1, l1 with
    | 0, _ => decide
    | 1, _ => decide
    | n + 2, h => omega
  have p2 : (0 : Int) < ([4, 9, 20] : List Int).getD j2 1 := by
    match j2, l2 with
    | 0, _ => decide
    | 1, _ => decide
    | 2, _ => decide
    | n + 3, h => omega
  refine sd_ret (pd_tup (pds_cons (pd_add pd_int (pd_mod p1 (pd_var 0) (pd_ixL (d := .int (([3, 10] : List Int).getD j1 1)) (PN.pl (pn_lst (pds_cons pd_int (pds_cons pd_int pds_nil)))) (pd_mod (by decide) (pd_fdiv (wide_div (b := 20) (by decide) (by decide) (by decide) (by decide)) (pd_var 0) pd_int) pd_int) ?_)))
    (pds_cons (pd_add pd_int (pd_mod p2 (pd_fdiv (wide_div (b := 20) (by decide) (by decide) (by decide) (by decide)) (pd_var 0) pd_int) (pd_ixL (d := .int (([4, 9, 20] : List Int).getD j2 1)) (PN.pl (pn_lst (pds_cons pd_int (pds_cons pd_int (pds_cons pd_int pds_nil))))) (pd_mod (by decide) (pd_fdiv (wide_div (b := 20) (by decide) (by decide) (by decide) (by decide)) (pd_var 0) pd_int) pd_int) ?_))) pds_nil))) ?_
  · rw [e1]
    refine atI_nat ?_
    match j1, l1 with
    | 0, _ => rfl
    | 1, _ => rfl
    | n + 2, h => omega
  · rw [e2]
    refine atI_nat ?_
    match j2, l2 with
    | 0, _ => rfl
    | 1, _ => rfl
    | 2, _ => rfl
    | n + 3, h => omega
  · show Rs.ok (.tuple [.int (1 + m % (([3, 10] : List Int).getD (m / 16 % 2).toNat 1)), .int (1 + m / 64 % (([4, 9, 20] : List Int).getD (m / 2048 % 3).toNat 1))]) = _
    rw [e1, e2]
    rfl
end
end K93

namespace K93
open PySem PySem.Spec PyProof.Rows L2 FP
section
variable {P : Program} {w : World} {K : PySem.W.Frag} {mg : Str → Option Value} {base : Heap} {f C : Addr} {fd : FuncData}
def rowL (m : Int) (wd j : Nat) : List PyData := if drawn m j % 3 = 0 then List.replicate wd blankC else (List.range wd).map fun (n : Nat) => cellOfD (drawn (drawn m j) n)
def rowsL (m : Int) (h wd : Nat) : List PyData := (List.range h).map fun (j : Nat) => .tuple (rowL m wd j)
def faceL (m : Int) (h wd : Nat) : PyData := .tuple [.tuple (rowsL m h wd), .int (m / 8 % (h : Int)), .int (m / 128 % (wd : Int))]
def frLFace : List PyData → Rs → Prop := fun ds r => ∃ (m : Int) (h wd : Nat), ds = [.int m, .int (h : Int), .int (wd : Int)] ∧ 1 ≤ h ∧ h ≤ 10 ∧ 1 ≤ wd ∧ wd ≤ 20 ∧ r = .ok (faceL m h wd)
abbrev NF : List Str := ["_law_more", "_law_height", "_law_width", "_law_rows", "_law_j", "_law_here", "_law_cells", "_law_n"]
theorem sc_lface : FnScope NF ["_law_more", "_law_height", "_law_width"] (defScope s__law_face) := ⟨rfl, rfl, rfl, by decide +kernel, rfl, by decide +kernel, by decide +kernel⟩
theorem rangeD_nat (n : Nat) : (rangeD 0 ((n : Nat) : Int).toNat).length = n := by
  rw [rangeD_len]
  omega
theorem rangeD_at {n i : Nat} {d : PyData} (h : (rangeD 0 ((n : Nat) : Int).toNat)[i]? = some d) : i < n ∧ d = .int (i : Int) := by
  have hl : i < n := by
    have := (List.getElem?_eq_some_iff.mp h).1
    rw [rangeD_nat] at this
    exact this
  have e : ((n : Nat) : Int).toNat = n := by omega
  rw [e, rangeD_get hl] at h
  cases h
  exact ⟨hl, by rw [Int.zero_add]⟩
theorem ok_lface (F : Df K "_law_face" s__law_face f fd) (hm : mg "_law_face" = some (.ref f)) (B : Bl mg) (G1 : DefOk P w K mg base 1 "_law_drawn" frDrawn) (G2 : DefOk P w K mg base 1 "_law_cell_of" frCellOf) : DefOk P w K mg base 2 "_law_face" frLFace := by
  refine def_ok F hm sc_lface (fun _ _ _ _ _ _ us hl => match us, hl with | [_, _, _], _ => rfl) (fun ds r h => by obtain ⟨_, _, _, rfl, _⟩ := h; rfl) (fun cdv A outer s H E qs ds r hr h => ?_)
  obtain ⟨m, h, wd, rfl, h1, h2, w1, w2, rfl⟩ := h
  refine sd_own 3 (pn_lst pds_nil) (fun D => ?_) sc_lface.nd
  refine sd_for 4 (items := rangeD 0 ((h : Nat) : Int).toNat) (fun i δ' ω' => ω' = omD ⟨qs, []⟩ D (.lst (((rowsL m h wd).take i).map .im)) ∧ ∃ y4 y5 y6 y7, δ' = [some (.im (.int m)), some (.im (.int h)), some (.im (.int wd)), some (.ad D), y4, y5, y6, y7])
    (wk_range1 B.range (pd_var 1) (by omega)) ⟨rfl, none, none, none, none, rfl⟩ ?_ ?_ (pg_name sc_lface.nd rfl (Or.inl rfl)) (passes_of rfl) rfl
  · rintro i d δ' ω' hd ⟨rfl, y4, y5, y6, y7, rfl⟩
    obtain ⟨hi, rfl⟩ := rangeD_at hd
    refine sd_set 5 (pd_call G1 hr (pds_cons (pd_var 0) (pds_cons (pd_var 4) pds_nil)) ⟨_, _, rfl, rfl⟩) ?_ sc_lface.nd
    refine sd_setLc 6 (y := "_law_n") (j := 7) (items := rangeD 0 ((wd : Nat) : Int).toNat) (ys := (List.range wd).map fun (n : Nat) => cellOfD (drawn (drawn m i) n)) rfl sc_lface.nd (PWk.ws (wk_range1 B.range (pd_var 2) (by omega))) (by rw [List.length_map, List.length_range, rangeD_nat])
      (blkOk_by (N := NF) (sc := defScope s__law_face) (by decide +kernel)) (fun _ _ _ _ _ => pg_name sc_lface.nd rfl (Or.inl rfl)) ?_ (by rw [rangeD_nat]; omega) (sw_true rfl rfl rfl (by decide +kernel)) ?_
    · intro j d y hd hy D o s H C cl fp
      obtain ⟨hj, rfl⟩ := rangeD_at hd
      rw [List.getElem?_map, List.getElem?_range hj] at hy
      cases hy
      exact pd_call G2 hr (pds_cons (pd_call G1 hr (pds_cons (pd_var 5) (pds_cons (pd_var 7) pds_nil)) ⟨_, _, rfl, rfl⟩) pds_nil) ⟨_, rfl, rfl⟩
    · refine sd_ifJ (fun δ' ω' => ω' = omD ⟨qs, []⟩ D (.lst (((rowsL m h wd).take i).map .im)) ∧ δ' = [some (.im (.int m)), some (.im (.int h)), some (.im (.int wd)), some (.ad D), some (.im (.int (i : Int))), some (.im (.int (drawn m i))), some (.im (.list (rowL m wd i))), y7])
        (pt_cmpd op_eq rd_eqI (pd_mod (by decide) (pd_var 5) pd_int) pd_int (nomark _)) (fun hk => ?_) (fun hk => sd_nil ⟨rfl, ?_⟩) ?_
      · refine sd_set 6 (PN.pd (pn_rep1 (PN.plt (pn_lst (pds_cons (pd_tup (pds_cons pd_str (pds_cons pd_int pds_nil))) pds_nil))) (pd_var 2) (by omega) (by omega))) (sd_nil ⟨rfl, ?_⟩) sc_lface.nd
        unfold rowL
        rw [if_pos (of_decide_eq_true hk)]
        rfl
      · unfold rowL
        rw [if_neg (of_decide_eq_false hk)]
        rfl
      · rintro δ' ω' ⟨rfl, rfl⟩
        refine sd_app 3 (pd_tupleL B.tuple (PD.pl (pd_var 6))) (sd_nil ⟨?_, _, _, _, _, rfl⟩) (by rw [List.length_take]; unfold rowsL; rw [List.length_map, List.length_range]; omega)
        have e : (rowsL m h wd)[i]? = some (.tuple (rowL m wd i)) := by
          unfold rowsL
          rw [List.getElem?_map, List.getElem?_range hi]
          rfl
        rw [List.take_add_one, e]
        rfl
  · rintro δ' ω' ⟨rfl, y4, y5, y6, y7, rfl⟩
    have hl : (rowsL m h wd).length = h := by
      unfold rowsL
      rw [List.length_map, List.length_range]
    have e : (rowsL m h wd).take (rangeD 0 ((h : Nat) : Int).toNat).length = rowsL m h wd := List.take_of_length_le (by rw [rangeD_nat, hl]; exact Nat.le_refl _)
    rw [e]
    have hh : (0 : Int) < (h : Int) := by omega
    have hw : (0 : Int) < (wd : Int) := by omega
    refine sd_ret (pd_tup (pds_cons (pd_tupleL B.tuple (pl_var 3 List.mem_cons_self)) (pds_cons (pd_mod hh (pd_fdiv (wide_div (b := 20) (by decide) (by decide) (by decide) (by decide)) (pd_var 0) pd_int) (pd_var 1)) (pds_cons (pd_mod hw (pd_fdiv (wide_div (b := 20) (by decide) (by decide) (by decide) (by decide)) (pd_var 0) pd_int) (pd_var 2)) pds_nil)))) ?_
    exact rfl
end
end K93

namespace K93
open PySem PySem.Spec PyProof.Rows L2 FP
def Row (wd : Nat) (x : PyData) : Prop := ∃ cs, x = .tuple cs ∧ cs.length = wd ∧ ∀ y ∈ cs, isCell y = true
structure Fc (h wd : Nat) (d : PyData) (rs : List PyData) (r c : Nat) : Prop where
  eq : d = .tuple [.tuple rs, .int (r : Int), .int (c : Int)]
  len : rs.length = h
  row : ∀ x ∈ rs, Row wd x
  hr : r < h
  hc : c < wd
  h10 : h ≤ 10
  w20 : wd ≤ 20
section
variable {h wd r c H W : Nat} {d : PyData} {rs : List PyData}
theorem Fc.face (F : Fc h wd d rs r c) : isFace d = true := by
  obtain ⟨rfl, hl, row, hr, hc, h10, w20⟩ := F
  match rs, hl, row with
  | [], hl, _ => simp at hl; omega
  | x0 :: rest, hl, row =>
    obtain ⟨c0, rfl, l0, a0⟩ := row x0 List.mem_cons_self
    have e1 : (PyData.tuple c0 :: rest).all isT = true := List.all_eq_true.mpr fun x hx => by
      obtain ⟨cs, rfl, _⟩ := row x hx
      rfl
    have e2 : okSize (.int ((rest.length + 1 : Nat) : Int)) (.int ((c0.length : Nat) : Int)) = true := by
      rw [List.length_cons] at hl
      show ((decide ((1 : Int) ≤ ((rest.length + 1 : Nat) : Int)) && decide (((rest.length + 1 : Nat) : Int) ≤ 10)) && (decide ((1 : Int) ≤ ((c0.length : Nat) : Int)) && decide (((c0.length : Nat) : Int) ≤ 20))) = true
      rw [decide_eq_true (by omega), decide_eq_true (by omega), decide_eq_true (by omega), decide_eq_true (by omega)]
      rfl
    have e3 : (PyData.tuple c0 :: rest).all (okRow c0.length) = true := List.all_eq_true.mpr fun x hx => by
      obtain ⟨cs, rfl, l, a⟩ := row x hx
      show (decide (cs.length = c0.length) && cs.all isCell) = true
      rw [decide_eq_true (by omega), List.all_eq_true.mpr a]
      rfl
    have e4 : isRows (.tuple (.tuple c0 :: rest)) = true := by
      show ((PyData.tuple c0 :: rest).all isT && (okSize (.int ((rest.length + 1 : Nat) : Int)) (.int ((c0.length : Nat) : Int)) && (PyData.tuple c0 :: rest).all (okRow c0.length))) = true
      rw [e1, e2, e3]
      rfl
    show (isRows _ && ((decide ((0 : Int) ≤ (r : Int)) && decide ((r : Int) ≤ (((PyData.tuple c0 :: rest).length : Nat) : Int) - 1)) && (decide ((0 : Int) ≤ (c : Int)) && decide ((c : Int) ≤ ((c0.length : Nat) : Int) - 1)))) = true
    rw [e4, decide_eq_true (by omega), decide_eq_true (by omega), decide_eq_true (by omega), decide_eq_true (by omega)]
    rfl
theorem sm_cell {y : PyData} (h : isCell y = true) : smC y := by
  obtain ⟨k, i, rfl, _⟩ := cell_of h
  intro ds e x hx
  cases e
  intro z ez
  rcases List.mem_cons.mp hx with q | q
  · subst q
    cases ez
    exact (by decide : (1 : Nat) ≤ 1000)
  · rcases List.mem_cons.mp q with q | q
    · subst q
      cases ez
    · cases q
theorem Fc.small (F : Fc h wd d rs r c) : smF d := by
  obtain ⟨rfl, hl, row, hr, hc, h10, w20⟩ := F
  intro ds e x hx
  cases e
  intro es ee
  subst ee
  rcases List.mem_cons.mp hx with q | q
  · cases q
    refine ⟨by omega, fun y hy => ?_⟩
    obtain ⟨cs, rfl, l, a⟩ := row y hy
    intro es ee
    cases ee
    exact ⟨by omega, fun z hz => sm_cell (a z hz)⟩
  · simp at q
theorem blank_cell : isCell blankC = true := by decide +kernel
theorem iks_b (j : Nat) (h : j < 5) : 0 ≤ iks.getD j 0 ∧ iks.getD j 0 ≤ 7 := by
  match j, h with
  | 0, _ => decide
  | 1, _ => decide
  | 2, _ => decide
  | 3, _ => decide
  | 4, _ => decide
  | n + 5, h => omega
theorem sgs_b (j : Nat) (h : j < 6) : okSign (sgs.getD j 0) = true := by
  match j, h with
  | 0, _ => decide
  | 1, _ => decide
  | 2, _ => decide
  | 3, _ => decide
  | 4, _ => decide
  | 5, _ => decide
  | n + 6, h => omega
theorem cell_ok {k : Nat} {i : Int} (hk : okSign k = true) (h0 : 0 ≤ i) (h7 : i ≤ 7) : isCell (cellD k i) = true := by
  show (([k].all okSign && decide (1 = 1)) && (decide (0 ≤ i) && decide (i ≤ 7))) = true
  rw [List.all_cons, hk, decide_eq_true h0, decide_eq_true h7]
  rfl
theorem cellOf_ok (m : Int) : isCell (cellOfD m) = true := by
  obtain ⟨j1, e1, l1⟩ := mod_nat m 6 (by decide)
  obtain ⟨j2, e2, l2⟩ := mod_nat (m / 8) 5 (by decide)
  have e1 : m % 6 = (j1 : Int) := e1
  have e2 : m / 8 % 5 = (j2 : Int) := e2
  unfold cellOfD
  rw [e1, e2]
  exact cell_ok (sgs_b j1 l1) (iks_b j2 l2).1 (iks_b j2 l2).2
theorem rowL_row (m : Int) (wd j : Nat) : Row wd (.tuple (rowL m wd j)) := by
  refine ⟨_, rfl, ?_, fun y hy => ?_⟩
  · unfold rowL
    split
    · exact List.length_replicate
    · rw [List.length_map, List.length_range]
  · unfold rowL at hy
    split at hy
    · rw [(List.mem_replicate.mp hy).2]
      exact blank_cell
    · obtain ⟨n, _, rfl⟩ := List.mem_map.mp hy
      exact cellOf_ok _
theorem faceL_fc (m : Int) (h1 : 1 ≤ h) (h2 : h ≤ 10) (w1 : 1 ≤ wd) (w2 : wd ≤ 20) : Fc h wd (faceL m h wd) (rowsL m h wd) (m / 8 % (h : Int)).toNat (m / 128 % (wd : Int)).toNat := by
  obtain ⟨j1, e1, l1⟩ := mod_nat (m / 8) h h1
  obtain ⟨j2, e2, l2⟩ := mod_nat (m / 128) wd w1
  refine ⟨?_, by unfold rowsL; rw [List.length_map, List.length_range], fun x hx => ?_, by rw [e1]; exact l1, by rw [e2]; exact l2, h2, w2⟩
  · unfold faceL
    rw [e1, e2]
    rfl
  · obtain ⟨j, _, rfl⟩ := List.mem_map.mp hx
    exact rowL_row m wd j
end
end K93

namespace K93
open PySem PySem.Spec PyProof.Rows L2 FP
section
variable {P : Program} {w : World} {K : PySem.W.Frag} {mg : Str → Option Value} {base : Heap} {f C : Addr} {fd : FuncData}
def pushD (ts : List PyData) (i n : Nat) (d : PyData) : List PyData := (ts.take i ++ List.replicate n d ++ ts.drop i).take ts.length
def pullD (ts : List PyData) (i n : Nat) (d : PyData) : List PyData := (ts.take i ++ ts.drop (i + n)) ++ List.replicate (ts.length - (ts.take i ++ ts.drop (i + n)).length) d
def frPush : List PyData → Rs → Prop := fun ds r => ∃ (ts : List PyData) (i n : Nat) (d : PyData), ds = [.tuple ts, .int (i : Int), .int (n : Int), d] ∧ ts.length ≤ 100 ∧ i ≤ 100 ∧ n ≤ 100 ∧ r = .ok (.tuple (pushD ts i n d))
def frPull : List PyData → Rs → Prop := fun ds r => ∃ (ts : List PyData) (i n : Nat) (d : PyData), ds = [.tuple ts, .int (i : Int), .int (n : Int), d] ∧ ts.length ≤ 100 ∧ i ≤ 100 ∧ n ≤ 100 ∧ r = .ok (.tuple (pullD ts i n d))
theorem sc_push : FnScope ["things", "at", "many", "new"] ["things", "at", "many", "new"] (defScope s_pushed) := ⟨rfl, rfl, rfl, by decide +kernel, rfl, by decide +kernel, by decide +kernel⟩
theorem sc_pull : FnScope ["things", "at", "many", "new", "left"] ["things", "at", "many", "new"] (defScope s_pulled) := ⟨rfl, rfl, rfl, by decide +kernel, rfl, by decide +kernel, by decide +kernel⟩
theorem ok_push (F : Df K "pushed" s_pushed f fd) (hm : mg "pushed" = some (.ref f)) (B : Bl mg) : DefOk P w K mg base 1 "pushed" frPush := by
  refine def_ok F hm sc_push (fun _ _ _ _ _ _ us hl => match us, hl with | [_, _, _, _], _ => rfl) (fun ds r h => by obtain ⟨_, _, _, _, rfl, _⟩ := h; rfl) (fun cdv A outer s H E qs ds r hr h => ?_)
  obtain ⟨ts, i, n, d, rfl, h1, h2, h3, rfl⟩ := h
  have l1 := List.length_take_le i ts
  have l2 : (ts.drop i).length ≤ ts.length := by rw [List.length_drop]; omega
  refine sd_ret (d := .tuple (pushD ts i n d)) (PD.eq (pd_slT (i := none) (j := some ((ts.length : Nat) : Int)) (pd_catT (ds := ts.take i ++ List.replicate n d) (dt := ts.drop i) (pd_catT (ds := ts.take i) (dt := List.replicate n d) (PD.eq (pd_slT (i := none) (j := some ((i : Nat) : Int)) (pd_var 0) rfl ⟨_, rfl, pd_var 1⟩) (by rw [cut_to]))
    (PD.eq (pd_rep1 (k := (n : Int)) (pd_tup (pds_cons (pd_var 3) pds_nil)) (pd_var 2) (by omega) (by omega)) (by rw [show ((n : Nat) : Int).toNat = n by omega])) (by rw [List.length_replicate]; omega)) (PD.eq (pd_slT (i := some ((i : Nat) : Int)) (j := none) (pd_var 0) ⟨_, rfl, pd_var 1⟩ rfl) (by rw [cut_from])) (by rw [List.length_append, List.length_replicate]; omega)) rfl ⟨_, rfl, pd_lenT B.len (pd_var 0)⟩) (by rw [cut_to]; rfl)) rfl
theorem ok_pull (F : Df K "pulled" s_pulled f fd) (hm : mg "pulled" = some (.ref f)) (B : Bl mg) : DefOk P w K mg base 1 "pulled" frPull := by
  refine def_ok F hm sc_pull (fun _ _ _ _ _ _ us hl => match us, hl with | [_, _, _, _], _ => rfl) (fun ds r h => by obtain ⟨_, _, _, _, rfl, _⟩ := h; rfl) (fun cdv A outer s H E qs ds r hr h => ?_)
  obtain ⟨ts, i, n, d, rfl, h1, h2, h3, rfl⟩ := h
  have l1 := List.length_take_le i ts
  have l2 : (ts.drop (i + n)).length ≤ ts.length := by rw [List.length_drop]; omega
  refine sd_set 4 (d := .tuple (ts.take i ++ ts.drop (i + n))) (pd_catT (PD.eq (pd_slT (i := none) (j := some ((i : Nat) : Int)) (pd_var 0) rfl ⟨_, rfl, pd_var 1⟩) (by rw [cut_to])) (PD.eq (pd_slT (i := some (((i + n : Nat)) : Int)) (j := none) (pd_var 0) ⟨_, rfl, PD.eq (pd_add (pd_var 1) (pd_var 2)) (by congr 1)⟩ rfl) (by rw [cut_from])) (by omega)) ?_ sc_pull.nd
  have l3 : (ts.take i ++ ts.drop (i + n)).length ≤ ts.length := by
    rw [List.length_append, List.length_take, List.length_drop]
    omega
  refine sd_ret (PD.eq (pd_catT (pd_var 4) (PD.eq (pd_rep1 (k := (ts.length : Int) - ((ts.take i ++ ts.drop (i + n)).length : Int)) (pd_tup (pds_cons (pd_var 3) pds_nil)) (pd_sub (pd_lenT B.len (pd_var 0)) (pd_lenT B.len (pd_var 4))) (by omega) (by omega)) (by rw [show ((ts.length : Int) - ((ts.take i ++ ts.drop (i + n)).length : Int)).toNat = ts.length - (ts.take i ++ ts.drop (i + n)).length by omega])) (by rw [List.length_replicate]; omega)) rfl) rfl
def rollD (rs : List PyData) (wd : Nat) (by_ : Int) : List PyData := if by_ < 0 then pushD rs 0 (-by_).toNat (.tuple (List.replicate wd blankC)) else pullD rs 0 by_.toNat (.tuple (List.replicate wd blankC))
def frRoll : List PyData → Rs → Prop := fun ds r => ∃ (c0 : List PyData) (rs : List PyData) (by_ : Int), ds = [.tuple (.tuple c0 :: rs), .int by_] ∧ rs.length < 100 ∧ c0.length ≤ 100 ∧ -100 ≤ by_ ∧ by_ ≤ 100 ∧ r = .ok (.tuple (rollD (.tuple c0 :: rs) c0.length by_))
theorem sc_roll : FnScope ["rows", "by", "new"] ["rows", "by"] (defScope s_rolled) := ⟨rfl, rfl, rfl, by decide +kernel, rfl, by decide +kernel, by decide +kernel⟩
theorem ok_roll (F : Df K "rolled" s_rolled f fd) (hm : mg "rolled" = some (.ref f)) (B : Bl mg) (G1 : DefOk P w K mg base 1 "pushed" frPush) (G2 : DefOk P w K mg base 1 "pulled" frPull) (G3 : DefOk P w K mg base 1 "blank_cells" frBlankCells) : DefOk P w K mg base 2 "rolled" frRoll := by
  refine def_ok F hm sc_roll (fun _ _ _ _ _ _ us hl => match us, hl with | [_, _], _ => rfl) (fun ds r h => by obtain ⟨_, _, _, rfl, _⟩ := h; rfl) (fun cdv A outer s H E qs ds r hr h => ?_)
  obtain ⟨c0, rs, by_, rfl, h1, h2, h3, h4, rfl⟩ := h
  refine sd_set 2 (d := .tuple (List.replicate c0.length blankC)) (PD.eq (pd_call G3 hr (pds_cons (pd_lenT B.len (pd_ixT (pd_var 0) pd_int atI0)) pds_nil) ⟨_, rfl, by omega, by omega, rfl⟩) (by rw [show ((c0.length : Nat) : Int).toNat = c0.length by omega])) ?_ sc_roll.nd
  refine sd_if (pt_cmpd op_lt rd_B0 (pd_var 1) pd_int (nomark _)) (fun hk => ?_) (fun hk => sd_nil ?_)
  · have hlt := of_decide_eq_true hk
    refine sd_ret (pd_call G1 hr (pds_cons (pd_var 0) (pds_cons pd_int (pds_cons (pd_neg (pd_var 1)) (pds_cons (pd_var 2) pds_nil)))) ⟨_, 0, (-by_).toNat, _, by rw [show (((-by_).toNat : Nat) : Int) = -by_ by omega]; rfl, by simp; omega, by decide, by omega, rfl⟩) ?_
    unfold rollD
    rw [if_pos hlt]
    exact rfl
  · have hge := of_decide_eq_false hk
    refine sd_ret (pd_call G2 hr (pds_cons (pd_var 0) (pds_cons pd_int (pds_cons (pd_var 1) (pds_cons (pd_var 2) pds_nil)))) ⟨_, 0, by_.toNat, _, by rw [show ((by_.toNat : Nat) : Int) = by_ by omega]; rfl, by simp; omega, by decide, by omega, rfl⟩) ?_
    unfold rollD
    rw [if_neg hge]
    exact rfl
end
end K93

namespace K93
open PySem PySem.Spec PyProof.Rows L2 FP
section
variable {P : Program} {w : World} {K : PySem.W.Frag} {mg : Str → Option Value} {base : Heap} {f C : Addr} {fd : FuncData}
theorem rd_eqS {K : PySem.W.Frag} {y z : Str} : RD K rEq (.str y) (.str z) (.bool (decide (y = z))) := fun ps u v H _ hx hy Q k => by
  cases hx
  cases hy
  refine ⟨rfl, ?_⟩
  have e : decide (V.str y = V.str z) = decide (y = z) := by
    by_cases c : y = z
    · subst c
      simp
    · rw [decide_eq_false c, decide_eq_false (fun q => c (V.str.inj q))]
  rw [e]
  exact k _ H (Same.refl H) (.bl _)
theorem rd_neT {K : PySem.W.Frag} {y z : Str} : RD K rNe (.str y) (.str z) (.bool (!decide (y = z))) := fun ps u v H _ hx hy Q k => by
  cases hx
  cases hy
  refine ⟨rfl, ?_⟩
  have e : decide (V.str y = V.str z) = decide (y = z) := by
    by_cases c : y = z
    · subst c
      simp
    · rw [decide_eq_false c, decide_eq_false (fun q => c (V.str.inj q))]
  rw [e]
  exact k _ H (Same.refl H) (.bl _)
def geZ : PyData → Bool
  | .int i => decide (0 ≤ i)
  | _ => false
def neZ : PyData → Bool
  | .int i => !decide (i = 0)
  | _ => false
def neE : PyData → Bool
  | .str z => !decide (z = "")
  | _ => false
def isPlace (r c : PyData) : Bool := isWhole r && (geZ r && (isWhole c && geZ c))
def partRoll : List PyData → Bool
  | [b] => isWithin b (-10) 10 && neZ b
  | _ => false
def partPut : List PyData → Bool
  | [r, c, k, y] => isPlace r c && (isWithin k 0 7 && (areSigns y && neE y))
  | _ => false
def partCur : List PyData → Bool
  | [r, c] => isPlace r c
  | _ => false
def isPart : PyData → Bool
  | .tuple (.str z :: told) => if z = "roll" then partRoll told else if z = "put" then partPut told else if z = "cursor" then partCur told else false
  | _ => false
def okP (d : PyData) : Prop := ∀ x told, d = .tuple (x :: told) → told.length ≤ 100 ∧ ∀ y ∈ told, smS y
def frPlace : List PyData → Rs → Prop := fun ds s => ∃ r c, ds = [r, c] ∧ s = .ok (.bool (isPlace r c))
theorem sc_place : FnScope ["row", "column"] ["row", "column"] (defScope s_is_place) := ⟨rfl, rfl, rfl, by decide +kernel, rfl, by decide +kernel, by decide +kernel⟩
theorem whole_int {d : PyData} (h : isWhole d = true) : ∃ i, d = .int i := by
  cases d <;> first | exact ⟨_, rfl⟩ | cases h
theorem ok_isplace (F : Df K "is_place" s_is_place f fd) (hm : mg "is_place" = some (.ref f)) (G1 : DefOk P w K mg base 1 "is_whole" frWhole) : DefOk P w K mg base 2 "is_place" frPlace := by
  refine def_ok F hm sc_place (fun _ _ _ _ _ _ us hl => match us, hl with | [_, _], _ => rfl) (fun ds r h => by obtain ⟨_, _, rfl, _⟩ := h; rfl) (fun cdv A outer s H E qs ds r hr h => ?_)
  obtain ⟨r, c, rfl, rfl⟩ := h
  refine sd_ret (pd_and (x := isWhole r) (y := geZ r && (isWhole c && geZ c)) (pd_call G1 hr (pds_cons (pd_var 0) pds_nil) ⟨r, rfl, rfl⟩) (fun hr1 => ?_)) rfl
  obtain ⟨i, rfl⟩ := whole_int hr1
  refine pd_and (x := geZ (.int i)) (y := isWhole c && geZ c) (pd_ge (pd_var 0) pd_int) (fun _ => ?_)
  refine pd_and (x := isWhole c) (y := geZ c) (pd_call G1 hr (pds_cons (pd_var 1) pds_nil) ⟨c, rfl, rfl⟩) (fun hc1 => ?_)
  obtain ⟨j, rfl⟩ := whole_int hc1
  exact pd_one (pd_ge (pd_var 1) pd_int)
def frIsPart : List PyData → Rs → Prop := fun ds r => ∃ d, ds = [d] ∧ okP d ∧ r = .ok (.bool (isPart d))
abbrev NPt : List Str := ["part", "by", "row", "column", "ink", "text"]
theorem sc_part : FnScope NPt ["part"] (defScope s_is_part) := ⟨rfl, rfl, rfl, by decide +kernel, rfl, by decide +kernel, by decide +kernel⟩
theorem within_int {d : PyData} {a b : Int} (h : isWithin d a b = true) : ∃ i, d = .int i := by
  cases d <;> first | exact ⟨_, rfl⟩ | cases h
theorem signs_strP {d : PyData} (h : areSigns d = true) : ∃ z, d = .str z := by
  cases d <;> first | exact ⟨_, rfl⟩ | cases h
theorem ok_ispart (F : Df K "is_part" s_is_part f fd) (hm : mg "is_part" = some (.ref f)) (B : Bl mg) (g1 : GlD K mg "MOST_ROLL" (.int 10)) (g2 : GlD K mg "MOST_INK" (.int 7)) (GW : DefOk P w K mg base 2 "is_within" frWithin) (GP : DefOk P w K mg base 2 "is_place" frPlace) (GS : DefOk P w K mg base 1 "are_signs" frSigns) : DefOk P w K mg base 3 "is_part" frIsPart := by
  refine def_ok F hm sc_part (fun _ _ _ _ _ _ us hl => match us, hl with | [_], _ => rfl) (fun ds r h => by obtain ⟨_, rfl, _⟩ := h; rfl) (fun cdv A outer s H E qs ds r hr h => ?_)
  obtain ⟨d, rfl, sm, rfl⟩ := h
  have hr1 : Room 1 (A.deeper (envOfC "is_part" (defScope s_is_part) s.heap.objs.size f cdv)) := hr.mono (by decide)
  by_cases hd : ∃ ds, d = .tuple ds
  · obtain ⟨ds, rfl⟩ := hd
    cases ds with
    | nil => exact sd_ifT (PWd.pt (PWd.eq (pw_ord (pt_notd (pt_bool (pd_isi B.isi B.tuple bb_tuple (pd_var 0) (k_tuple _)))) (fun _ => pw_orT (pt_notd (k := false) (pt_truT (pd_var 0) rfl)))) rfl)) (sd_ret pd_bl rfl)
    | cons x told =>
      obtain ⟨sl, ss⟩ := sm x told rfl
      by_cases hx : ∃ z, x = .str z
      · obtain ⟨z, rfl⟩ := hx
        refine sd_ifF (PWd.pt (pw_ord (x := false) (y := false) (pt_notd (k := true) (pt_bool (pd_isi B.isi B.tuple bb_tuple (pd_var 0) (k_tuple _)))) (fun _ => pw_ord (x := false) (y := false) (pt_notd (k := true) (pt_truT (pd_var 0) rfl)) (fun _ => pw_or1d (pt_notd (k := true) (pt_bool (pd_isi B.isi B.str bb_str (pd_ixT (d := .str z) (pd_var 0) pd_int atI0) (k_str _)))))))) ?_
        refine sd_match (pd_var 0) ?_
        have no : isPart (.tuple (.str z :: told)) = false → SD (cxOf (L2N.CX P w) P w K mg base NPt "is_part" (defScope s_is_part) f cdv A outer s H E) (WOf E) [] ((defBody s_is_part).drop 2) [some (.im (.tuple (.str z :: told))), none, none, none, none, none] ⟨qs, []⟩ (Fin (.ok (.bool (isPart (.tuple (.str z :: told)))))) := by
          intro e
          rw [e]
          exact sd_ret pd_bl rfl
        match told, sl, ss with
        | [b], sl, ss =>
          by_cases hz : z = "roll"
          · subst hz
            refine mc_hit [1] rfl sc_part.nd rfl (by simp) rfl rfl (show capB NPt (defScope s_is_part) ["by"] [1] = true by decide +kernel) ?_
            refine sd_ret (pd_and (x := isWithin b (-10) 10) (y := neZ b) (pd_call GW (hr.mono (by decide)) (pds_cons (pd_var 1) (pds_cons (pd_neg (pd_glob g1)) (pds_cons (pd_glob g1) pds_nil))) ⟨b, -10, 10, rfl, rfl⟩) (fun hb => ?_)) rfl
            obtain ⟨i, rfl⟩ := within_int hb
            exact pd_one (pd_neI (pd_var 1) pd_int)
          · refine mc_word rfl hz rfl (by simp) (mc_len (by simp) (by simp) (mc_len (by simp) (by simp) (mc_nil (no ?_))))
            show (if z = "roll" then _ else if z = "put" then false else if z = "cursor" then false else false) = false
            rw [if_neg hz]
            split <;> (try split) <;> rfl
        | [r, c], sl, ss =>
          by_cases hz : z = "cursor"
          · subst hz
            refine mc_len (by simp) (by simp) (mc_len (by simp) (by simp) (mc_hit [2, 3] rfl sc_part.nd rfl (by simp) rfl rfl (show capB NPt (defScope s_is_part) ["row", "column"] [2, 3] = true by decide +kernel) ?_))
            exact sd_ret (pd_call GP (hr.mono (by decide)) (pds_cons (pd_var 2) (pds_cons (pd_var 3) pds_nil)) ⟨r, c, rfl, rfl⟩) rfl
          · refine mc_len (by simp) (by simp) (mc_len (by simp) (by simp) (mc_word rfl hz rfl (by simp) (mc_nil (no ?_))))
            show (if z = "roll" then false else if z = "put" then false else if z = "cursor" then _ else false) = false
            rw [if_neg hz]
            split <;> (try split) <;> rfl
        | [r, c, k, y], sl, ss =>
          by_cases hz : z = "put"
          · subst hz
            have sy := ss y (by simp)
            refine mc_len (by simp) (by simp) (mc_hit [2, 3, 4, 5] rfl sc_part.nd rfl (by simp) rfl rfl (show capB NPt (defScope s_is_part) ["row", "column", "ink", "text"] [2, 3, 4, 5] = true by decide +kernel) ?_)
            refine sd_ret (pd_and (x := isPlace r c) (y := isWithin k 0 7 && (areSigns y && neE y)) (pd_call GP (hr.mono (by decide)) (pds_cons (pd_var 2) (pds_cons (pd_var 3) pds_nil)) ⟨r, c, rfl, rfl⟩) (fun _ => ?_)) rfl
            refine pd_and (x := isWithin k 0 7) (y := areSigns y && neE y) (pd_call GW (hr.mono (by decide)) (pds_cons (pd_var 4) (pds_cons pd_int (pds_cons (pd_glob g2) pds_nil))) ⟨k, 0, 7, rfl, rfl⟩) (fun _ => ?_)
            refine pd_and (x := areSigns y) (y := neE y) (pd_call GS hr1 (pds_cons (pd_var 5) pds_nil) ⟨y, rfl, rfl, fun z e => sy z e⟩) (fun hs => ?_)
            obtain ⟨q, rfl⟩ := signs_strP hs
            exact pd_one (pd_cmp op_ne rd_neT (pd_var 5) pd_str (nomark _))
          · refine mc_len (by simp) (by simp) (mc_word rfl hz rfl (by simp) (mc_len (by simp) (by simp) (mc_nil (no ?_))))
            show (if z = "roll" then false else if z = "put" then _ else if z = "cursor" then false else false) = false
            rw [if_neg hz]
            split <;> (try split) <;> rfl
        | [], sl, ss =>
          refine mc_len (by simp) (by simp) (mc_len (by simp) (by simp) (mc_len (by simp) (by simp) (mc_nil (no ?_))))
          show (if z = "roll" then false else if z = "put" then false else if z = "cursor" then false else false) = false
          split <;> (try split) <;> (try split) <;> rfl
        | [a, b, c], sl, ss =>
          refine mc_len (by simp) (by simp) (mc_len (by simp) (by simp) (mc_len (by simp) (by simp) (mc_nil (no ?_))))
          show (if z = "roll" then false else if z = "put" then false else if z = "cursor" then false else false) = false
          split <;> (try split) <;> (try split) <;> rfl
        | a :: b :: c :: d :: e :: rest, sl, ss =>
          have hl : rest.length ≤ 100 := by
            simp only [List.length_cons] at sl
            omega
          have hz : ((.str z :: a :: b :: c :: d :: e :: rest : List PyData)).length ≤ 100000 := by
            simp only [List.length_cons]
            omega
          refine mc_len (by simp) hz (mc_len (by simp) hz (mc_len (by simp) hz (mc_nil (no ?_))))
          show (if z = "roll" then false else if z = "put" then false else if z = "cursor" then false else false) = false
          split <;> (try split) <;> (try split) <;> rfl
      · have nS : isS x = false := by
          cases x with
          | str q => exact absurd ⟨q, rfl⟩ hx
          | _ => rfl
        have e : isPart (.tuple (x :: told)) = false := by
          cases x with
          | str q => exact absurd ⟨q, rfl⟩ hx
          | _ => rfl
        rw [e]
        refine sd_ifT (PWd.pt (PWd.eq (pw_ord (x := false) (pt_notd (k := true) (pt_bool (pd_isi B.isi B.tuple bb_tuple (pd_var 0) (k_tuple _)))) (fun _ => pw_ord (x := false) (pt_notd (k := true) (pt_truT (pd_var 0) rfl)) (fun _ => pw_or1d (pt_notd (pt_bool (pd_isi B.isi B.str bb_str (pd_ixT (d := x) (pd_var 0) pd_int atI0) (k_str _))))))) (by rw [nS]; rfl))) (sd_ret pd_bl rfl)
  · have nT : isT d = false := by
      cases d with
      | tuple q => exact absurd ⟨q, rfl⟩ hd
      | _ => rfl
    have e : isPart d = false := by
      cases d with
      | tuple q => exact absurd ⟨q, rfl⟩ hd
      | _ => rfl
    rw [e]
    exact sd_ifT (PWd.pt (pw_orT (PTd.eq (pt_notd (pt_bool (pd_isi B.isi B.tuple bb_tuple (pd_var 0) (k_tuple _)))) (by rw [nT]; rfl)))) (sd_ret pd_bl rfl)
def areParts : PyData → Bool
  | .list xs => xs.all isPart
  | _ => false
def okPs (d : PyData) : Prop := ∀ xs, d = .list xs → ∀ x ∈ xs, okP x
def frNeedC (C : Addr) : List PyData → Rs → Prop := fun ds r => ∃ d, ds = [d] ∧ okPs d ∧ r = if areParts d then .ok .none else .er C
theorem sc_nc : FnScope ["change", "part"] ["change"] (defScope s_need_change) := ⟨rfl, rfl, rfl, by decide +kernel, rfl, by decide +kernel, by decide +kernel⟩
theorem ok_nc (F : Df K "need_change" s_need_change f fd) (hm : mg "need_change" = some (.ref f)) (B : Bl mg) (ml : mg "list" = none) (X1 : ExcF K mg "BadChange" C) (G1 : DefOk P w K mg base 3 "is_part" frIsPart) : DefOk P w K mg base 4 "need_change" (frNeedC C) := by
  refine def_ok F hm sc_nc (fun _ _ _ _ _ _ us hl => match us, hl with | [_], _ => rfl) (fun ds r h => by obtain ⟨_, rfl, _⟩ := h; rfl) (fun cdv A outer s H E qs ds r hr h => ?_)
  obtain ⟨d, rfl, sm, rfl⟩ := h
  have tk : L2N.Takes (cxOf (L2N.CX P w) P w K mg base ["change", "part"] "need_change" (defScope s_need_change) f cdv A outer s H E) (WOf E) := L2N.takes_of rfl rfl rfl rfl
  by_cases hd : ∃ xs, d = .list xs
  · obtain ⟨xs, rfl⟩ := hd
    refine sd_ifF (pt_notd (k := true) (pt_bool (pd_isi B.isi ml bb_list (pd_var 0) (k_list _)))) ?_
    refine sd_for 1 (items := xs) (fun i δ' ω' => (xs.take i).all isPart = true ∧ ω' = ⟨qs, []⟩ ∧ ∃ y1, δ' = [some (.im (.list xs)), y1]) (wk_lst (pd_var 0)) ⟨rfl, rfl, _, rfl⟩ ?_ ?_ (pg_name sc_nc.nd rfl (Or.inl rfl)) (passes_of rfl) rfl
    · rintro i d δ' ω' hd ⟨ha, rfl, y1, rfl⟩
      refine sd_if (pt_notd (pt_bool (pd_call G1 hr (pds_cons (pd_var 1) pds_nil) ⟨d, rfl, sm xs rfl d (List.mem_of_getElem? hd), rfl⟩))) (fun hk => ?_) (fun hk => sd_nil (sd_nil ⟨?_, rfl, _, rfl⟩))
      · have hf : isPart d = false := by
          cases e : isPart d with
          | false => rfl
          | true =>
            rw [e] at hk
            cases hk
        refine sd_raise X1 tk ?_ rfl
        show (if areParts (.list xs) = true then Rs.ok PyData.none else Rs.er C) = Rs.er C
        rw [if_neg]
        intro z
        have := List.all_eq_true.mp (show xs.all isPart = true from z) d (List.mem_of_getElem? hd)
        rw [hf] at this
        cases this
      · have hf : isPart d = true := by
          cases e : isPart d with
          | true => rfl
          | false =>
            rw [e] at hk
            cases hk
        rw [List.take_add_one, hd, List.all_append, ha]
        simp [hf]
    · rintro δ' ω' ⟨ha, rfl, y1, rfl⟩
      refine sd_nil ?_
      rw [List.take_length] at ha
      show (if areParts (.list xs) = true then Rs.ok PyData.none else Rs.er C) = Rs.ok PyData.none
      rw [if_pos (show areParts (.list xs) = true from ha)]
  · have nL : isL d = false := by
      cases d with
      | list q => exact absurd ⟨q, rfl⟩ hd
      | _ => rfl
    refine sd_ifT (PTd.eq (pt_notd (pt_bool (pd_isi B.isi ml bb_list (pd_var 0) (k_list _)))) (by rw [nL]; rfl)) (sd_raise X1 tk ?_ rfl)
    show (if areParts d = true then Rs.ok PyData.none else Rs.er C) = Rs.er C
    cases d with
    | list q => exact absurd ⟨q, rfl⟩ hd
    | _ => rfl
end
end K93

namespace K93
open PySem PySem.Spec PyProof.Rows L2 FP
section
variable {α β : Type}
def pushA (ts : List α) (i n : Nat) (d : α) : List α := (ts.take i ++ List.replicate n d ++ ts.drop i).take ts.length
def pullA (ts : List α) (i n : Nat) (d : α) : List α := (ts.take i ++ ts.drop (i + n)) ++ List.replicate (ts.length - (ts.take i ++ ts.drop (i + n)).length) d
theorem pushA_len (ts : List α) (i n : Nat) (d : α) : (pushA ts i n d).length = ts.length := by
  unfold pushA
  rw [List.length_take, List.length_append, List.length_append, List.length_replicate, List.length_take, List.length_drop]
  omega
theorem pullA_len (ts : List α) (i n : Nat) (d : α) : (pullA ts i n d).length = ts.length := by
  unfold pullA
  rw [List.length_append, List.length_append, List.length_replicate, List.length_take, List.length_drop]
  omega
theorem pushA_mem {ts : List α} {i n : Nat} {d x : α} (h : x ∈ pushA ts i n d) : x ∈ ts ∨ x = d := by
  have h := List.mem_of_mem_take h
  rcases List.mem_append.mp h with h | h
  · rcases List.mem_append.mp h with h | h
    · exact .inl (List.mem_of_mem_take h)
    · exact .inr (List.mem_replicate.mp h).2
  · exact .inl (List.mem_of_mem_drop h)
theorem pullA_mem {ts : List α} {i n : Nat} {d x : α} (h : x ∈ pullA ts i n d) : x ∈ ts ∨ x = d := by
  rcases List.mem_append.mp h with h | h
  · rcases List.mem_append.mp h with h | h
    · exact .inl (List.mem_of_mem_take h)
    · exact .inl (List.mem_of_mem_drop h)
  · exact .inr (List.mem_replicate.mp h).2
theorem pushA_map (g : α → β) (ts : List α) (i n : Nat) (d : α) : (pushA ts i n d).map g = pushA (ts.map g) i n (g d) := by
  unfold pushA
  rw [List.map_take, List.map_append, List.map_append, List.map_take, List.map_drop, List.map_replicate, List.length_map]
theorem pullA_map (g : α → β) (ts : List α) (i n : Nat) (d : α) : (pullA ts i n d).map g = pullA (ts.map g) i n (g d) := by
  unfold pullA
  rw [List.map_append, List.map_append, List.map_take, List.map_drop, List.map_replicate, List.length_map, List.length_append, List.length_append, List.length_take, List.length_take, List.length_drop, List.length_drop, List.length_map]
end
def blankR (w : Nat) : List PyData := List.replicate w blankC
def rollA (rs : List (List PyData)) (w : Nat) (n : Int) : List (List PyData) := if n < 0 then pushA rs 0 (-n).toNat (blankR w) else pullA rs 0 n.toNat (blankR w)
theorem blankR_ok {w : Nat} : (blankR w).length = w ∧ ∀ y ∈ blankR w, isCell y = true := ⟨List.length_replicate, fun y h => by
  rw [(List.mem_replicate.mp h).2]
  exact blank_cell⟩
theorem rollA_len (rs : List (List PyData)) (w : Nat) (n : Int) : (rollA rs w n).length = rs.length := by
  unfold rollA
  split
  · exact pushA_len _ _ _ _
  · exact pullA_len _ _ _ _
theorem rollA_mem {rs : List (List PyData)} {w : Nat} {n : Int} {r : List PyData} (h : r ∈ rollA rs w n) : r ∈ rs ∨ r = blankR w := by
  unfold rollA at h
  split at h
  · exact pushA_mem h
  · exact pullA_mem h
theorem roll_map (rs : List (List PyData)) (w : Nat) (n : Int) : rollD (rs.map .tuple) w n = (rollA rs w n).map .tuple := by
  unfold rollD rollA
  split
  · exact (pushA_map PyData.tuple rs 0 _ (blankR w)).symm
  · exact (pullA_map PyData.tuple rs 0 _ (blankR w)).symm
structure Sc where
  rows : List (List PyData)
  row : Nat
  col : Nat
  h : Nat
  w : Nat
structure Sc.Ok (s : Sc) : Prop where
  len : s.rows.length = s.h
  wid : ∀ r ∈ s.rows, r.length = s.w ∧ ∀ y ∈ r, isCell y = true
  hr : s.row < s.h
  hc : s.col < s.w
  h10 : s.h ≤ 10
  w20 : s.w ≤ 20
def Sc.d (s : Sc) : PyData := .tuple [.tuple (s.rows.map .tuple), .int (s.row : Int), .int (s.col : Int)]
theorem Sc.Ok.fc {s : Sc} (o : s.Ok) : Fc s.h s.w s.d (s.rows.map .tuple) s.row s.col :=
  ⟨rfl, by rw [List.length_map]; exact o.len, fun x hx => by
    obtain ⟨r, hr, rfl⟩ := List.mem_map.mp hx
    exact ⟨r, rfl, (o.wid r hr).1, (o.wid r hr).2⟩, o.hr, o.hc, o.h10, o.w20⟩
theorem Sc.of_fc {h wd r c : Nat} {d : PyData} {rs : List PyData} (F : Fc h wd d rs r c) : ∃ s : Sc, s.Ok ∧ s.h = h ∧ s.w = wd ∧ d = s.d := by
  have row := F.row
  have key : ∃ rs' : List (List PyData), rs = rs'.map .tuple := by
    clear F
    induction rs with
    | nil => exact ⟨[], rfl⟩
    | cons x xs ih =>
      obtain ⟨cs, rfl, _, _⟩ := row x List.mem_cons_self
      obtain ⟨rs', rfl⟩ := ih fun y hy => row y (List.mem_cons_of_mem _ hy)
      exact ⟨cs :: rs', rfl⟩
  obtain ⟨rs', rfl⟩ := key
  have hl := F.len
  rw [List.length_map] at hl
  refine ⟨⟨rs', r, c, h, wd⟩, ⟨hl, fun x hx => ?_, F.hr, F.hc, F.h10, F.w20⟩, rfl, rfl, F.eq⟩
  obtain ⟨cs, e, l, a⟩ := row (.tuple x) (List.mem_map.mpr ⟨x, hx, rfl⟩)
  cases e
  exact ⟨l, a⟩
inductive Pt where
  | roll (n : Int)
  | put (r c k : Nat) (z : Str)
  | cur (r c : Nat)
def Pt.d : Pt → PyData
  | .roll n => .tuple [.str "roll", .int n]
  | .put r c k z => .tuple [.str "put", .int (r : Int), .int (c : Int), .int (k : Int), .str z]
  | .cur r c => .tuple [.str "cursor", .int (r : Int), .int (c : Int)]
def Pt.Ok : Pt → Prop
  | .roll n => -10 ≤ n ∧ n ≤ 10 ∧ n ≠ 0
  | .put _ _ k z => k ≤ 7 ∧ 1 ≤ z.length ∧ z.length ≤ 1000 ∧ ∀ c ∈ z.cps.toList, okSign c = true
  | .cur _ _ => True
def cellsZ (z : Str) (k : Nat) : List PyData := z.cps.toList.map fun x => cellD x (k : Int)
def putC (cs : List PyData) (c : Nat) (new : List PyData) : List PyData := cs.take c ++ new ++ cs.drop (c + new.length)
def Sc.part (s : Sc) : Pt → Option Sc
  | .roll n => some { s with rows := rollA s.rows s.w n }
  | .put r c k z => if r < s.h ∧ c + z.length ≤ s.w then some { s with rows := s.rows.set r (putC (s.rows.getD r []) c (cellsZ z k)) } else none
  | .cur r c => if r < s.h ∧ c + 1 ≤ s.w then some { s with row := r, col := c } else none
def Sc.all (s : Sc) : List Pt → Option Sc
  | [] => some s
  | p :: ps => match s.part p with
    | some t => t.all ps
    | none => none
theorem cellsZ_len (z : Str) (k : Nat) : (cellsZ z k).length = z.length := by
  unfold cellsZ
  rw [List.length_map, Array.length_toList]
  rfl
theorem cell_okN {c : Nat} {i : Nat} (hc : okSign c = true) (hi : i ≤ 7) : isCell (cellD c (i : Int)) = true := by
  show ((([c] : List Nat).all okSign && decide (([c] : List Nat).length = 1)) && (decide ((0 : Int) ≤ (i : Int)) && decide ((i : Int) ≤ 7))) = true
  rw [decide_eq_true (show (0 : Int) ≤ (i : Int) by omega), decide_eq_true (show (i : Int) ≤ 7 by omega)]
  simp [hc]
theorem cellsZ_ok {z : Str} {k : Nat} (hk : k ≤ 7) (h : ∀ c ∈ z.cps.toList, okSign c = true) : ∀ y ∈ cellsZ z k, isCell y = true := fun y hy => by
  obtain ⟨c, hc, rfl⟩ := List.mem_map.mp hy
  exact cell_okN (h c hc) hk
theorem putC_len {cs new : List PyData} {c : Nat} (h : c + new.length ≤ cs.length) : (putC cs c new).length = cs.length := by
  unfold putC
  rw [List.length_append, List.length_append, List.length_take, List.length_drop]
  omega
theorem Sc.Ok.row_at {s : Sc} (o : s.Ok) {r : Nat} (h : r < s.h) : s.rows[r]? = some (s.rows.getD r []) ∧ (s.rows.getD r []).length = s.w ∧ ∀ y ∈ s.rows.getD r [], isCell y = true := by
  have hl : r < s.rows.length := by rw [o.len]; exact h
  have e : s.rows.getD r [] = s.rows[r] := by rw [List.getD_eq_getElem?_getD, List.getElem?_eq_getElem hl]; rfl
  rw [e, List.getElem?_eq_getElem hl]
  exact ⟨rfl, o.wid _ (List.getElem_mem hl)⟩
theorem Sc.Ok.part {s t : Sc} {p : Pt} (o : s.Ok) (hp : p.Ok) (e : s.part p = some t) : t.Ok ∧ t.h = s.h ∧ t.w = s.w := by
  cases p with
  | roll n =>
    cases e
    refine ⟨⟨(rollA_len _ _ _).trans o.len, fun r hr => ?_, o.hr, o.hc, o.h10, o.w20⟩, rfl, rfl⟩
    rcases rollA_mem hr with q | q
    · exact o.wid r q
    · rw [q]
      exact blankR_ok
  | put r c k z =>
    replace e : (if r < s.h ∧ c + z.length ≤ s.w then some { s with rows := s.rows.set r (putC (s.rows.getD r []) c (cellsZ z k)) } else none) = some t := e
    split at e
    · rename_i hh
      cases e
      obtain ⟨a1, a2, a3⟩ := o.row_at hh.1
      refine ⟨⟨List.length_set.trans o.len, fun x hx => ?_, o.hr, o.hc, o.h10, o.w20⟩, rfl, rfl⟩
      rcases List.mem_or_eq_of_mem_set hx with q | q
      · exact o.wid x q
      · subst q
        refine ⟨(putC_len (by rw [cellsZ_len, a2]; exact hh.2)).trans a2, fun y hy => ?_⟩
        unfold putC at hy
        rcases List.mem_append.mp hy with q | q
        · rcases List.mem_append.mp q with q | q
          · exact a3 y (List.mem_of_mem_take q)
          · exact cellsZ_ok hp.1 hp.2.2.2 y q
        · exact a3 y (List.mem_of_mem_drop q)
    · cases e
  | cur r c =>
    replace e : (if r < s.h ∧ c + 1 ≤ s.w then some { s with row := r, col := c } else none) = some t := e
    split at e
    · rename_i hh
      cases e
      exact ⟨⟨o.len, o.wid, hh.1, by have := hh.2; show c < s.w; omega, o.h10, o.w20⟩, rfl, rfl⟩
    · cases e
theorem Pt.is {p : Pt} (h : p.Ok) : isPart p.d = true := by
  cases p with
  | roll n =>
    obtain ⟨h1, h2, h3⟩ := h
    show ((decide ((-10 : Int) ≤ n) && decide (n ≤ 10)) && !decide (n = 0)) = true
    rw [decide_eq_true h1, decide_eq_true h2, decide_eq_false h3]
    rfl
  | put r c k z =>
    obtain ⟨h1, h2, h3, h4⟩ := h
    have hz : ¬ z = "" := fun e => by
      subst e
      exact absurd h2 (by decide)
    show (true && (decide ((0 : Int) ≤ (r : Int)) && (true && decide ((0 : Int) ≤ (c : Int)))) && ((decide ((0 : Int) ≤ (k : Int)) && decide ((k : Int) ≤ 7)) && (z.cps.toList.all okSign && !decide (z = "")))) = true
    rw [decide_eq_true (by omega), decide_eq_true (by omega), decide_eq_true (by omega), decide_eq_true (by omega), List.all_eq_true.mpr h4, decide_eq_false hz]
    rfl
  | cur r c =>
    show (true && (decide ((0 : Int) ≤ (r : Int)) && (true && decide ((0 : Int) ≤ (c : Int))))) = true
    rw [decide_eq_true (by omega), decide_eq_true (by omega)]
    rfl
theorem Pt.okP {p : Pt} (h : p.Ok) : K93.okP p.d := by
  intro x told e
  cases p with
  | roll n =>
    cases e
    exact ⟨(show 1 ≤ 100 by decide), fun y hy => by rw [List.mem_singleton.mp hy]; exact fun z e => by cases e⟩
  | put r c k z =>
    cases e
    refine ⟨(show 4 ≤ 100 by decide), fun y hy => ?_⟩
    simp only [List.mem_cons, List.not_mem_nil, or_false] at hy
    rcases hy with rfl | rfl | rfl | rfl
    · exact fun z e => by cases e
    · exact fun z e => by cases e
    · exact fun z e => by cases e
    · intro q e
      cases e
      exact h.2.2.1
  | cur r c =>
    cases e
    refine ⟨(show 2 ≤ 100 by decide), fun y hy => ?_⟩
    simp only [List.mem_cons, List.not_mem_nil, or_false] at hy
    rcases hy with rfl | rfl <;> exact fun z e => by cases e
theorem parts_are {ps : List Pt} (h : ∀ p ∈ ps, p.Ok) : areParts (.list (ps.map Pt.d)) = true := List.all_eq_true.mpr fun x hx => by
  obtain ⟨p, hp, rfl⟩ := List.mem_map.mp hx
  exact Pt.is (h p hp)
theorem parts_ok {ps : List Pt} (h : ∀ p ∈ ps, p.Ok) : okPs (.list (ps.map Pt.d)) := by
  intro xs e x hx
  cases e
  obtain ⟨p, hp, rfl⟩ := List.mem_map.mp hx
  exact Pt.okP (h p hp)
end K93

namespace K93
open PySem PySem.Spec PyProof.Rows L2 FP
section
variable {P : Program} {w : World} {K : PySem.W.Frag} {mg : Str → Option Value} {base : Heap} {f C CF CB : Addr} {fd : FuncData}
theorem rows_form {s : Sc} (o : s.Ok) : ∃ c0 rest, s.rows = c0 :: rest ∧ c0.length = s.w ∧ rest.length < 10 := by
  have h1 := o.len
  have h2 := o.hr
  have h3 := o.h10
  match e : s.rows, h1 with
  | [], h1 => simp at h1; omega
  | c0 :: rest, h1 => exact ⟨c0, rest, rfl, (o.wid c0 (by rw [e]; exact List.mem_cons_self)).1, by simp at h1; omega⟩
theorem roll_call {s : Sc} (o : s.Ok) {n : Int} (h1 : -100 ≤ n) (h2 : n ≤ 100) : frRoll [.tuple (s.rows.map .tuple), .int n] (.ok (.tuple ((rollA s.rows s.w n).map .tuple))) := by
  obtain ⟨c0, rest, e, l, lr⟩ := rows_form o
  have w20 := o.w20
  refine ⟨c0, rest.map .tuple, n, by rw [e]; rfl, by rw [List.length_map]; omega, by omega, h1, h2, ?_⟩
  rw [← roll_map, e, l]
  rfl
def frNp (CB : Addr) : List PyData → Rs → Prop := fun ds q => ∃ (s : Sc) (r c n : Nat), s.Ok ∧ ds = [.tuple (s.rows.map .tuple), .int (r : Int), .int (c : Int), .int (n : Int)] ∧ q = if r < s.h ∧ c + n ≤ s.w then .ok .none else .er CB
theorem sc_np : FnScope ["rows", "row", "column", "many"] ["rows", "row", "column", "many"] (defScope s_need_places) := ⟨rfl, rfl, rfl, by decide +kernel, rfl, by decide +kernel, by decide +kernel⟩
theorem ok_np (F : Df K "need_places" s_need_places f fd) (hm : mg "need_places" = some (.ref f)) (B : Bl mg) (X1 : ExcF K mg "BadChange" CB) : DefOk P w K mg base 1 "need_places" (frNp CB) := by
  refine def_ok F hm sc_np (fun _ _ _ _ _ _ us hl => match us, hl with | [_, _, _, _], _ => rfl) (fun ds r h => by obtain ⟨_, _, _, _, _, rfl, _⟩ := h; rfl) (fun cdv A outer s H E qs ds r hr h => ?_)
  obtain ⟨t, r, c, n, o, rfl, rfl⟩ := h
  have tk : L2N.Takes (cxOf (L2N.CX P w) P w K mg base ["rows", "row", "column", "many"] "need_places" (defScope s_need_places) f cdv A outer s H E) (WOf E) := L2N.takes_of rfl rfl rfl rfl
  obtain ⟨c0, rest, e, l, lr⟩ := rows_form o
  have hl : (t.rows.map PyData.tuple).length = t.h := by rw [List.length_map]; exact o.len
  refine sd_if (pt_cmpd op_ge rd_B0 (pd_var 1) (pd_lenT B.len (pd_var 0)) (nomark _)) (fun hk => ?_) (fun hk => sd_nil ?_)
  · have hk := of_decide_eq_true hk
    rw [hl] at hk
    refine sd_raise X1 tk ?_ rfl
    show (if r < t.h ∧ c + n ≤ t.w then Rs.ok PyData.none else Rs.er CB) = Rs.er CB
    rw [if_neg (by omega)]
  · have hk := of_decide_eq_false hk
    rw [hl] at hk
    refine sd_if (pt_cmpd op_gt rd_B0 (pd_add (pd_var 2) (pd_var 3)) (pd_lenT B.len (pd_ixT (d := .tuple c0) (pd_var 0) pd_int (atI_nat (j := 0) (by rw [e]; rfl)))) (nomark _)) (fun hk2 => ?_) (fun hk2 => sd_nil (sd_nil ?_))
    · have hk2 := of_decide_eq_true hk2
      refine sd_raise X1 tk ?_ rfl
      show (if r < t.h ∧ c + n ≤ t.w then Rs.ok PyData.none else Rs.er CB) = Rs.er CB
      rw [if_neg (by omega)]
    · have hk2 := of_decide_eq_false hk2
      show (if r < t.h ∧ c + n ≤ t.w then Rs.ok PyData.none else Rs.er CB) = Rs.ok PyData.none
      rw [if_pos (by omega)]
def frCs : List PyData → Rs → Prop := fun ds q => ∃ (z : Str) (k : Nat), z.length ≤ 1000 ∧ ds = [.str z, .int (k : Int)] ∧ q = .ok (.tuple (cellsZ z k))
theorem sc_cs : FnScope ["text", "ink", "sign"] ["text", "ink"] (defScope s_cells_of) := ⟨rfl, rfl, rfl, by decide +kernel, rfl, by decide +kernel, by decide +kernel⟩
theorem ok_cs (F : Df K "cells_of" s_cells_of f fd) (hm : mg "cells_of" = some (.ref f)) (B : Bl mg) : DefOk P w K mg base 1 "cells_of" frCs := by
  refine def_ok F hm sc_cs (fun _ _ _ _ _ _ us hl => match us, hl with | [_, _], _ => rfl) (fun ds r h => by obtain ⟨_, _, _, rfl, _⟩ := h; rfl) (fun cdv A outer s H E qs ds r hr h => ?_)
  obtain ⟨z, k, hz, rfl, rfl⟩ := h
  have hl : (signsD z).length = z.length := by
    unfold signsD
    rw [List.length_map, Array.length_toList]
    rfl
  refine sd_ret (pd_tupleL B.tuple (PN.pl (pn_lc (y := "sign") (j := 2) (items := signsD z) (ys := cellsZ z k) rfl sc_cs.nd (PWk.ws (wk_str (pd_var 0))) (by rw [hl, cellsZ_len]) (blkOk_by (N := ["text", "ink", "sign"]) (sc := defScope s_cells_of) (by decide +kernel)) (fun _ _ _ _ _ => pg_name sc_cs.nd rfl (Or.inl rfl)) ?_ (by rw [hl]; omega)))) rfl
  intro i d y hd hy D o s H C cl fp
  unfold signsD at hd
  unfold cellsZ at hy
  rw [List.getElem?_map] at hd hy
  cases hc : z.cps.toList[i]? with
  | none =>
    rw [hc] at hd
    cases hd
  | some c =>
    rw [hc] at hd hy
    cases hd
    cases hy
    exact pd_tup (pds_cons (pd_var 2) (pds_cons (pd_var 1) pds_nil))
def frWp : List PyData → Rs → Prop := fun ds q => ∃ (rs : List (List PyData)) (cs : List PyData) (r c : Nat) (new : List PyData), rs[r]? = some cs ∧ rs.length ≤ 100 ∧ cs.length ≤ 100 ∧ new.length ≤ 1000 ∧ ds = [.tuple (rs.map .tuple), .int (r : Int), .int (c : Int), .tuple new] ∧ q = .ok (.tuple ((rs.set r (putC cs c new)).map .tuple))
abbrev NWp : List Str := ["rows", "row", "column", "new", "cells", "put"]
theorem sc_wp : FnScope NWp ["rows", "row", "column", "new"] (defScope s_with_put) := ⟨rfl, rfl, rfl, by decide +kernel, rfl, by decide +kernel, by decide +kernel⟩
theorem ok_wp (F : Df K "with_put" s_with_put f fd) (hm : mg "with_put" = some (.ref f)) (B : Bl mg) : DefOk P w K mg base 1 "with_put" frWp := by
  refine def_ok F hm sc_wp (fun _ _ _ _ _ _ us hl => match us, hl with | [_, _, _, _], _ => rfl) (fun ds r h => by obtain ⟨_, _, _, _, _, _, _, _, _, rfl, _⟩ := h; rfl) (fun cdv A outer s H E qs ds r hr h => ?_)
  obtain ⟨rs, cs, r, c, new, hx, l1, l2, l3, rfl, rfl⟩ := h
  have hlt := (List.getElem?_eq_some_iff.mp hx).1
  have t1 : (cs.take c).length ≤ cs.length := by rw [List.length_take]; omega
  have t2 : (cs.drop (c + new.length)).length ≤ cs.length := by rw [List.length_drop]; omega
  refine sd_set 4 (d := .tuple cs) (pd_ixT (pd_var 0) (pd_var 1) (atI_nat (j := r) (by rw [List.getElem?_map, hx]; rfl))) ?_ sc_wp.nd
  refine sd_set 5 (d := .tuple (putC cs c new)) (pd_catT (ds := cs.take c ++ new) (dt := cs.drop (c + new.length)) (pd_catT (ds := cs.take c) (dt := new) (PD.eq (pd_slT (i := none) (j := some ((c : Nat) : Int)) (pd_var 4) rfl ⟨_, rfl, pd_var 2⟩) (by rw [cut_to])) (pd_var 3) (by omega)) (PD.eq (pd_slT (i := some (((c + new.length : Nat)) : Int)) (j := none) (pd_var 4) ⟨_, rfl, PD.eq (pd_add (pd_var 2) (pd_lenT B.len (pd_var 3))) rfl⟩ rfl) (by rw [cut_from])) (by rw [List.length_append]; omega)) ?_ sc_wp.nd
  have m1 := List.length_take_le r (rs.map PyData.tuple)
  have m2 : ((rs.map PyData.tuple).drop (r + 1)).length ≤ rs.length := by rw [List.length_drop, List.length_map]; omega
  refine sd_ret (d := .tuple (((rs.map PyData.tuple).take r ++ [PyData.tuple (putC cs c new)]) ++ (rs.map PyData.tuple).drop (r + 1))) ?_ ?_
  · exact pd_catT (ds := (rs.map PyData.tuple).take r ++ [PyData.tuple (putC cs c new)]) (dt := (rs.map PyData.tuple).drop (r + 1)) (pd_catT (ds := (rs.map PyData.tuple).take r) (dt := [PyData.tuple (putC cs c new)]) (PD.eq (pd_slT (i := none) (j := some ((r : Nat) : Int)) (pd_var 0) rfl ⟨_, rfl, pd_var 1⟩) (by rw [cut_to])) (pd_tup (pds_cons (pd_var 5) pds_nil)) (by simp only [List.length_cons, List.length_nil]; omega)) (PD.eq (pd_slT (i := some (((r + 1 : Nat)) : Int)) (j := none) (pd_var 0) ⟨_, rfl, PD.eq (pd_add (pd_var 1) pd_int) rfl⟩ rfl) (by rw [cut_from])) (by rw [List.length_append]; simp only [List.length_cons, List.length_nil]; omega)
  show Rs.ok (.tuple ((rs.set r (putC cs c new)).map .tuple)) = _
  rw [List.map_set, List.set_eq_take_append_cons_drop, if_pos (by rw [List.length_map]; exact hlt)]
  simp
def frPart (CB : Addr) : List PyData → Rs → Prop := fun ds q => ∃ (s : Sc) (p : Pt), s.Ok ∧ p.Ok ∧ ds = [s.d, p.d] ∧ q = match s.part p with | some t => .ok t.d | none => .er CB
abbrev NPd : List Str := ["face", "part", "rows", "row", "column", "by", "at_row", "at_column", "ink", "text", "to_row", "to_column"]
theorem sc_pd : FnScope NPd ["face", "part"] (defScope s_part_done) := ⟨rfl, rfl, rfl, by decide +kernel, rfl, by decide +kernel, by decide +kernel⟩
theorem ok_pd (F : Df K "part_done" s_part_done f fd) (hm : mg "part_done" = some (.ref f)) (B : Bl mg) (GR : DefOk P w K mg base 2 "rolled" frRoll) (GN : DefOk P w K mg base 1 "need_places" (frNp CB)) (GC : DefOk P w K mg base 1 "cells_of" frCs) (GW : DefOk P w K mg base 1 "with_put" frWp) : DefOk P w K mg base 3 "part_done" (frPart CB) := by
  refine def_ok F hm sc_pd (fun _ _ _ _ _ _ us hl => match us, hl with | [_, _], _ => rfl) (fun ds r h => by obtain ⟨_, _, _, _, rfl, _⟩ := h; rfl) (fun cdv A outer s H E qs ds r hr h => ?_)
  obtain ⟨t, p, o, hp, rfl, rfl⟩ := h
  have tk : L2N.Takes (cxOf (L2N.CX P w) P w K mg base NPd "part_done" (defScope s_part_done) f cdv A outer s H E) (WOf E) := L2N.takes_of rfl rfl rfl rfl
  have hr1 : Room 1 (A.deeper (envOfC "part_done" (defScope s_part_done) s.heap.objs.size f cdv)) := hr.mono (by decide)
  have h10 := o.h10
  have w20 := o.w20
  refine sd_unp [2, 3, 4] (ds := [.tuple (t.rows.map .tuple), .int (t.row : Int), .int (t.col : Int)]) (pd_var 0) (pg_tup rfl (pgs_cons (pg_name sc_pd.nd rfl (Or.inl rfl)) (pgs_cons (pg_name sc_pd.nd rfl (Or.inl rfl)) (pgs_cons (pg_name sc_pd.nd rfl (Or.inl rfl)) pgs_nil)))) rfl rfl ?_
  refine sd_match (pd_var 1) ?_
  cases p with
  | roll n =>
    refine mc_hit [5] rfl sc_pd.nd rfl (by simp) rfl rfl (show capB NPd (defScope s_part_done) ["by"] [5] = true by decide +kernel) ?_
    exact sd_ret (pd_tup (pds_cons (pd_call GR (hr.mono (by decide)) (pds_cons (pd_var 2) (pds_cons (pd_var 5) pds_nil)) (roll_call o (by have := hp.1; omega) (by have := hp.2.1; omega))) (pds_cons (pd_var 3) (pds_cons (pd_var 4) pds_nil)))) rfl
  | put r c k z =>
    have hz := hp.2.2.1
    have ez : (z.length : Int) = ((z.length : Nat) : Int) := rfl
    refine mc_len (by simp) (by simp) (mc_hit [6, 7, 8, 9] rfl sc_pd.nd rfl (by simp) rfl rfl (show capB NPd (defScope s_part_done) ["at_row", "at_column", "ink", "text"] [6, 7, 8, 9] = true by decide +kernel) ?_)
    have ep : t.part (.put r c k z) = if r < t.h ∧ c + z.length ≤ t.w then some { t with rows := t.rows.set r (putC (t.rows.getD r []) c (cellsZ z k)) } else none := rfl
    refine sd_callX GN hr1 tk (pds_cons (pd_var 2) (pds_cons (pd_var 6) (pds_cons (pd_var 7) (pds_cons (pd_lenS B.len (pd_var 9) (by omega)) pds_nil)))) ⟨t, r, c, z.length, o, rfl, rfl⟩ (fun d1 e1 => ?_) (fun Z e1 => ?_)
    · have hh : r < t.h ∧ c + z.length ≤ t.w := by
        by_cases hh : r < t.h ∧ c + z.length ≤ t.w
        · exact hh
        · rw [if_neg hh] at e1
          cases e1
      rw [ep, if_pos hh]
      obtain ⟨a1, a2, a3⟩ := o.row_at hh.1
      exact sd_ret (pd_tup (pds_cons (pd_call GW hr1 (pds_cons (pd_var 2) (pds_cons (pd_var 6) (pds_cons (pd_var 7) (pds_cons (pd_call GC hr1 (pds_cons (pd_var 9) (pds_cons (pd_var 8) pds_nil)) ⟨z, k, hz, rfl, rfl⟩) pds_nil)))) ⟨t.rows, _, r, c, cellsZ z k, a1, by rw [o.len]; omega, by rw [a2]; omega, by rw [cellsZ_len]; omega, rfl, rfl⟩) (pds_cons (pd_var 3) (pds_cons (pd_var 4) pds_nil)))) rfl
    · have hh : ¬ (r < t.h ∧ c + z.length ≤ t.w) := fun hh => by
        rw [if_pos hh] at e1
        cases e1
      rw [if_neg hh] at e1
      cases e1
      show (match t.part (.put r c k z) with | some t => Rs.ok t.d | none => Rs.er CB) = Rs.er CB
      rw [ep, if_neg hh]
  | cur r c =>
    refine mc_len (by simp) (by simp) (mc_len (by simp) (by simp) (mc_hit [10, 11] rfl sc_pd.nd rfl (by simp) rfl rfl (show capB NPd (defScope s_part_done) ["to_row", "to_column"] [10, 11] = true by decide +kernel) ?_))
    have ep : t.part (.cur r c) = if r < t.h ∧ c + 1 ≤ t.w then some { t with row := r, col := c } else none := rfl
    refine sd_callX GN hr1 tk (pds_cons (pd_var 2) (pds_cons (pd_var 10) (pds_cons (pd_var 11) (pds_cons pd_int pds_nil)))) ⟨t, r, c, 1, o, rfl, rfl⟩ (fun d1 e1 => ?_) (fun Z e1 => ?_)
    · have hh : r < t.h ∧ c + 1 ≤ t.w := by
        by_cases hh : r < t.h ∧ c + 1 ≤ t.w
        · exact hh
        · rw [if_neg hh] at e1
          cases e1
      rw [ep, if_pos hh]
      exact sd_ret (pd_tup (pds_cons (pd_var 2) (pds_cons (pd_var 10) (pds_cons (pd_var 11) pds_nil)))) rfl
    · have hh : ¬ (r < t.h ∧ c + 1 ≤ t.w) := fun hh => by
        rw [if_pos hh] at e1
        cases e1
      rw [if_neg hh] at e1
      cases e1
      show (match t.part (.cur r c) with | some t => Rs.ok t.d | none => Rs.er CB) = Rs.er CB
      rw [ep, if_neg hh]
end
end K93

namespace K93
open PySem PySem.Spec PyProof.Rows L2 FP
theorem Sc.all_app : ∀ (ps qs : List Pt) (s : Sc), s.all (ps ++ qs) = match s.all ps with | some t => t.all qs | none => none
  | [], qs, s => rfl
  | p :: ps, qs, s => by
    show (match s.part p with | some t => t.all (ps ++ qs) | none => none) = match (match s.part p with | some t => t.all ps | none => none) with | some t => t.all qs | none => none
    cases s.part p with
    | none => rfl
    | some t => exact Sc.all_app ps qs t
theorem Sc.all_snoc {ps : List Pt} {i : Nat} {p : Pt} {s t : Sc} (h : s.all (ps.take i) = some t) (e : ps[i]? = some p) : s.all (ps.take (i + 1)) = t.part p := by
  rw [List.take_add_one, e, Sc.all_app, h]
  show (match t.part p with | some u => some u | none => none) = t.part p
  cases t.part p <;> rfl
theorem Sc.all_none {ps : List Pt} {i : Nat} {s : Sc} (h : s.all (ps.take i) = none) : s.all ps = none := by
  rw [← List.take_append_drop i ps, Sc.all_app, h]
theorem Sc.Ok.all : ∀ {ps : List Pt} {s t : Sc}, s.Ok → (∀ p ∈ ps, p.Ok) → s.all ps = some t → t.Ok ∧ t.h = s.h ∧ t.w = s.w
  | [], s, t, o, _, e => by
    cases e
    exact ⟨o, rfl, rfl⟩
  | p :: ps, s, t, o, hp, e => by
    replace e : (match s.part p with | some t => t.all ps | none => none) = some t := e
    cases e1 : s.part p with
    | none =>
      rw [e1] at e
      cases e
    | some u =>
      rw [e1] at e
      obtain ⟨o1, a1, a2⟩ := o.part (hp p List.mem_cons_self) e1
      obtain ⟨o2, b1, b2⟩ := Sc.Ok.all o1 (fun q hq => hp q (List.mem_cons_of_mem _ hq)) e
      exact ⟨o2, b1.trans a1, b2.trans a2⟩
def rsOf (CB : Addr) : Option Sc → Rs
  | some t => .ok t.d
  | none => .er CB
def Pt.cost : Pt → Nat
  | .roll _ => 4
  | .put _ _ _ z => 4 + z.length
  | .cur _ _ => 3
def costL (ps : List Pt) : List Int := ps.map fun (p : Pt) => ((p.cost : Nat) : Int)
def costs (ps : List Pt) : Int := (costL ps).sum
section
variable {P : Program} {w : World} {K : PySem.W.Frag} {mg : Str → Option Value} {base : Heap} {f C CF CB : Addr} {fd : FuncData}
def frParts (CB : Addr) : List PyData → Rs → Prop := fun ds q => ∃ (s : Sc) (ps : List Pt), s.Ok ∧ (∀ p ∈ ps, p.Ok) ∧ ds = [s.d, .list (ps.map Pt.d)] ∧ q = rsOf CB (s.all ps)
abbrev NPs : List Str := ["face", "change", "now", "part"]
theorem sc_pds : FnScope NPs ["face", "change"] (defScope s_parts_done) := ⟨rfl, rfl, rfl, by decide +kernel, rfl, by decide +kernel, by decide +kernel⟩
theorem ok_pds (F : Df K "parts_done" s_parts_done f fd) (hm : mg "parts_done" = some (.ref f)) (G : DefOk P w K mg base 3 "part_done" (frPart CB)) : DefOk P w K mg base 4 "parts_done" (frParts CB) := by
  refine def_ok F hm sc_pds (fun _ _ _ _ _ _ us hl => match us, hl with | [_, _], _ => rfl) (fun ds r h => by obtain ⟨_, _, _, _, rfl, _⟩ := h; rfl) (fun cdv A outer s H E qs ds r hr h => ?_)
  obtain ⟨t, ps, o, hp, rfl, rfl⟩ := h
  have tk : L2N.Takes (cxOf (L2N.CX P w) P w K mg base NPs "parts_done" (defScope s_parts_done) f cdv A outer s H E) (WOf E) := L2N.takes_of rfl rfl rfl rfl
  refine sd_set 2 (pd_var 0) ?_ sc_pds.nd
  refine sd_for 3 (items := ps.map Pt.d) (fun i δ' ω' => ∃ u : Sc, u.Ok ∧ t.all (ps.take i) = some u ∧ ω' = ⟨qs, []⟩ ∧ ∃ y3, δ' = [some (.im t.d), some (.im (.list (ps.map Pt.d))), some (.im u.d), y3]) (wk_lst (pd_var 1)) ⟨t, o, rfl, rfl, _, rfl⟩ ?_ ?_ (pg_name sc_pds.nd rfl (Or.inl rfl)) (passes_of rfl) rfl
  · rintro i d δ' ω' hd ⟨u, ou, eu, rfl, y3, rfl⟩
    rw [List.getElem?_map] at hd
    cases e : ps[i]? with
    | none =>
      rw [e] at hd
      cases hd
    | some p =>
      rw [e] at hd
      cases hd
      have hp1 := hp p (List.mem_of_getElem? e)
      have es := Sc.all_snoc eu e
      refine sd_setX 2 (PR.ex (pr_call G hr tk (pds_cons (pd_var 2) (pds_cons (pd_var 3) pds_nil)) ⟨u, p, ou, hp1, rfl, rfl⟩) (fun d e1 => ?_) (fun Z e1 => ?_)) sc_pds.nd
      · cases ep : u.part p with
        | none =>
          rw [ep] at e1
          cases e1
        | some v =>
          rw [ep] at e1
          cases e1
          exact sd_nil ⟨v, (ou.part hp1 ep).1, es.trans ep, rfl, _, rfl⟩
      · cases ep : u.part p with
        | some v =>
          rw [ep] at e1
          cases e1
        | none =>
          rw [ep] at e1
          cases e1
          show rsOf CB (t.all ps) = Rs.er CB
          rw [Sc.all_none (es.trans ep)]
          rfl
  · rintro δ' ω' ⟨u, ou, eu, rfl, y3, rfl⟩
    rw [List.length_map, List.take_length] at eu
    rw [eu]
    exact sd_ret (pd_var 2) rfl
def frPc : List PyData → Rs → Prop := fun ds q => ∃ p : Pt, p.Ok ∧ ds = [p.d] ∧ q = .ok (.int (p.cost : Int))
theorem sc_pc : FnScope ["part"] ["part"] (defScope s_part_cost) := ⟨rfl, rfl, rfl, by decide +kernel, rfl, by decide +kernel, by decide +kernel⟩
theorem ok_pc (F : Df K "part_cost" s_part_cost f fd) (hm : mg "part_cost" = some (.ref f)) (B : Bl mg) (g1 : GlD K mg "ROLL_COST" (.int 4)) (g2 : GlD K mg "CURSOR_COST" (.int 3)) (g3 : GlD K mg "PUT_COST" (.int 4)) : DefOk P w K mg base 1 "part_cost" frPc := by
  refine def_ok F hm sc_pc (fun _ _ _ _ _ _ us hl => match us, hl with | [_], _ => rfl) (fun ds r h => by obtain ⟨_, _, rfl, _⟩ := h; rfl) (fun cdv A outer s H E qs ds r hr h => ?_)
  obtain ⟨p, hp, rfl, rfl⟩ := h
  cases p with
  | roll n => exact sd_ifT (PTd.eq (pt_cmpd op_eq rd_eqS (pd_ixT (d := .str "roll") (pd_var 0) pd_int atI0) pd_str (nomark _)) (by decide +kernel)) (sd_ret (pd_glob g1) rfl)
  | cur r c =>
    refine sd_ifF (PTd.eq (pt_cmpd op_eq rd_eqS (pd_ixT (d := .str "cursor") (pd_var 0) pd_int atI0) pd_str (nomark _)) (by decide +kernel)) ?_
    exact sd_ifT (PTd.eq (pt_cmpd op_eq rd_eqS (pd_ixT (d := .str "cursor") (pd_var 0) pd_int atI0) pd_str (nomark _)) (by decide +kernel)) (sd_ret (pd_glob g2) rfl)
  | put r c k z =>
    have hz := hp.2.2.1
    refine sd_ifF (PTd.eq (pt_cmpd op_eq rd_eqS (pd_ixT (d := .str "put") (pd_var 0) pd_int atI0) pd_str (nomark _)) (by decide +kernel)) ?_
    refine sd_ifF (PTd.eq (pt_cmpd op_eq rd_eqS (pd_ixT (d := .str "put") (pd_var 0) pd_int atI0) pd_str (nomark _)) (by decide +kernel)) ?_
    refine sd_ret (d := .int (4 + (z.length : Int))) (pd_add (pd_glob g3) (pd_lenS B.len (pd_ixT (d := .str z) (pd_var 0) (pd_neg pd_int) (atI_last (xs := [.str "put", .int (r : Int), .int (c : Int), .int (k : Int)]))) (by omega))) ?_
    show Rs.ok (.int ((4 + z.length : Nat) : Int)) = _
    rw [Int.natCast_add]
    rfl
def frCp : List PyData → Rs → Prop := fun ds q => ∃ ps : List Pt, (∀ p ∈ ps, p.Ok) ∧ ps.length ≤ 1000 ∧ ds = [.list (ps.map Pt.d)] ∧ q = .ok (.int (costs ps))
theorem sc_cp : FnScope ["change", "part"] ["change"] (defScope s_cost_of_parts) := ⟨rfl, rfl, rfl, by decide +kernel, rfl, by decide +kernel, by decide +kernel⟩
theorem ok_cp (F : Df K "cost_of_parts" s_cost_of_parts f fd) (hm : mg "cost_of_parts" = some (.ref f)) (ms : mg "sum" = none) (G : DefOk P w K mg base 1 "part_cost" frPc) : DefOk P w K mg base 2 "cost_of_parts" frCp := by
  refine def_ok F hm sc_cp (fun _ _ _ _ _ _ us hl => match us, hl with | [_], _ => rfl) (fun ds r h => by obtain ⟨_, _, _, rfl, _⟩ := h; rfl) (fun cdv A outer s H E qs ds r hr h => ?_)
  obtain ⟨ps, hp, hl, rfl, rfl⟩ := h
  refine sd_ret (pd_sumI (ns := costL ps) rfl ms (PN.pl (pn_lc (y := "part") (j := 1) (items := ps.map Pt.d) (ys := (costL ps).map .int) rfl sc_cp.nd (PWk.ws (wk_lst (pd_var 0))) (by simp [costL]) (blkOk_by (N := ["change", "part"]) (sc := defScope s_cost_of_parts) (by decide +kernel)) (fun _ _ _ _ _ => pg_name sc_cp.nd rfl (Or.inl rfl)) ?_ (by rw [List.length_map]; omega)))) rfl
  intro i d y hd hy D o s H C cl fp
  rw [List.getElem?_map] at hd
  unfold costL at hy
  rw [List.getElem?_map, List.getElem?_map] at hy
  cases e : ps[i]? with
  | none =>
    rw [e] at hd
    cases hd
  | some p =>
    rw [e] at hd hy
    cases hd
    cases hy
    exact pd_call G hr (pds_cons (pd_var 1) pds_nil) ⟨p, hp p (List.mem_of_getElem? e), rfl, rfl⟩
end
end K93

namespace K93
open PySem PySem.Spec PyProof.Rows L2 FP
section
variable {P : Program} {w : World} {K : PySem.W.Frag} {mg : Str → Option Value} {base : Heap} {f C CB CF : Addr} {fd : FuncData}
def frSo : List PyData → Rs → Prop := fun ds q => ∃ s : Sc, s.Ok ∧ ds = [s.d] ∧ q = .ok (.tuple [.int (s.h : Int), .int (s.w : Int)])
theorem sc_so : FnScope ["face"] ["face"] (defScope s_size_of) := ⟨rfl, rfl, rfl, by decide +kernel, rfl, by decide +kernel, by decide +kernel⟩
theorem Sc.row0 {s : Sc} (o : s.Ok) : ∃ c0 rest, s.rows = c0 :: rest ∧ c0.length = s.w := by
  cases e : s.rows with
  | nil =>
    have h1 := o.len
    have h2 := o.hr
    rw [e] at h1
    simp at h1
    omega
  | cons c0 rest => exact ⟨c0, rest, rfl, (o.wid c0 (by rw [e]; exact List.mem_cons_self)).1⟩
theorem ok_so (F : Df K "size_of" s_size_of f fd) (hm : mg "size_of" = some (.ref f)) (B : Bl mg) : DefOk P w K mg base 1 "size_of" frSo := by
  refine def_ok F hm sc_so (fun _ _ _ _ _ _ us hl => match us, hl with | [_], _ => rfl) (fun ds r h => by obtain ⟨_, _, rfl, _⟩ := h; rfl) (fun cdv A outer s H E qs ds r hr h => ?_)
  obtain ⟨t, o, rfl, rfl⟩ := h
  obtain ⟨c0, rest, er, lw⟩ := Sc.row0 o
  have l1 : ((t.rows.map PyData.tuple).length : Int) = (t.h : Int) := by rw [List.length_map, o.len]
  refine sd_ret (pd_tup (pds_cons (PD.eq (pd_lenT B.len (pd_ixT (d := .tuple (t.rows.map .tuple)) (pd_var 0) pd_int atI0)) (by rw [l1])) (pds_cons (PD.eq (pd_lenT B.len (pd_ixT (d := .tuple c0) (pd_ixT (d := .tuple (t.rows.map .tuple)) (pd_var 0) pd_int atI0) pd_int (by rw [er]; exact atI0))) (by rw [lw])) pds_nil))) rfl
def frNff (CF : Addr) : List PyData → Rs → Prop := fun ds q => ∃ d, ds = [d] ∧ smF d ∧ q = if isFace d = true then .ok .none else .er CF
theorem sc_nff : FnScope ["face"] ["face"] (defScope s_need_film_face) := ⟨rfl, rfl, rfl, by decide +kernel, rfl, by decide +kernel, by decide +kernel⟩
theorem ok_nff (F : Df K "need_film_face" s_need_film_face f fd) (hm : mg "need_film_face" = some (.ref f)) (X1 : ExcF K mg "BadFilm" CF) (mC : mg "BadFace" = some (.ref C)) (e1 : PySem.W.exmOne K (.ref C) (.ref C) = some true) (G : DefOk P w K mg base 5 "need_face" (frFace C)) : LC.DefC P w K mg base 6 "need_film_face" (frNff CF) := by
  refine LC.def_okC F hm sc_nff (fun _ _ _ _ _ _ us hl => match us, hl with | [_], _ => rfl) (fun ds r h => by obtain ⟨_, rfl, _⟩ := h; rfl) (fun cdv A outer s H E qs ds r hr h => ?_)
  obtain ⟨d, rfl, sm, rfl⟩ := h
  have tk : LC.Takes (cxOf (LC.CX P w) P w K mg base ["face"] "need_film_face" (defScope s_need_film_face) f cdv A outer s H E) (WOf E) := LC.takes_of rfl rfl rfl rfl
  refine LC.sd_tryFrom (C := CF) (c := .ref C) (fun pn xe W' tk' => ?_) ⟨rfl, by decide, .inl mC⟩ tk (fun hd => L2H.passesAt_of rfl hd) X1
  refine sd_callX G hr tk' (pds_cons (pd_var 0) pds_nil) ⟨d, rfl, rfl, sm⟩ (fun d1 e => ?_) (fun Z e => ?_)
  · refine sd_nil (sd_nil ?_)
    show (if isFace d = true then Rs.ok PyData.none else Rs.er CF) = .ok .none
    cases q : isFace d with
    | true => rfl
    | false =>
      rw [q] at e
      cases e
  · cases q : isFace d with
    | true =>
      rw [q] at e
      cases e
    | false =>
      rw [q] at e
      cases e
      exact ⟨e1, rfl⟩
def frNl (CF : Addr) : List PyData → Rs → Prop := fun ds q => ∃ d, ds = [d] ∧ q = if isWithin d 0 9999 = true then .ok .none else .er CF
theorem sc_nl : FnScope ["length"] ["length"] (defScope s_need_length) := ⟨rfl, rfl, rfl, by decide +kernel, rfl, by decide +kernel, by decide +kernel⟩
theorem ok_nl (F : Df K "need_length" s_need_length f fd) (hm : mg "need_length" = some (.ref f)) (X1 : ExcF K mg "BadFilm" CF) (g : GlD K mg "MOST_TICK" (.int 9999)) (G : DefOk P w K mg base 2 "is_within" frWithin) : DefOk P w K mg base 3 "need_length" (frNl CF) := by
  refine def_ok F hm sc_nl (fun _ _ _ _ _ _ us hl => match us, hl with | [_], _ => rfl) (fun ds r h => by obtain ⟨_, rfl, _⟩ := h; rfl) (fun cdv A outer s H E qs ds r hr h => ?_)
  obtain ⟨d, rfl, rfl⟩ := h
  have tk : L2N.Takes (cxOf (L2N.CX P w) P w K mg base ["length"] "need_length" (defScope s_need_length) f cdv A outer s H E) (WOf E) := L2N.takes_of rfl rfl rfl rfl
  refine sd_if (pt_notd (pt_bool (pd_call G hr (pds_cons (pd_var 0) (pds_cons pd_int (pds_cons (pd_glob g) pds_nil))) ⟨d, 0, 9999, rfl, rfl⟩))) (fun hk => ?_) (fun hk => sd_nil (sd_nil ?_))
  · refine sd_raise X1 tk ?_ rfl
    show (if isWithin d 0 9999 = true then Rs.ok PyData.none else Rs.er CF) = Rs.er CF
    rw [if_neg (by rw [Bool.not_eq_true'] at hk; rw [hk]; exact Bool.false_ne_true)]
  · show (if isWithin d 0 9999 = true then Rs.ok PyData.none else Rs.er CF) = Rs.ok PyData.none
    rw [if_pos (by simpa using hk)]
def pairOk (x : PyData) (lo hi : Int) : Bool := isTupleOf x 2 && (match x with
  | .tuple (t :: _) => isWithin t lo hi
  | _ => false)
def tickOf : PyData → Int
  | .tuple (.int n :: _) => n
  | _ => 0
def pairsOk : List PyData → Int → Int → Bool
  | [], _, _ => true
  | x :: r, lo, hi => pairOk x lo hi && pairsOk r (tickOf x + 1) hi
def frNps (CF : Addr) : List PyData → Rs → Prop := fun ds q => ∃ (items : List PyData) (lo hi : Int), (ds = [.tuple items, .int lo, .int hi] ∨ ds = [.list items, .int lo, .int hi]) ∧ q = if pairsOk items lo hi = true then .ok .none else .er CF
abbrev NNp : List Str := ["pairs", "least", "most", "pair"]
theorem sc_nps : FnScope NNp ["pairs", "least", "most"] (defScope s_need_pairs) := ⟨rfl, rfl, rfl, by decide +kernel, rfl, by decide +kernel, by decide +kernel⟩
theorem pairOk_ex {x : PyData} (h : isTupleOf x 2 = true) : ∃ t c, x = .tuple [t, c] := by
  cases x with
  | tuple ds =>
    have e : ((ds.length : Int) = 2) := of_decide_eq_true h
    match ds, e with
    | [t, c], _ => exact ⟨t, c, rfl⟩
    | [], e => simp at e
    | [_], e => simp at e
    | _ :: _ :: _ :: _, e => simp at e; omega
  | _ => cases h
theorem ok_nps (F : Df K "need_pairs" s_need_pairs f fd) (hm : mg "need_pairs" = some (.ref f)) (X1 : ExcF K mg "BadFilm" CF) (G1 : DefOk P w K mg base 1 "is_tuple_of" frTupleOf) (G2 : DefOk P w K mg base 2 "is_within" frWithin) : DefOk P w K mg base 3 "need_pairs" (frNps CF) := by
  refine def_ok F hm sc_nps (fun _ _ _ _ _ _ us hl => match us, hl with | [_, _, _], _ => rfl) (fun ds r h => by obtain ⟨_, _, _, h, _⟩ := h; rcases h with rfl | rfl <;> rfl) (fun cdv A outer s H E qs ds r hr h => ?_)
  obtain ⟨items, lo, hi, hd, rfl⟩ := h
  have tk : L2N.Takes (cxOf (L2N.CX P w) P w K mg base NNp "need_pairs" (defScope s_need_pairs) f cdv A outer s H E) (WOf E) := L2N.takes_of rfl rfl rfl rfl
  rcases hd with rfl | rfl
  all_goals
    refine sd_for 3 (items := items) (fun i δ' ω' => ω' = ⟨qs, []⟩ ∧ ∃ y0 y3 l, pairsOk items lo hi = pairsOk (items.drop i) l hi ∧ δ' = [y0, some (.im (.int l)), some (.im (.int hi)), y3]) (by first | exact wk_tup (pd_var 0) | exact wk_lst (pd_var 0)) ⟨rfl, _, _, lo, rfl, rfl⟩ ?_ ?_ (pg_name sc_nps.nd rfl (Or.inl rfl)) (passes_of rfl) rfl
    · rintro i d δ' ω' hd ⟨rfl, y0, y3, l, el, rfl⟩
      obtain ⟨hl, e3⟩ := List.getElem?_eq_some_iff.mp hd
      rw [List.drop_eq_getElem_cons hl, e3] at el
      have el : pairsOk items lo hi = (pairOk d l hi && pairsOk (items.drop (i + 1)) (tickOf d + 1) hi) := el
      have bad : pairOk d l hi = false → (if pairsOk items lo hi = true then Rs.ok PyData.none else Rs.er CF) = .er CF := fun z => by
        rw [el, z]
        rfl
      refine sd_if (pt_notd (pt_bool (pd_call G1 (hr.mono (by decide)) (pds_cons (pd_var 3) (pds_cons pd_int pds_nil)) ⟨d, 2, rfl, rfl⟩))) (fun hk => sd_raise X1 tk (bad ?_) rfl) (fun hk => sd_nil ?_)
      · unfold pairOk
        rw [Bool.not_eq_true'] at hk
        rw [hk]
        rfl
      rw [Bool.not_eq_false'] at hk
      obtain ⟨t, c, rfl⟩ := pairOk_ex hk
      refine sd_if (pt_notd (pt_bool (pd_call G2 hr (pds_cons (pd_ixT (d := t) (pd_var 3) pd_int atI0) (pds_cons (pd_var 1) (pds_cons (pd_var 2) pds_nil))) ⟨t, l, hi, rfl, rfl⟩))) (fun hw => sd_raise X1 tk (bad ?_) rfl) (fun hw => sd_nil ?_)
      · unfold pairOk
        rw [Bool.not_eq_true'] at hw
        show (_ && isWithin t l hi) = false
        rw [hw, Bool.and_false]
      rw [Bool.not_eq_false'] at hw
      cases t with
      | int n =>
        have e4 : pairOk (.tuple [.int n, c]) l hi = true := by
          unfold pairOk
          rw [hk]
          exact hw
        rw [e4, Bool.true_and] at el
        exact sd_set 1 (d := .int (n + 1)) (pd_add (pd_ixT (d := .int n) (pd_var 3) pd_int atI0) pd_int) (sd_nil ⟨rfl, _, _, n + 1, el, rfl⟩) sc_nps.nd
      | _ => cases hw
    · rintro δ' ω' ⟨rfl, y0, y3, l, el, rfl⟩
      refine sd_nil ?_
      rw [List.drop_length] at el
      show (if pairsOk items lo hi = true then Rs.ok PyData.none else Rs.er CF) = .ok .none
      rw [el]
      rfl
inductive NxR (CF : Addr) : Sc → PyData → Rs → Prop
  | bad {s : Sc} {ch : PyData} : areParts ch = false → okPs ch → NxR CF s ch (.er CF)
  | off {s : Sc} {ps : List Pt} : (∀ p ∈ ps, p.Ok) → s.all ps = none → NxR CF s (.list (ps.map Pt.d)) (.er CF)
  | go {s t : Sc} {ps : List Pt} : (∀ p ∈ ps, p.Ok) → s.all ps = some t → NxR CF s (.list (ps.map Pt.d)) (.ok t.d)
def frNx (CF : Addr) : List PyData → Rs → Prop := fun ds q => ∃ (s : Sc) (ch : PyData), s.Ok ∧ ds = [s.d, ch] ∧ NxR CF s ch q
theorem sc_nx : FnScope ["face", "change"] ["face", "change"] (defScope s_next_face) := ⟨rfl, rfl, rfl, by decide +kernel, rfl, by decide +kernel, by decide +kernel⟩
theorem ok_nx (F : Df K "next_face" s_next_face f fd) (hm : mg "next_face" = some (.ref f)) (X1 : ExcF K mg "BadFilm" CF) (mB : mg "BadChange" = some (.ref CB)) (e1 : PySem.W.exmOne K (.ref CB) (.ref CB) = some true) (G1 : DefOk P w K mg base 4 "need_change" (frNeedC CB)) (G2 : DefOk P w K mg base 4 "parts_done" (frParts CB)) : LC.DefC P w K mg base 5 "next_face" (frNx CF) := by
  refine LC.def_okC F hm sc_nx (fun _ _ _ _ _ _ us hl => match us, hl with | [_, _], _ => rfl) (fun ds r h => by obtain ⟨_, _, _, rfl, _⟩ := h; rfl) (fun cdv A outer s H E qs ds r hr h => ?_)
  obtain ⟨s0, ch, o, rfl, q⟩ := h
  have tk : LC.Takes (cxOf (LC.CX P w) P w K mg base ["face", "change"] "next_face" (defScope s_next_face) f cdv A outer s H E) (WOf E) := LC.takes_of rfl rfl rfl rfl
  refine LC.sd_tryFrom (C := CF) (c := .ref CB) (fun pn xe W' tk' => ?_) ⟨rfl, by decide, .inl mB⟩ tk (fun hd => L2H.passesAt_of rfl hd) X1
  cases q with
  | bad h1 h2 =>
    refine sd_callX G1 hr tk' (pds_cons (pd_var 1) pds_nil) ⟨ch, rfl, h2, rfl⟩ (fun d1 e => ?_) (fun Z e => ?_)
    · rw [h1] at e
      cases e
    · rw [h1] at e
      cases e
      exact ⟨e1, rfl⟩
  | off h1 h2 =>
    rename_i ps
    refine sd_callX G1 hr tk' (pds_cons (pd_var 1) pds_nil) ⟨_, rfl, parts_ok h1, rfl⟩ (fun d1 e => ?_) (fun Z e => ?_)
    · exact sd_retX (ex_call (rr := .er CB) G2 hr tk' (pds_cons (pd_var 0) (pds_cons (pd_var 1) pds_nil)) ⟨s0, ps, o, h1, rfl, by rw [h2]; rfl⟩ ⟨e1, rfl⟩)
    · rw [parts_are h1] at e
      cases e
  | go h1 h2 =>
    rename_i t ps
    refine sd_callX G1 hr tk' (pds_cons (pd_var 1) pds_nil) ⟨_, rfl, parts_ok h1, rfl⟩ (fun d1 e => ?_) (fun Z e => ?_)
    · exact sd_retX (ex_call (rr := .ok t.d) G2 hr tk' (pds_cons (pd_var 0) (pds_cons (pd_var 1) pds_nil)) ⟨s0, ps, o, h1, rfl, by rw [h2]; rfl⟩ rfl)
    · rw [parts_are h1] at e
      cases e
inductive Goes : Sc → List PyData → Bool → Prop
  | nil {s : Sc} : Goes s [] true
  | bad {s : Sc} {ch : PyData} {r : List PyData} : areParts ch = false → okPs ch → Goes s (ch :: r) false
  | off {s : Sc} {ps : List Pt} {r : List PyData} : (∀ p ∈ ps, p.Ok) → s.all ps = none → Goes s (.list (ps.map Pt.d) :: r) false
  | go {s t : Sc} {ps : List Pt} {r : List PyData} {b : Bool} : (∀ p ∈ ps, p.Ok) → s.all ps = some t → Goes t r b → Goes s (.list (ps.map Pt.d) :: r) b
abbrev chsOf (prs : List (Int × PyData)) : List PyData := prs.map fun (q : Int × PyData) => q.2
inductive FilmR : PyData → Bool → Prop
  | shape {d : PyData} : isTupleOf d 3 = false → FilmR d false
  | face {f l c : PyData} : isFace f = false → smF f → FilmR (.tuple [f, l, c]) false
  | len {s : Sc} {l c : PyData} : s.Ok → isWithin l 0 9999 = false → FilmR (.tuple [s.d, l, c]) false
  | chs {s : Sc} {n : Int} {c : PyData} : s.Ok → isWithin (.int n) 0 9999 = true → isT c = false → FilmR (.tuple [s.d, .int n, c]) false
  | pairs {s : Sc} {n : Int} {items : List PyData} : s.Ok → isWithin (.int n) 0 9999 = true → pairsOk items 1 n = false → FilmR (.tuple [s.d, .int n, .tuple items]) false
  | goes {s : Sc} {n : Int} {prs : List (Int × PyData)} {b : Bool} : s.Ok → isWithin (.int n) 0 9999 = true → pairsOk (prs.map fun q => .tuple [.int q.1, q.2]) 1 n = true → Goes s (chsOf prs) b → FilmR (.tuple [s.d, .int n, .tuple (prs.map fun q => .tuple [.int q.1, q.2])]) b
def frNf (CF : Addr) : List PyData → Rs → Prop := fun ds q => ∃ d b, FilmR d b ∧ ds = [d] ∧ q = if b = true then .ok .none else .er CF
abbrev NNf : List Str := ["film", "face", "length", "changes", "tick", "change"]
theorem sc_nf : FnScope NNf ["film"] (defScope s_need_film) := ⟨rfl, rfl, rfl, by decide +kernel, rfl, by decide +kernel, by decide +kernel⟩
theorem film_facts {f l c : PyData} {b : Bool} (h : FilmR (.tuple [f, l, c]) b) : smF f ∧ (isFace f = false → b = false) ∧ (isFace f = true → ∃ s : Sc, s.Ok ∧ f = s.d ∧ (isWithin l 0 9999 = false → b = false) ∧
    (isWithin l 0 9999 = true → ∃ n : Int, l = .int n ∧ (isT c = false → b = false) ∧ (isT c = true → ∃ items, c = .tuple items ∧ (pairsOk items 1 n = false → b = false) ∧
      (pairsOk items 1 n = true → ∃ prs : List (Int × PyData), items = (prs.map fun q => .tuple [.int q.1, q.2]) ∧ Goes s (chsOf prs) b)))) := by
  have no : ∀ {x : Bool} {p : Prop}, x = true → x = false → p := fun a b => by rw [a] at b; cases b
  cases h with
  | shape h => cases h
  | face h1 h2 => exact ⟨h2, fun _ => rfl, fun z => no z h1⟩
  | len o h => exact ⟨o.fc.small, fun _ => rfl, fun _ => ⟨_, o, rfl, fun _ => rfl, fun z => no z h⟩⟩
  | chs o h1 h2 => exact ⟨o.fc.small, fun _ => rfl, fun _ => ⟨_, o, rfl, fun _ => rfl, fun _ => ⟨_, rfl, fun _ => rfl, fun z => no z h2⟩⟩⟩
  | pairs o h1 h2 => exact ⟨o.fc.small, fun _ => rfl, fun _ => ⟨_, o, rfl, fun _ => rfl, fun _ => ⟨_, rfl, fun _ => rfl, fun _ => ⟨_, rfl, fun _ => rfl, fun z => no z h2⟩⟩⟩⟩
  | goes o h1 h2 h3 => exact ⟨o.fc.small, fun z => no o.fc.face z, fun _ => ⟨_, o, rfl, fun z => no h1 z, fun _ => ⟨_, rfl, fun z => no rfl z, fun _ => ⟨_, rfl, fun z => no h2 z, fun _ => ⟨_, rfl, h3⟩⟩⟩⟩⟩
theorem three_ex {x : PyData} (h : isTupleOf x 3 = true) : ∃ a b c, x = .tuple [a, b, c] := by
  cases x with
  | tuple ds =>
    have e : ((ds.length : Int) = 3) := of_decide_eq_true h
    match ds, e with
    | [a, b, c], _ => exact ⟨a, b, c, rfl⟩
    | [], e => simp at e
    | [_], e => simp at e
    | [_, _], e => simp at e
    | _ :: _ :: _ :: _ :: _, e => simp at e; omega
  | _ => cases h
theorem ok_nf (F : Df K "need_film" s_need_film f fd) (hm : mg "need_film" = some (.ref f)) (B : Bl mg) (X1 : ExcF K mg "BadFilm" CF) (G0 : DefOk P w K mg base 1 "is_tuple_of" frTupleOf) (G1 : LC.DefC P w K mg base 6 "need_film_face" (frNff CF)) (G2 : DefOk P w K mg base 3 "need_length" (frNl CF)) (G3 : DefOk P w K mg base 3 "need_pairs" (frNps CF)) (G4 : LC.DefC P w K mg base 5 "next_face" (frNx CF)) : LC.DefC P w K mg base 7 "need_film" (frNf CF) := by
  refine LC.def_okC F hm sc_nf (fun _ _ _ _ _ _ us hl => match us, hl with | [_], _ => rfl) (fun ds r h => by obtain ⟨_, _, _, rfl, _⟩ := h; rfl) (fun cdv A outer s H E qs ds r hr h => ?_)
  obtain ⟨d, b, hF, rfl, rfl⟩ := h
  have tk : LC.Takes (cxOf (LC.CX P w) P w K mg base NNf "need_film" (defScope s_need_film) f cdv A outer s H E) (WOf E) := LC.takes_of rfl rfl rfl rfl
  have bad : b = false → (if b = true then Rs.ok PyData.none else Rs.er CF) = .er CF := fun z => by rw [z]; rfl
  refine sd_if (pt_notd (pt_bool (pd_call G0 (hr.mono (by decide)) (pds_cons (pd_var 0) (pds_cons pd_int pds_nil)) ⟨d, 3, rfl, rfl⟩))) (fun hk => sd_raise X1 tk.toN (bad ?_) rfl) (fun hk => sd_nil ?_)
  · rw [Bool.not_eq_true'] at hk
    cases hF with
    | shape _ => rfl
    | _ => first | rfl | cases hk
  rw [Bool.not_eq_false'] at hk
  obtain ⟨x, l, c, rfl⟩ := three_ex hk
  obtain ⟨sm, b1, b2⟩ := film_facts hF
  refine sd_unp [1, 2, 3] (pd_var 0) (pg_tup rfl (pgs_cons (pg_name sc_nf.nd rfl (Or.inl rfl)) (pgs_cons (pg_name sc_nf.nd rfl (Or.inl rfl)) (pgs_cons (pg_name sc_nf.nd rfl (Or.inl rfl)) pgs_nil)))) rfl rfl ?_
  refine LC.sd_callC G1 hr tk (pds_cons (pd_var 1) pds_nil) ⟨x, rfl, sm, rfl⟩ (fun d1 e => ?_) (fun Z e => ?_)
  rotate_left
  · cases q : isFace x with
    | true => rw [q] at e; cases e
    | false =>
      rw [q] at e
      cases e
      exact bad (b1 q)
  have hx : isFace x = true := by
    cases q : isFace x with
    | true => rfl
    | false => rw [q] at e; cases e
  obtain ⟨s0, o, rfl, b3, b4⟩ := b2 hx
  refine sd_callX G2 (hr.mono (by decide)) tk.toN (pds_cons (pd_var 2) pds_nil) ⟨l, rfl, rfl⟩ (fun d2 e2 => ?_) (fun Z e2 => ?_)
  rotate_left
  · cases q : isWithin l 0 9999 with
    | true => rw [q] at e2; cases e2
    | false =>
      rw [q] at e2
      cases e2
      exact bad (b3 q)
  have hl : isWithin l 0 9999 = true := by
    cases q : isWithin l 0 9999 with
    | true => rfl
    | false => rw [q] at e2; cases e2
  obtain ⟨n, rfl, b5, b6⟩ := b4 hl
  refine sd_if (pt_notd (pt_bool (pd_isi B.isi B.tuple bb_tuple (pd_var 3) (k_tuple c)))) (fun hc => sd_raise X1 tk.toN (bad (b5 (by simpa using hc))) rfl) (fun hc => sd_nil ?_)
  obtain ⟨items, rfl, b7, b8⟩ := b6 (by simpa using hc)
  refine sd_callX G3 (hr.mono (by decide)) tk.toN (pds_cons (pd_var 3) (pds_cons pd_int (pds_cons (pd_var 2) pds_nil))) ⟨items, 1, n, .inl rfl, rfl⟩ (fun d3 e3 => ?_) (fun Z e3 => ?_)
  rotate_left
  · cases q : pairsOk items 1 n with
    | true => rw [q] at e3; cases e3
    | false =>
      rw [q] at e3
      cases e3
      exact bad (b7 q)
  have hp : pairsOk items 1 n = true := by
    cases q : pairsOk items 1 n with
    | true => rfl
    | false => rw [q] at e3; cases e3
  obtain ⟨prs, rfl, go⟩ := b8 hp
  refine sd_forU [4, 5] (n := 2) (items := prs.map fun q => [PyData.int q.1, q.2]) (fun i δ' ω' => ω' = ⟨qs, []⟩ ∧ ∃ y0 y2 y3 y4 y5 t, Sc.Ok t ∧ Goes t ((chsOf prs).drop i) b ∧ δ' = [y0, some (.im t.d), y2, y3, y4, y5]) (wk_tup (PD.eq (pd_var 3) (by rw [List.map_map]; rfl))) ⟨rfl, _, _, _, _, _, s0, o, go, rfl⟩ ?_ ?_ (fun ds hd => by obtain ⟨_, _, rfl⟩ := List.mem_map.mp hd; rfl) rfl (pg_tup rfl (pgs_cons (pg_name sc_nf.nd rfl (Or.inl rfl)) (pgs_cons (pg_name sc_nf.nd rfl (Or.inl rfl)) pgs_nil))) (passes_of rfl) rfl
  · rintro i d δ' ω' hd ⟨rfl, y0, y2, y3, y4, y5, t, ot, gt, rfl⟩
    rw [List.getElem?_map] at hd
    cases e : prs[i]? with
    | none => rw [e] at hd; cases hd
    | some q =>
      rw [e] at hd
      cases hd
      have e4 : (chsOf prs)[i]? = some q.2 := by rw [List.getElem?_map, e]; rfl
      obtain ⟨hl4, e5⟩ := List.getElem?_eq_some_iff.mp e4
      rw [List.drop_eq_getElem_cons hl4, e5] at gt
      obtain ⟨q1, ch⟩ := q
      generalize hr4 : (chsOf prs).drop (i + 1) = rest at gt
      cases gt with
      | bad g1 g2 => exact sd_setX 1 (LC.ex_callC (rr := .er CF) G4 (hr.mono (by decide)) tk (pds_cons (pd_var 1) (pds_cons (pd_var 5) pds_nil)) ⟨t, ch, ot, rfl, .bad g1 g2⟩ rfl) sc_nf.nd
      | off g1 g2 => exact sd_setX 1 (LC.ex_callC (rr := .er CF) G4 (hr.mono (by decide)) tk (pds_cons (pd_var 1) (pds_cons (pd_var 5) pds_nil)) ⟨t, _, ot, rfl, .off g1 g2⟩ rfl) sc_nf.nd
      | go g1 g2 g3 =>
        rename_i t2 ps
        subst hr4
        exact sd_setX 1 (LC.ex_callC (rr := .ok t2.d) G4 (hr.mono (by decide)) tk (pds_cons (pd_var 1) (pds_cons (pd_var 5) pds_nil)) ⟨t, _, ot, rfl, .go g1 g2⟩ (sd_nil ⟨rfl, _, _, _, _, _, t2, (ot.all g1 g2).1, g3, rfl⟩)) sc_nf.nd
  · rintro δ' ω' ⟨rfl, y0, y2, y3, y4, y5, t, ot, gt, rfl⟩
    rw [List.length_map, show prs.length = (chsOf prs).length from (List.length_map _).symm, List.drop_length] at gt
    cases gt
    exact sd_nil rfl
end
end K93

namespace K93
open PySem PySem.Spec PyProof.Rows L2 FP
abbrev curD (r c : Int) : PyData := .tuple [.str "cursor", .int r, .int c]
abbrev goD : PyData := .list [curD 0 0]
abbrev NF1 (s : Sc) : List PyData := [.none, .tuple [s.d, .int 5], .tuple [s.d, .int 5, .list [], .tuple []], .list [s.d, .int 5, .tuple []], .tuple [.none, .int 5, .tuple []], .tuple [s.d, .int (-1), .tuple []], .tuple [s.d, .int 10000, .tuple []]]
abbrev NF2 (s : Sc) : List PyData := [.tuple [s.d, .none, .tuple []], .tuple [s.d, .bool true, .tuple [.tuple [.int 1, goD]]], .tuple [s.d, .int 5, .list []], .tuple [s.d, .int 5, .tuple [.tuple [.int 0, goD]]], .tuple [s.d, .int 5, .tuple [.tuple [.int 6, goD]]]]
abbrev NF3 (s : Sc) : List PyData := [.tuple [s.d, .int 5, .tuple [.tuple [.int 2, goD], .tuple [.int 2, goD]]], .tuple [s.d, .int 5, .tuple [.tuple [.int 3, goD], .tuple [.int 2, goD]]], .tuple [s.d, .int 5, .tuple [.list [.int 2, goD]]], .tuple [s.d, .int 5, .tuple [.tuple [.int 2]]]]
abbrev NF4 (s : Sc) : List PyData := [.tuple [s.d, .int 5, .tuple [.tuple [.int 2, .none]]], .tuple [s.d, .int 5, .tuple [.tuple [.int 2, .tuple [curD 0 0]]]], .tuple [s.d, .int 5, .tuple [.tuple [.int 2, .list [.tuple [.str "cursor", .int 99, .int 0]]]]]]
abbrev NF5 (s : Sc) : List PyData := [.tuple [s.d, .int 5, .tuple [.tuple [.int 2, .list [.tuple [.str "put", .int 0, .int (s.w : Int), .int 0, .str "a"]]]]], .tuple [s.d, .int 5, .tuple [.tuple [.bool true, goD]]]]
abbrev NF6 (s : Sc) : List PyData := [.tuple [s.d, .int 5, .tuple [.tuple [.int 2, .list [.tuple [.str "stop"]]]]], .tuple [s.d, .int 5, .tuple [.tuple [.none, goD]]], .tuple [.tuple [.tuple (s.rows.map .tuple), .int 99, .int 0], .int 5, .tuple []]]
def noF (s : Sc) : List PyData := NF1 s ++ NF2 s ++ NF3 s ++ NF4 s ++ NF5 s ++ NF6 s
theorem noF_len (s : Sc) : (noF s).length = 24 := rfl
def noFD (s : Sc) (m : Int) : PyData := (noF s).getD (m % 24).toNat .none
theorem at_mod {xs : List PyData} {n : Nat} (hn : xs.length = n) (h0 : 0 < n) (m : Int) : atI xs (m % (n : Int)) = some (xs.getD (m % (n : Int)).toNat .none) ∧ xs.getD (m % (n : Int)).toNat .none ∈ xs := by
  have a := Int.emod_nonneg m (show (n : Int) ≠ 0 by omega)
  have b := Int.emod_lt_of_pos m (show (0 : Int) < (n : Int) by omega)
  have e : m % (n : Int) = (((m % (n : Int)).toNat : Nat) : Int) := by omega
  have hlt : (m % (n : Int)).toNat < xs.length := by omega
  have g : xs[(m % (n : Int)).toNat]? = some (xs.getD (m % (n : Int)).toNat .none) := by
    rw [List.getD_eq_getElem?_getD, List.getElem?_eq_getElem hlt]
    rfl
  refine ⟨?_, List.mem_of_getElem? g⟩
  conv => lhs; rw [e]
  exact atI_nat g
theorem smF_of {f : PyData} (h : ∀ ds, f ≠ .tuple ds) : smF f := fun ds e => absurd e (h ds)
theorem pairs_bad {s : Sc} (o : s.Ok) {items : List PyData} (h : pairsOk items 1 5 = false) : FilmR (.tuple [s.d, .int 5, .tuple items]) false := .pairs o rfl h
theorem film_bad {s : Sc} (o : s.Ok) : ∀ d ∈ noF s, FilmR d false := by
  have one : ∀ {ch : PyData}, Goes s [ch] false → FilmR (.tuple [s.d, .int 5, .tuple [.tuple [.int 2, ch]]]) false := fun {ch} g => FilmR.goes (prs := [(2, ch)]) o rfl rfl g
  have h10 := o.h10
  intro d hd
  unfold noF at hd
  rcases List.mem_append.mp hd with h | h
  · rcases List.mem_append.mp h with h | h
    · rcases List.mem_append.mp h with h | h
      · rcases List.mem_append.mp h with h | h
        · rcases List.mem_append.mp h with h | h
          · simp only [NF1, List.mem_cons, List.not_mem_nil, or_false] at h
            rcases h with rfl | rfl | rfl | rfl | rfl | rfl | rfl
            · exact .shape rfl
            · exact .shape rfl
            · exact .shape rfl
            · exact .shape rfl
            · exact .face rfl (smF_of fun _ z => by cases z)
            · exact .len o rfl
            · exact .len o rfl
          · simp only [NF2, List.mem_cons, List.not_mem_nil, or_false] at h
            rcases h with rfl | rfl | rfl | rfl | rfl
            · exact .len o rfl
            · exact .len o rfl
            · exact .chs o rfl rfl
            · exact pairs_bad o rfl
            · exact pairs_bad o rfl
        · simp only [NF3, List.mem_cons, List.not_mem_nil, or_false] at h
          rcases h with rfl | rfl | rfl | rfl
          · exact pairs_bad o rfl
          · exact pairs_bad o rfl
          · exact pairs_bad o rfl
          · exact pairs_bad o rfl
      · simp only [NF4, List.mem_cons, List.not_mem_nil, or_false] at h
        rcases h with rfl | rfl | rfl
        · exact one (.bad rfl fun xs e => by cases e)
        · exact one (.bad rfl fun xs e => by cases e)
        · refine one (.off (ps := [.cur 99 0]) (fun p hp => by rw [List.mem_singleton.mp hp]; exact trivial) ?_)
          show (match s.part (.cur 99 0) with | some t => t.all [] | none => none) = none
          rw [show s.part (.cur 99 0) = none from if_neg (fun z => by have := z.1; omega)]
    · simp only [NF5, List.mem_cons, List.not_mem_nil, or_false] at h
      rcases h with rfl | rfl
      · refine one (.off (ps := [.put 0 s.w 0 "a"]) (fun p hp => by rw [List.mem_singleton.mp hp]; exact ⟨by decide, by decide, by decide, by decide⟩) ?_)
        show (match s.part (.put 0 s.w 0 "a") with | some t => t.all [] | none => none) = none
        rw [show s.part (.put 0 s.w 0 "a") = none from if_neg (fun z => by have := z.2; have e : ("a" : Str).length = 1 := rfl; omega)]
      · exact pairs_bad o rfl
  · simp only [NF6, List.mem_cons, List.not_mem_nil, or_false] at h
    rcases h with rfl | rfl | rfl
    · refine one (.bad rfl fun xs e x hx => ?_)
      cases e
      rw [List.mem_singleton.mp hx]
      intro a told e2
      cases e2
      exact ⟨by decide, fun y hy => by cases hy⟩
    · exact pairs_bad o rfl
    · refine .face ?_ ?_
      · have hl : (lenT (.tuple (s.rows.map .tuple)) : Int) = (s.h : Int) := by
          show (((s.rows.map PyData.tuple).length : Nat) : Int) = _
          rw [List.length_map, o.len]
        show (isRows (.tuple (s.rows.map .tuple)) && ((decide ((0 : Int) ≤ 99) && decide ((99 : Int) ≤ (lenT (.tuple (s.rows.map .tuple)) : Int) - 1)) && _)) = false
        rw [hl, decide_eq_false (show ¬ ((99 : Int) ≤ (s.h : Int) - 1) by omega), Bool.and_false, Bool.false_and, Bool.and_false]
      · intro ds e x hx
        cases e
        rcases List.mem_cons.mp hx with z | hx
        · rw [z]
          exact o.fc.small _ rfl _ List.mem_cons_self
        · intro ds2 e2
          simp only [List.mem_cons, List.not_mem_nil, or_false] at hx
          rcases hx with z | z <;> (rw [z] at e2; cases e2)
theorem noFD_bad {s : Sc} (o : s.Ok) (m : Int) : FilmR (noFD s m) false := film_bad o _ (at_mod (noF_len s) (by decide) m).2
def goodF (s : Sc) : PyData := .tuple [s.d, .int 3, .tuple [.tuple [.int 1, .list [curD ((s.h : Int) - 1) 0]]]]
theorem goodF_ok {s : Sc} (o : s.Ok) : FilmR (goodF s) true := by
  have h1 := o.hr
  have h2 := o.hc
  have e : ((s.h : Int) - 1) = ((s.h - 1 : Nat) : Int) := by omega
  unfold goodF
  rw [e]
  refine FilmR.goes (n := 3) (prs := [(1, .list [curD ((s.h - 1 : Nat) : Int) 0])]) o rfl rfl ?_
  refine .go (ps := [.cur (s.h - 1) 0]) (t := { s with row := s.h - 1, col := 0 }) (fun p hp => by rw [List.mem_singleton.mp hp]; exact trivial) ?_ .nil
  show (match s.part (.cur (s.h - 1) 0) with | some t => t.all [] | none => none) = _
  rw [show s.part (.cur (s.h - 1) 0) = some { s with row := s.h - 1, col := 0 } from if_pos ⟨by omega, by omega⟩]
  rfl
def widS (s : Sc) : Sc := if s.w = 20 then { s with rows := s.rows.map (·.drop 1), row := 0, col := 0, w := 19 } else { s with rows := s.rows.map fun r => r ++ r.take 1, w := s.w + 1 }
theorem widS_ok {s : Sc} (o : s.Ok) : (widS s).Ok ∧ (widS s).h = s.h ∧ (widS s).w ≠ s.w := by
  have h1 := o.hr
  have h2 := o.hc
  have h3 := o.w20
  unfold widS
  by_cases c : s.w = 20
  · rw [if_pos c]
    refine ⟨⟨by show (s.rows.map (·.drop 1)).length = s.h; rw [List.length_map, o.len], fun r hr => ?_, by show 0 < s.h; omega, by show 0 < 19; decide, o.h10, by show 19 ≤ 20; decide⟩, rfl, by show 19 ≠ s.w; omega⟩
    obtain ⟨q, hq, rfl⟩ := List.mem_map.mp hr
    obtain ⟨w1, w2⟩ := o.wid q hq
    exact ⟨by rw [List.length_drop, w1, c], fun y hy => w2 y (List.mem_of_mem_drop hy)⟩
  · rw [if_neg c]
    refine ⟨⟨by show (s.rows.map fun r => r ++ r.take 1).length = s.h; rw [List.length_map, o.len], fun r hr => ?_, h1, by show s.col < s.w + 1; omega, o.h10, by show s.w + 1 ≤ 20; omega⟩, rfl, by show s.w + 1 ≠ s.w; omega⟩
    obtain ⟨q, hq, rfl⟩ := List.mem_map.mp hr
    obtain ⟨w1, w2⟩ := o.wid q hq
    refine ⟨by show (q ++ q.take 1).length = s.w + 1; rw [List.length_append, List.length_take, w1]; omega, fun y hy => ?_⟩
    rcases List.mem_append.mp hy with z | z
    · exact w2 y z
    · exact w2 y (List.mem_of_mem_take z)
/-- faces, one of which is none, or of another size than the first -/
inductive LoopB (f0 : PyData) : List PyData → Prop
  | bad {f : PyData} {r : List PyData} : isFace f = false → smF f → LoopB f0 (f :: r)
  | size {s s0 : Sc} {r : List PyData} : s.Ok → s0.Ok → f0 = s0.d → ¬ (s.h = s0.h ∧ s.w = s0.w) → LoopB f0 (s.d :: r)
  | step {s s0 : Sc} {r : List PyData} : s.Ok → s0.Ok → f0 = s0.d → s.h = s0.h → s.w = s0.w → LoopB f0 r → LoopB f0 (s.d :: r)
inductive PrsB : PyData → Prop
  | no {d : PyData} : isL d = false → PrsB d
  | nil : PrsB (.list [])
  | pairs {x : PyData} {r : List PyData} : pairsOk (x :: r) 0 9999 = false → PrsB (.list (x :: r))
  | first {n : Int} {f : PyData} {r : List (Int × PyData)} : pairsOk (((n, f) :: r).map fun q => .tuple [.int q.1, q.2]) 0 9999 = true → n ≠ 0 → PrsB (.list (((n, f) :: r).map fun q => .tuple [.int q.1, q.2]))
  | loop {f : PyData} {r : List (Int × PyData)} : pairsOk (((0, f) :: r).map fun q => .tuple [.int q.1, q.2]) 0 9999 = true → LoopB f (chsOf ((0, f) :: r)) → PrsB (.list (((0, f) :: r).map fun q => .tuple [.int q.1, q.2]))
abbrev NP1 (s : Sc) : List PyData := [.none, .list [], .tuple [.tuple [.int 0, s.d]], .list [.tuple [.int 1, s.d]], .list [.tuple [.int 0, s.d], .tuple [.int 0, s.d]], .list [.tuple [.int 0, s.d], .tuple [.int 3, s.d], .tuple [.int 2, s.d]], .list [.list [.int 0, s.d]]]
abbrev NP2 (s : Sc) : List PyData := [.list [.tuple [.int 0, s.d], .tuple [.int 10000, s.d]], .list [.tuple [.int 0, s.d], .tuple [.int 1, (widS s).d]], .list [.tuple [.int 0, .none]], .list [.tuple [.int 0, s.d], .tuple [.int 1, .none]], .list [.tuple [.int 0]]]
abbrev NP3 (s : Sc) : List PyData := [.list [.tuple [.bool false, s.d]], .list [.tuple [.int 0, s.d], .tuple [.none, s.d]], .list [.tuple [.int 0, s.d], .tuple [.str "1", s.d]], .list [.tuple [.int (-1), s.d], .tuple [.int 0, s.d]]]
def noP (s : Sc) : List PyData := NP1 s ++ NP2 s ++ NP3 s
theorem noP_len (s : Sc) : (noP s).length = 16 := rfl
def noPD (s : Sc) (m : Int) : PyData := (noP s).getD (m % 16).toNat .none
theorem prs_bad {s : Sc} (o : s.Ok) : ∀ d ∈ noP s, PrsB d := by
  have same : ∀ {r : List PyData}, LoopB s.d r → LoopB s.d (s.d :: r) := fun {r} h => .step o o rfl rfl rfl h
  intro d hd
  unfold noP at hd
  rcases List.mem_append.mp hd with h | h
  · rcases List.mem_append.mp h with h | h
    · simp only [NP1, List.mem_cons, List.not_mem_nil, or_false] at h
      rcases h with rfl | rfl | rfl | rfl | rfl | rfl | rfl
      · exact .no rfl
      · exact .nil
      · exact .no rfl
      · exact PrsB.first (n := 1) (f := s.d) (r := []) rfl (by decide)
      · exact .pairs rfl
      · exact .pairs rfl
      · exact .pairs rfl
    · simp only [NP2, List.mem_cons, List.not_mem_nil, or_false] at h
      rcases h with rfl | rfl | rfl | rfl | rfl
      · exact .pairs rfl
      · obtain ⟨w1, w2, w3⟩ := widS_ok o
        exact PrsB.loop (f := s.d) (r := [(1, (widS s).d)]) rfl (same (.size w1 o rfl fun z => w3 z.2))
      · exact PrsB.loop (f := .none) (r := []) rfl (.bad rfl (smF_of fun _ z => by cases z))
      · exact PrsB.loop (f := s.d) (r := [(1, .none)]) rfl (same (.bad rfl (smF_of fun _ z => by cases z)))
      · exact .pairs rfl
  · simp only [NP3, List.mem_cons, List.not_mem_nil, or_false] at h
    rcases h with rfl | rfl | rfl | rfl
    · exact .pairs rfl
    · exact .pairs rfl
    · exact .pairs rfl
    · exact .pairs rfl
theorem noPD_bad {s : Sc} (o : s.Ok) (m : Int) : PrsB (noPD s m) := prs_bad o _ (at_mod (noP_len s) (by decide) m).2
section
variable {P : Program} {w : World} {K : PySem.W.Frag} {mg : Str → Option Value} {base : Heap} {f C CB CF : Addr} {fd : FuncData}
def frLnf : List PyData → Rs → Prop := fun ds q => ∃ (s : Sc) (m : Int), s.Ok ∧ ds = [s.d, .int m] ∧ q = .ok (noFD s m)
abbrev NNo : List Str := ["_law_face_here", "_law_more", "_law_go", "_law_some"]
theorem sc_lnf : FnScope NNo ["_law_face_here", "_law_more"] (defScope s__law_no_film) := ⟨rfl, rfl, rfl, by decide +kernel, rfl, by decide +kernel, by decide +kernel⟩
theorem ok_lnf (F : Df K "_law_no_film" s__law_no_film f fd) (hm : mg "_law_no_film" = some (.ref f)) (B : Bl mg) : DefOk P w K mg base 1 "_law_no_film" frLnf := by
  refine def_ok F hm sc_lnf (fun _ _ _ _ _ _ us hl => match us, hl with | [_, _], _ => rfl) (fun ds r h => by obtain ⟨_, _, _, rfl, _⟩ := h; rfl) (fun cdv A outer s1 H E qs ds r hr h => ?_)
  obtain ⟨s, m, o, rfl, rfl⟩ := h
  obtain ⟨c0, rest, er, lw⟩ := Sc.row0 o
  refine sd_set 2 (d := goD) (PN.pd (pn_lst (pds_cons (pd_tup (pds_cons pd_str (pds_cons pd_int (pds_cons pd_int pds_nil)))) pds_nil))) ?_ sc_lnf.nd
  refine sd_set 3 (d := .list (NF1 s)) (PN.pd (pn_lst (pds_cons pd_non (pds_cons (pd_tup (pds_cons (pd_var 0) (pds_cons pd_int pds_nil))) (pds_cons (pd_tup (pds_cons (pd_var 0) (pds_cons pd_int (pds_cons (PN.pd (pn_lst pds_nil)) (pds_cons (pd_tup pds_nil) pds_nil))))) (pds_cons (PN.pd (pn_lst (pds_cons (pd_var 0) (pds_cons pd_int (pds_cons (pd_tup pds_nil) pds_nil))))) (pds_cons (pd_tup (pds_cons pd_non (pds_cons pd_int (pds_cons (pd_tup pds_nil) pds_nil)))) (pds_cons (pd_tup (pds_cons (pd_var 0) (pds_cons (pd_neg pd_int) (pds_cons (pd_tup pds_nil) pds_nil)))) (pds_cons (pd_tup (pds_cons (pd_var 0) (pds_cons pd_int (pds_cons (pd_tup pds_nil) pds_nil)))) pds_nil))))))))) ?_ sc_lnf.nd
  refine sd_set 3 (d := .list (NF1 s ++ NF2 s)) (PN.pd (pn_catL (PD.pl (pd_var 3)) (PN.pl (pn_lst (pds_cons (pd_tup (pds_cons (pd_var 0) (pds_cons pd_non (pds_cons (pd_tup pds_nil) pds_nil)))) (pds_cons (pd_tup (pds_cons (pd_var 0) (pds_cons pd_bl (pds_cons (pd_tup (pds_cons (pd_tup (pds_cons pd_int (pds_cons (pd_var 2) pds_nil))) pds_nil)) pds_nil)))) (pds_cons (pd_tup (pds_cons (pd_var 0) (pds_cons pd_int (pds_cons (PN.pd (pn_lst pds_nil)) pds_nil)))) (pds_cons (pd_tup (pds_cons (pd_var 0) (pds_cons pd_int (pds_cons (pd_tup (pds_cons (pd_tup (pds_cons pd_int (pds_cons (pd_var 2) pds_nil))) pds_nil)) pds_nil)))) (pds_cons (pd_tup (pds_cons (pd_var 0) (pds_cons pd_int (pds_cons (pd_tup (pds_cons (pd_tup (pds_cons pd_int (pds_cons (pd_var 2) pds_nil))) pds_nil)) pds_nil)))) pds_nil))))))) (show 7 + 5 ≤ 10000 by decide))) ?_ sc_lnf.nd
  refine sd_set 3 (d := .list (NF1 s ++ NF2 s ++ NF3 s)) (PN.pd (pn_catL (PD.pl (pd_var 3)) (PN.pl (pn_lst (pds_cons (pd_tup (pds_cons (pd_var 0) (pds_cons pd_int (pds_cons (pd_tup (pds_cons (pd_tup (pds_cons pd_int (pds_cons (pd_var 2) pds_nil))) (pds_cons (pd_tup (pds_cons pd_int (pds_cons (pd_var 2) pds_nil))) pds_nil))) pds_nil)))) (pds_cons (pd_tup (pds_cons (pd_var 0) (pds_cons pd_int (pds_cons (pd_tup (pds_cons (pd_tup (pds_cons pd_int (pds_cons (pd_var 2) pds_nil))) (pds_cons (pd_tup (pds_cons pd_int (pds_cons (pd_var 2) pds_nil))) pds_nil))) pds_nil)))) (pds_cons (pd_tup (pds_cons (pd_var 0) (pds_cons pd_int (pds_cons (pd_tup (pds_cons (PN.pd (pn_lst (pds_cons pd_int (pds_cons (pd_var 2) pds_nil)))) pds_nil)) pds_nil)))) (pds_cons (pd_tup (pds_cons (pd_var 0) (pds_cons pd_int (pds_cons (pd_tup (pds_cons (pd_tup (pds_cons pd_int pds_nil)) pds_nil)) pds_nil)))) pds_nil)))))) (show 12 + 4 ≤ 10000 by decide))) ?_ sc_lnf.nd
  refine sd_set 3 (d := .list (NF1 s ++ NF2 s ++ NF3 s ++ NF4 s)) (PN.pd (pn_catL (PD.pl (pd_var 3)) (PN.pl (pn_lst (pds_cons (pd_tup (pds_cons (pd_var 0) (pds_cons pd_int (pds_cons (pd_tup (pds_cons (pd_tup (pds_cons pd_int (pds_cons pd_non pds_nil))) pds_nil)) pds_nil)))) (pds_cons (pd_tup (pds_cons (pd_var 0) (pds_cons pd_int (pds_cons (pd_tup (pds_cons (pd_tup (pds_cons pd_int (pds_cons (pd_tupleL B.tuple (PD.pl (pd_var 2))) pds_nil))) pds_nil)) pds_nil)))) (pds_cons (pd_tup (pds_cons (pd_var 0) (pds_cons pd_int (pds_cons (pd_tup (pds_cons (pd_tup (pds_cons pd_int (pds_cons (PN.pd (pn_lst (pds_cons (pd_tup (pds_cons pd_str (pds_cons pd_int (pds_cons pd_int pds_nil)))) pds_nil))) pds_nil))) pds_nil)) pds_nil)))) pds_nil))))) (show 16 + 3 ≤ 10000 by decide))) ?_ sc_lnf.nd
  refine sd_set 3 (d := .list (NF1 s ++ NF2 s ++ NF3 s ++ NF4 s ++ NF5 s)) (PN.pd (pn_catL (PD.pl (pd_var 3)) (PN.pl (pn_lst (pds_cons (pd_tup (pds_cons (pd_var 0) (pds_cons pd_int (pds_cons (pd_tup (pds_cons (pd_tup (pds_cons pd_int (pds_cons (PN.pd (pn_lst (pds_cons (pd_tup (pds_cons pd_str (pds_cons pd_int (pds_cons (PD.eq (pd_lenT B.len (pd_ixT (d := .tuple c0) (pd_ixT (d := .tuple (s.rows.map .tuple)) (pd_var 0) pd_int atI0) pd_int (by rw [er]; exact atI0))) (by rw [lw])) (pds_cons pd_int (pds_cons pd_str pds_nil)))))) pds_nil))) pds_nil))) pds_nil)) pds_nil)))) (pds_cons (pd_tup (pds_cons (pd_var 0) (pds_cons pd_int (pds_cons (pd_tup (pds_cons (pd_tup (pds_cons pd_bl (pds_cons (pd_var 2) pds_nil))) pds_nil)) pds_nil)))) pds_nil)))) (show 19 + 2 ≤ 10000 by decide))) ?_ sc_lnf.nd
  refine sd_set 3 (d := .list (NF1 s ++ NF2 s ++ NF3 s ++ NF4 s ++ NF5 s ++ NF6 s)) (PN.pd (pn_catL (PD.pl (pd_var 3)) (PN.pl (pn_lst (pds_cons (pd_tup (pds_cons (pd_var 0) (pds_cons pd_int (pds_cons (pd_tup (pds_cons (pd_tup (pds_cons pd_int (pds_cons (PN.pd (pn_lst (pds_cons (pd_tup (pds_cons pd_str pds_nil)) pds_nil))) pds_nil))) pds_nil)) pds_nil)))) (pds_cons (pd_tup (pds_cons (pd_var 0) (pds_cons pd_int (pds_cons (pd_tup (pds_cons (pd_tup (pds_cons pd_non (pds_cons (pd_var 2) pds_nil))) pds_nil)) pds_nil)))) (pds_cons (pd_tup (pds_cons (pd_tup (pds_cons (pd_ixT (d := .tuple (s.rows.map .tuple)) (pd_var 0) pd_int atI0) (pds_cons pd_int (pds_cons pd_int pds_nil)))) (pds_cons pd_int (pds_cons (pd_tup pds_nil) pds_nil)))) pds_nil))))) (show 21 + 3 ≤ 10000 by decide))) ?_ sc_lnf.nd
  have pos : (0 : Int) < ((noF s).length : Int) := by
    rw [noF_len]
    decide
  exact sd_ret (pd_ixL (d := noFD s m) (PD.pl (pd_var 3)) (PD.eq (pd_mod pos (pd_var 1) (pd_lenL B.len (PD.pl (pd_var 3)))) (dz := .int (m % ((24 : Nat) : Int))) (by rw [noF_len])) (at_mod (noF_len s) (by decide) m).1) rfl
def frLnp : List PyData → Rs → Prop := fun ds q => ∃ (s : Sc) (m : Int), s.Ok ∧ ds = [s.d, .int m] ∧ q = .ok (noPD s m)
abbrev NNq : List Str := ["_law_face_here", "_law_more", "_law_wider", "_law_some", "_law_cells"]
theorem sc_lnp : FnScope NNq ["_law_face_here", "_law_more"] (defScope s__law_no_pairs) := ⟨rfl, rfl, rfl, by decide +kernel, rfl, by decide +kernel, by decide +kernel⟩
theorem ok_lnp (F : Df K "_law_no_pairs" s__law_no_pairs f fd) (hm : mg "_law_no_pairs" = some (.ref f)) (B : Bl mg) : DefOk P w K mg base 1 "_law_no_pairs" frLnp := by
  refine def_ok F hm sc_lnp (fun _ _ _ _ _ _ us hl => match us, hl with | [_, _], _ => rfl) (fun ds r h => by obtain ⟨_, _, _, rfl, _⟩ := h; rfl) (fun cdv A outer s1 H E qs ds r hr h => ?_)
  obtain ⟨s, m, o, rfl, rfl⟩ := h
  obtain ⟨c0, rest, er, lw⟩ := Sc.row0 o
  have h10 := o.h10
  have w20 := o.w20
  have hlen := o.len
  refine sd_set 2 (d := .tuple [.tuple ((s.rows.map fun r => r ++ r.take 1).map .tuple), .int (s.row : Int), .int (s.col : Int)]) (pd_tup (pds_cons (pd_tupleL B.tuple (PN.pl (pn_lc (y := "_law_cells") (j := 4) (items := s.rows.map .tuple) (ys := (s.rows.map fun r => r ++ r.take 1).map .tuple) rfl sc_lnp.nd (PWk.ws (wk_tup (pd_ixT (d := .tuple (s.rows.map .tuple)) (pd_var 0) pd_int atI0))) (by rw [List.length_map, List.length_map, List.length_map]) (blkOk_by (N := NNq) (sc := defScope s__law_no_pairs) (by decide +kernel)) (fun _ _ _ _ _ => pg_name sc_lnp.nd rfl (Or.inl rfl)) (fun i d y hd hy D o2 s2 H2 C2 cl fp => ?el) (by rw [List.length_map]; omega)))) (pds_cons (pd_ixT (d := .int (s.row : Int)) (pd_var 0) pd_int atI1) (pds_cons (pd_ixT (d := .int (s.col : Int)) (pd_var 0) pd_int (atI_nat (j := 2) rfl)) pds_nil)))) ?_ sc_lnp.nd
  case el =>
    rw [List.getElem?_map] at hd hy
    rw [List.getElem?_map] at hy
    cases e : s.rows[i]? with
    | none => rw [e] at hd; cases hd
    | some q =>
      rw [e] at hd hy
      cases hd
      cases hy
      have lq := (o.wid q (List.mem_of_getElem? e)).1
      exact pd_catT (pd_var 4) (PD.eq (pd_slT (i := none) (j := some ((1 : Nat) : Int)) (pd_var 4) rfl ⟨_, rfl, pd_int⟩) (by rw [cut_to])) (by rw [List.length_take]; omega)
  refine sd_ifJ (fun δ' ω' => ω' = ⟨qs, []⟩ ∧ ∃ y3 y4, δ' = [some (.im s.d), some (.im (.int m)), some (.im (widS s).d), y3, y4]) (pt_cmpd op_eq rd_eqI (PD.eq (pd_lenT B.len (pd_ixT (d := .tuple c0) (pd_ixT (d := .tuple (s.rows.map .tuple)) (pd_var 0) pd_int atI0) pd_int (by rw [er]; exact atI0))) (by rw [lw])) pd_int (nomark _)) (fun hk => ?_) (fun hk => sd_nil ?_) ?_
  · have c : s.w = 20 := by
      have := of_decide_eq_true hk
      omega
    have ew : (widS s).d = .tuple [.tuple ((s.rows.map fun r => r.drop 1).map .tuple), .int 0, .int 0] := by
      unfold widS
      rw [if_pos c]
      rfl
    refine sd_set 2 (d := (widS s).d) (PD.eq (pd_tup (pds_cons (pd_tupleL B.tuple (PN.pl (pn_lc (y := "_law_cells") (j := 4) (items := s.rows.map .tuple) (ys := (s.rows.map fun r => r.drop 1).map .tuple) rfl sc_lnp.nd (PWk.ws (wk_tup (pd_ixT (d := .tuple (s.rows.map .tuple)) (pd_var 0) pd_int atI0))) (by rw [List.length_map, List.length_map, List.length_map]) (blkOk_by (N := NNq) (sc := defScope s__law_no_pairs) (by decide +kernel)) (fun _ _ _ _ _ => pg_name sc_lnp.nd rfl (Or.inl rfl)) (fun i d y hd hy D o2 s2 H2 C2 cl fp => ?el2) (by rw [List.length_map]; omega)))) (pds_cons pd_int (pds_cons pd_int pds_nil)))) ew.symm) (sd_nil ⟨rfl, _, _, rfl⟩) sc_lnp.nd
    case el2 =>
      rw [List.getElem?_map] at hd hy
      rw [List.getElem?_map] at hy
      cases e : s.rows[i]? with
      | none => rw [e] at hd; cases hd
      | some q =>
        rw [e] at hd hy
        cases hd
        cases hy
        exact PD.eq (pd_slT (i := some ((1 : Nat) : Int)) (j := none) (pd_var 4) ⟨_, rfl, pd_int⟩ rfl) (by rw [cut_from])
  · have c : s.w ≠ 20 := by
      have := of_decide_eq_false hk
      omega
    have ew : (widS s).d = .tuple [.tuple ((s.rows.map fun r => r ++ r.take 1).map .tuple), .int (s.row : Int), .int (s.col : Int)] := by
      unfold widS
      rw [if_neg c]
      rfl
    exact ⟨rfl, none, none, by rw [ew]; rfl⟩
  rintro δ' ω' ⟨rfl, y3, y4, rfl⟩
  refine sd_set 3 (d := .list (NP1 s)) (PN.pd (pn_lst (pds_cons pd_non (pds_cons (PN.pd (pn_lst pds_nil)) (pds_cons (pd_tup (pds_cons (pd_tup (pds_cons pd_int (pds_cons (pd_var 0) pds_nil))) pds_nil)) (pds_cons (PN.pd (pn_lst (pds_cons (pd_tup (pds_cons pd_int (pds_cons (pd_var 0) pds_nil))) pds_nil))) (pds_cons (PN.pd (pn_lst (pds_cons (pd_tup (pds_cons pd_int (pds_cons (pd_var 0) pds_nil))) (pds_cons (pd_tup (pds_cons pd_int (pds_cons (pd_var 0) pds_nil))) pds_nil)))) (pds_cons (PN.pd (pn_lst (pds_cons (pd_tup (pds_cons pd_int (pds_cons (pd_var 0) pds_nil))) (pds_cons (pd_tup (pds_cons pd_int (pds_cons (pd_var 0) pds_nil))) (pds_cons (pd_tup (pds_cons pd_int (pds_cons (pd_var 0) pds_nil))) pds_nil))))) (pds_cons (PN.pd (pn_lst (pds_cons (PN.pd (pn_lst (pds_cons pd_int (pds_cons (pd_var 0) pds_nil)))) pds_nil))) pds_nil))))))))) ?_ sc_lnp.nd
  refine sd_set 3 (d := .list (NP1 s ++ NP2 s)) (PN.pd (pn_catL (PD.pl (pd_var 3)) (PN.pl (pn_lst (pds_cons (PN.pd (pn_lst (pds_cons (pd_tup (pds_cons pd_int (pds_cons (pd_var 0) pds_nil))) (pds_cons (pd_tup (pds_cons pd_int (pds_cons (pd_var 0) pds_nil))) pds_nil)))) (pds_cons (PN.pd (pn_lst (pds_cons (pd_tup (pds_cons pd_int (pds_cons (pd_var 0) pds_nil))) (pds_cons (pd_tup (pds_cons pd_int (pds_cons (pd_var 2) pds_nil))) pds_nil)))) (pds_cons (PN.pd (pn_lst (pds_cons (pd_tup (pds_cons pd_int (pds_cons pd_non pds_nil))) pds_nil))) (pds_cons (PN.pd (pn_lst (pds_cons (pd_tup (pds_cons pd_int (pds_cons (pd_var 0) pds_nil))) (pds_cons (pd_tup (pds_cons pd_int (pds_cons pd_non pds_nil))) pds_nil)))) (pds_cons (PN.pd (pn_lst (pds_cons (pd_tup (pds_cons pd_int pds_nil)) pds_nil))) pds_nil))))))) (show 7 + 5 ≤ 10000 by decide))) ?_ sc_lnp.nd
  refine sd_set 3 (d := .list (NP1 s ++ NP2 s ++ NP3 s)) (PN.pd (pn_catL (PD.pl (pd_var 3)) (PN.pl (pn_lst (pds_cons (PN.pd (pn_lst (pds_cons (pd_tup (pds_cons pd_bl (pds_cons (pd_var 0) pds_nil))) pds_nil))) (pds_cons (PN.pd (pn_lst (pds_cons (pd_tup (pds_cons pd_int (pds_cons (pd_var 0) pds_nil))) (pds_cons (pd_tup (pds_cons pd_non (pds_cons (pd_var 0) pds_nil))) pds_nil)))) (pds_cons (PN.pd (pn_lst (pds_cons (pd_tup (pds_cons pd_int (pds_cons (pd_var 0) pds_nil))) (pds_cons (pd_tup (pds_cons pd_str (pds_cons (pd_var 0) pds_nil))) pds_nil)))) (pds_cons (PN.pd (pn_lst (pds_cons (pd_tup (pds_cons (pd_neg pd_int) (pds_cons (pd_var 0) pds_nil))) (pds_cons (pd_tup (pds_cons pd_int (pds_cons (pd_var 0) pds_nil))) pds_nil)))) pds_nil)))))) (show 12 + 4 ≤ 10000 by decide))) ?_ sc_lnp.nd
  have pos : (0 : Int) < ((noP s).length : Int) := by
    rw [noP_len]
    decide
  exact sd_ret (pd_ixL (d := noPD s m) (PD.pl (pd_var 3)) (PD.eq (pd_mod pos (pd_var 1) (pd_lenL B.len (PD.pl (pd_var 3)))) (dz := .int (m % ((16 : Nat) : Int))) (by rw [noP_len])) (at_mod (noP_len s) (by decide) m).1) rfl
def frB (n : Nat) (CF : Addr) : List PyData → Rs → Prop := fun ds q => ∃ d rest, FilmR d false ∧ rest.length = n ∧ ds = d :: rest ∧ q = .er CF
theorem sc_at : FnScope ["film", "tick"] ["film", "tick"] (defScope s_face_at) := ⟨rfl, rfl, rfl, by decide +kernel, rfl, by decide +kernel, by decide +kernel⟩
theorem ok_at (F : Df K "face_at" s_face_at f fd) (hm : mg "face_at" = some (.ref f)) (G : LC.DefC P w K mg base 7 "need_film" (frNf CF)) : LC.DefC P w K mg base 8 "face_at" (frB 1 CF) := by
  refine LC.def_okC F hm sc_at (fun _ _ _ _ _ _ us hl => match us, hl with | [_, _], _ => rfl) (fun ds r h => by obtain ⟨_, _, _, h, rfl, _⟩ := h; simp only [List.length_cons, List.length_nil, h]) (fun cdv A outer s H E qs ds r hr h => ?_)
  obtain ⟨d, rest, hF, hl, rfl, rfl⟩ := h
  have tk : LC.Takes (cxOf (LC.CX P w) P w K mg base ["film", "tick"] "face_at" (defScope s_face_at) f cdv A outer s H E) (WOf E) := LC.takes_of rfl rfl rfl rfl
  obtain ⟨x0, rfl⟩ : ∃ x0, rest = [x0] := by
    match rest, hl with
    | [x0], _ => exact ⟨x0, rfl⟩
  exact LC.sd_callC G hr tk (pds_cons (pd_var 0) pds_nil) ⟨d, false, hF, rfl, rfl⟩ (fun d1 e => by cases e) (fun Z e => by cases e; rfl)
theorem sc_cof : FnScope ["film", "change", "tick"] ["film"] (defScope s_cost_of) := ⟨rfl, rfl, rfl, by decide +kernel, rfl, by decide +kernel, by decide +kernel⟩
theorem ok_cof (F : Df K "cost_of" s_cost_of f fd) (hm : mg "cost_of" = some (.ref f)) (G : LC.DefC P w K mg base 7 "need_film" (frNf CF)) : LC.DefC P w K mg base 8 "cost_of" (frB 0 CF) := by
  refine LC.def_okC F hm sc_cof (fun _ _ _ _ _ _ us hl => match us, hl with | [_], _ => rfl) (fun ds r h => by obtain ⟨_, _, _, h, rfl, _⟩ := h; simp only [List.length_cons, List.length_nil, h]) (fun cdv A outer s H E qs ds r hr h => ?_)
  obtain ⟨d, rest, hF, hl, rfl, rfl⟩ := h
  have tk : LC.Takes (cxOf (LC.CX P w) P w K mg base ["film", "change", "tick"] "cost_of" (defScope s_cost_of) f cdv A outer s H E) (WOf E) := LC.takes_of rfl rfl rfl rfl
  obtain rfl : rest = [] := List.length_eq_zero_iff.mp hl
  exact LC.sd_callC G hr tk (pds_cons (pd_var 0) pds_nil) ⟨d, false, hF, rfl, rfl⟩ (fun d1 e => by cases e) (fun Z e => by cases e; rfl)
theorem sc_cut : FnScope ["film", "first", "last", "kept", "change", "tick"] ["film", "first", "last"] (defScope s_cut) := ⟨rfl, rfl, rfl, by decide +kernel, rfl, by decide +kernel, by decide +kernel⟩
theorem ok_cut (F : Df K "cut" s_cut f fd) (hm : mg "cut" = some (.ref f)) (G : LC.DefC P w K mg base 7 "need_film" (frNf CF)) : LC.DefC P w K mg base 8 "cut" (frB 2 CF) := by
  refine LC.def_okC F hm sc_cut (fun _ _ _ _ _ _ us hl => match us, hl with | [_, _, _], _ => rfl) (fun ds r h => by obtain ⟨_, _, _, h, rfl, _⟩ := h; simp only [List.length_cons, List.length_nil, h]) (fun cdv A outer s H E qs ds r hr h => ?_)
  obtain ⟨d, rest, hF, hl, rfl, rfl⟩ := h
  have tk : LC.Takes (cxOf (LC.CX P w) P w K mg base ["film", "first", "last", "kept", "change", "tick"] "cut" (defScope s_cut) f cdv A outer s H E) (WOf E) := LC.takes_of rfl rfl rfl rfl
  obtain ⟨x0, x1, rfl⟩ : ∃ x0 x1, rest = [x0, x1] := by
    match rest, hl with
    | [x0, x1], _ => exact ⟨x0, x1, rfl⟩
  exact LC.sd_callC G hr tk (pds_cons (pd_var 0) pds_nil) ⟨d, false, hF, rfl, rfl⟩ (fun d1 e => by cases e) (fun Z e => by cases e; rfl)
theorem sc_sl : FnScope ["film", "by", "length"] ["film", "by"] (defScope s_slowed) := ⟨rfl, rfl, rfl, by decide +kernel, rfl, by decide +kernel, by decide +kernel⟩
theorem ok_sl (F : Df K "slowed" s_slowed f fd) (hm : mg "slowed" = some (.ref f)) (G : LC.DefC P w K mg base 7 "need_film" (frNf CF)) : LC.DefC P w K mg base 8 "slowed" (frB 1 CF) := by
  refine LC.def_okC F hm sc_sl (fun _ _ _ _ _ _ us hl => match us, hl with | [_, _], _ => rfl) (fun ds r h => by obtain ⟨_, _, _, h, rfl, _⟩ := h; simp only [List.length_cons, List.length_nil, h]) (fun cdv A outer s H E qs ds r hr h => ?_)
  obtain ⟨d, rest, hF, hl, rfl, rfl⟩ := h
  have tk : LC.Takes (cxOf (LC.CX P w) P w K mg base ["film", "by", "length"] "slowed" (defScope s_slowed) f cdv A outer s H E) (WOf E) := LC.takes_of rfl rfl rfl rfl
  obtain ⟨x0, rfl⟩ : ∃ x0, rest = [x0] := by
    match rest, hl with
    | [x0], _ => exact ⟨x0, rfl⟩
  exact LC.sd_callC G hr tk (pds_cons (pd_var 0) pds_nil) ⟨d, false, hF, rfl, rfl⟩ (fun d1 e => by cases e) (fun Z e => by cases e; rfl)
end
end K93

namespace K93
open PySem PySem.Spec PyProof.Rows L2 FP
section
variable {P : Program} {w : World} {K : PySem.W.Frag} {mg : Str → Option Value} {base : Heap} {f C CB CF : Addr} {fd : FuncData}
def frSplB (CF : Addr) : List PyData → Rs → Prop := fun ds q => ∃ d e, (FilmR d false ∨ (FilmR d true ∧ FilmR e false)) ∧ ds = [d, e] ∧ q = .er CF
abbrev NSpl : List Str := ["one", "other", "seam", "length", "changes", "end"]
theorem sc_spl : FnScope NSpl ["one", "other"] (defScope s_spliced) := ⟨rfl, rfl, rfl, by decide +kernel, rfl, by decide +kernel, by decide +kernel⟩
theorem ok_spl (F : Df K "spliced" s_spliced f fd) (hm : mg "spliced" = some (.ref f)) (G : LC.DefC P w K mg base 7 "need_film" (frNf CF)) : LC.DefC P w K mg base 8 "spliced" (frSplB CF) := by
  refine LC.def_okC F hm sc_spl (fun _ _ _ _ _ _ us hl => match us, hl with | [_, _], _ => rfl) (fun ds r h => by obtain ⟨_, _, _, rfl, _⟩ := h; rfl) (fun cdv A outer s H E qs ds r hr h => ?_)
  obtain ⟨d, e, hF, rfl, rfl⟩ := h
  have tk : LC.Takes (cxOf (LC.CX P w) P w K mg base NSpl "spliced" (defScope s_spliced) f cdv A outer s H E) (WOf E) := LC.takes_of rfl rfl rfl rfl
  rcases hF with h1 | ⟨h1, h2⟩
  · exact LC.sd_callC G hr tk (pds_cons (pd_var 0) pds_nil) ⟨d, false, h1, rfl, rfl⟩ (fun d1 e => by cases e) (fun Z e => by cases e; rfl)
  · refine LC.sd_callC G hr tk (pds_cons (pd_var 0) pds_nil) ⟨d, true, h1, rfl, rfl⟩ (fun d1 e => ?_) (fun Z e => by cases e)
    exact LC.sd_callC G hr tk (pds_cons (pd_var 1) pds_nil) ⟨_, false, h2, rfl, rfl⟩ (fun d1 e => by cases e) (fun Z e => by cases e; rfl)
def frNftB (CF : Addr) : List PyData → Rs → Prop := fun ds q => ∃ d, PrsB d ∧ ds = [d] ∧ q = .er CF
abbrev NNft : List Str := ["pairs", "tick", "face"]
theorem sc_nft : FnScope NNft ["pairs"] (defScope s_need_faces_by_ticks) := ⟨rfl, rfl, rfl, by decide +kernel, rfl, by decide +kernel, by decide +kernel⟩
theorem two_shp (i j : Int) : Shp 1 (.tuple [.int i, .int j]) := .tup fun x hx => by
  simp only [List.mem_cons, List.not_mem_nil, or_false] at hx
  rcases hx with rfl | rfl <;> exact .int _
theorem two_eqv (i j m n : Int) : PyData.eqv (.tuple [.int i, .int j]) (.tuple [.int m, .int n]) = (decide (i = m) && decide (j = n)) := by
  show (PyData.eqv (.int i) (.int m) && (PyData.eqv (.int j) (.int n) && true)) = _
  rw [Bool.and_true]
  have one : ∀ a b : Int, PyData.eqv (.int a) (.int b) = decide (a = b) := fun a b => by
    simp only [PyData.eqv]
    rw [Bool.eq_iff_iff]
    simp
  rw [one, one]
theorem ok_nft (F : Df K "need_faces_by_ticks" s_need_faces_by_ticks f fd) (hm : mg "need_faces_by_ticks" = some (.ref f)) (B : Bl mg) (ml : mg "list" = none) (X1 : ExcF K mg "BadFilm" CF) (g : GlD K mg "MOST_TICK" (.int 9999)) (G1 : DefOk P w K mg base 3 "need_pairs" (frNps CF)) (G2 : LC.DefC P w K mg base 6 "need_film_face" (frNff CF)) (G3 : DefOk P w K mg base 1 "size_of" frSo) : LC.DefC P w K mg base 7 "need_faces_by_ticks" (frNftB CF) := by
  refine LC.def_okC F hm sc_nft (fun _ _ _ _ _ _ us hl => match us, hl with | [_], _ => rfl) (fun ds r h => by obtain ⟨_, _, rfl, _⟩ := h; rfl) (fun cdv A outer s H E qs ds r hr h => ?_)
  obtain ⟨d, hB, rfl, rfl⟩ := h
  have tk : LC.Takes (cxOf (LC.CX P w) P w K mg base NNft "need_faces_by_ticks" (defScope s_need_faces_by_ticks) f cdv A outer s H E) (WOf E) := LC.takes_of rfl rfl rfl rfl
  cases hB with
  | no h => exact sd_ifT (PWd.pt (pw_orT (PTd.eq (pt_notd (pt_bool (pd_isi B.isi ml bb_list (pd_var 0) (k_list d)))) (by rw [h]; rfl)))) (sd_raise X1 tk.toN rfl rfl)
  | nil => exact sd_ifT (PTd.eq (PWd.pt (pw_ord (pt_notd (k := true) (pt_bool (pd_isi B.isi ml bb_list (pd_var 0) (k_list _)))) (fun _ => pw_or1d (pt_notd (pt_truPL (PD.pl (pd_var 0))))))) rfl) (sd_raise X1 tk.toN rfl rfl)
  | pairs h =>
    rename_i x r
    refine sd_ifF (PTd.eq (PWd.pt (pw_ord (pt_notd (k := true) (pt_bool (pd_isi B.isi ml bb_list (pd_var 0) (k_list _)))) (fun _ => pw_or1d (pt_notd (pt_truPL (PD.pl (pd_var 0))))))) rfl) ?_
    refine sd_callX G1 (hr.mono (by decide)) tk.toN (pds_cons (pd_var 0) (pds_cons pd_int (pds_cons (pd_glob g) pds_nil))) ⟨x :: r, 0, 9999, .inr rfl, rfl⟩ (fun d1 e => ?_) (fun Z e => ?_)
    · rw [h] at e
      cases e
    · rw [h] at e
      cases e
      rfl
  | first h n0 =>
    rename_i n x r
    refine sd_ifF (PTd.eq (PWd.pt (pw_ord (pt_notd (k := true) (pt_bool (pd_isi B.isi ml bb_list (pd_var 0) (k_list _)))) (fun _ => pw_or1d (pt_notd (pt_truPL (PD.pl (pd_var 0))))))) rfl) ?_
    refine sd_callX G1 (hr.mono (by decide)) tk.toN (pds_cons (pd_var 0) (pds_cons pd_int (pds_cons (pd_glob g) pds_nil))) ⟨_, 0, 9999, .inr rfl, rfl⟩ (fun d1 e => ?_) (fun Z e => ?_)
    · refine sd_ifT (PTd.eq (pt_cmpd op_ne rd_neI (pd_ixT (d := .int n) (pd_ixL (d := .tuple [.int n, x]) (PD.pl (pd_var 0)) pd_int atI0) pd_int atI0) pd_int (nomark _)) ?_) (sd_raise X1 tk.toN rfl rfl)
      rw [decide_eq_false n0]
      rfl
    · rw [h] at e
      cases e
  | loop h lb =>
    rename_i x r
    refine sd_ifF (PTd.eq (PWd.pt (pw_ord (pt_notd (k := true) (pt_bool (pd_isi B.isi ml bb_list (pd_var 0) (k_list _)))) (fun _ => pw_or1d (pt_notd (pt_truPL (PD.pl (pd_var 0))))))) rfl) ?_
    refine sd_callX G1 (hr.mono (by decide)) tk.toN (pds_cons (pd_var 0) (pds_cons pd_int (pds_cons (pd_glob g) pds_nil))) ⟨_, 0, 9999, .inr rfl, rfl⟩ (fun d1 e => ?_) (fun Z e => by rw [h] at e; cases e)
    refine sd_ifF (PTd.eq (pt_cmpd op_ne rd_neI (pd_ixT (d := .int 0) (pd_ixL (d := .tuple [.int 0, x]) (PD.pl (pd_var 0)) pd_int atI0) pd_int atI0) pd_int (nomark _)) rfl) ?_
    refine sd_forU [1, 2] (n := 2) (items := ((0, x) :: r).map fun (q : Int × PyData) => [PyData.int q.1, q.2]) (fun i δ' ω' => ω' = ⟨qs, []⟩ ∧ ∃ y1 y2, LoopB x ((chsOf ((0, x) :: r)).drop i) ∧ δ' = [some (.im (.list (((0, x) :: r).map fun (q : Int × PyData) => .tuple [.int q.1, q.2]))), y1, y2]) (wk_lst (PD.eq (pd_var 0) (by rw [List.map_map]; rfl))) ⟨rfl, _, _, lb, rfl⟩ ?_ ?_ (fun ds hd => by obtain ⟨_, _, rfl⟩ := List.mem_map.mp hd; rfl) rfl (pg_tup rfl (pgs_cons (pg_name sc_nft.nd rfl (Or.inl rfl)) (pgs_cons (pg_name sc_nft.nd rfl (Or.inl rfl)) pgs_nil))) (passes_of rfl) rfl
    · rintro i d δ' ω' hd ⟨rfl, y1, y2, lq, rfl⟩
      rw [List.getElem?_map] at hd
      cases e : ((0, x) :: r)[i]? with
      | none => rw [e] at hd; cases hd
      | some q =>
        rw [e] at hd
        cases hd
        have e4 : (chsOf ((0, x) :: r))[i]? = some q.2 := by
          show (((0, x) :: r).map fun (q : Int × PyData) => q.2)[i]? = _
          rw [List.getElem?_map, e]
          rfl
        obtain ⟨hl4, e5⟩ := List.getElem?_eq_some_iff.mp e4
        rw [List.drop_eq_getElem_cons hl4, e5] at lq
        obtain ⟨q1, ch⟩ := q
        generalize hr4 : (chsOf ((0, x) :: r)).drop (i + 1) = rest at lq
        cases lq with
        | bad b1 b2 => exact LC.sd_callC G2 hr tk (pds_cons (pd_var 2) pds_nil) ⟨ch, rfl, b2, rfl⟩ (fun d1 e => by rw [b1] at e; cases e) (fun Z e => by rw [b1] at e; cases e; rfl)
        | size o o0 ex ns =>
          rename_i s1 s0
          subst ex
          refine LC.sd_callC G2 hr tk (pds_cons (pd_var 2) pds_nil) ⟨_, rfl, o.fc.small, rfl⟩ (fun d1 e => ?_) (fun Z e => by rw [show isFace s1.d = true from o.fc.face] at e; cases e)
          refine sd_ifT (PTd.eq (pt_cmpd (op_neD hr.units) (rd_neD (two_shp (s1.h : Int) (s1.w : Int)).ok (two_shp (s0.h : Int) (s0.w : Int)).ok) (pd_call G3 (hr.mono (by decide)) (pds_cons (pd_var 2) pds_nil) ⟨s1, o, rfl, rfl⟩) (pd_call G3 (hr.mono (by decide)) (pds_cons (pd_ixT (d := s0.d) (pd_ixL (d := .tuple [.int 0, s0.d]) (PD.pl (pd_var 0)) pd_int atI0) pd_int atI1) pds_nil) ⟨s0, o0, rfl, rfl⟩) (nomark _)) ?_) (sd_raise X1 tk.toN rfl rfl)
          rw [two_eqv, Bool.not_eq_true']
          by_cases c : s1.h = s0.h
          · rw [decide_eq_false (show ¬ ((s1.w : Int) = (s0.w : Int)) from fun z => ns ⟨c, by omega⟩), Bool.and_false]
          · rw [decide_eq_false (show ¬ ((s1.h : Int) = (s0.h : Int)) from fun z => c (by omega)), Bool.false_and]
        | step o o0 ex eh ew lb2 =>
          rename_i s1 s0
          subst ex
          subst hr4
          refine LC.sd_callC G2 hr tk (pds_cons (pd_var 2) pds_nil) ⟨_, rfl, o.fc.small, rfl⟩ (fun d1 e => ?_) (fun Z e => by rw [show isFace s1.d = true from o.fc.face] at e; cases e)
          refine sd_ifF (PTd.eq (pt_cmpd (op_neD hr.units) (rd_neD (two_shp (s1.h : Int) (s1.w : Int)).ok (two_shp (s0.h : Int) (s0.w : Int)).ok) (pd_call G3 (hr.mono (by decide)) (pds_cons (pd_var 2) pds_nil) ⟨s1, o, rfl, rfl⟩) (pd_call G3 (hr.mono (by decide)) (pds_cons (pd_ixT (d := s0.d) (pd_ixL (d := .tuple [.int 0, s0.d]) (PD.pl (pd_var 0)) pd_int atI0) pd_int atI1) pds_nil) ⟨s0, o0, rfl, rfl⟩) (nomark _)) ?_) (sd_nil ⟨rfl, _, _, lb2, rfl⟩)
          rw [two_eqv, eh, ew, decide_eq_true rfl, decide_eq_true rfl]
          rfl
    · rintro δ' ω' ⟨rfl, y1, y2, lq, rfl⟩
      rw [List.length_map, show ((0, x) :: r).length = (chsOf ((0, x) :: r)).length from (List.length_map _).symm, List.drop_length] at lq
      cases lq
abbrev NFd : List Str := ["pairs", "changes", "face", "tick", "later"]
theorem sc_fd : FnScope NFd ["pairs"] (defScope s_filmed) := ⟨rfl, rfl, rfl, by decide +kernel, rfl, by decide +kernel, by decide +kernel⟩
theorem ok_fd (F : Df K "filmed" s_filmed f fd) (hm : mg "filmed" = some (.ref f)) (G : LC.DefC P w K mg base 7 "need_faces_by_ticks" (frNftB CF)) : LC.DefC P w K mg base 8 "filmed" (frNftB CF) := by
  refine LC.def_okC F hm sc_fd (fun _ _ _ _ _ _ us hl => match us, hl with | [_], _ => rfl) (fun ds r h => by obtain ⟨_, _, rfl, _⟩ := h; rfl) (fun cdv A outer s H E qs ds r hr h => ?_)
  obtain ⟨d, hB, rfl, rfl⟩ := h
  have tk : LC.Takes (cxOf (LC.CX P w) P w K mg base NFd "filmed" (defScope s_filmed) f cdv A outer s H E) (WOf E) := LC.takes_of rfl rfl rfl rfl
  exact LC.sd_callC G hr tk (pds_cons (pd_var 0) pds_nil) ⟨d, hB, rfl, rfl⟩ (fun d1 e => by cases e) (fun Z e => by cases e; rfl)
end
end K93

namespace K93
open PySem PySem.Spec PyProof.Rows L2 FP L2H
section
variable {P : Program} {w : World} {K : PySem.W.Frag} {mg : Str → Option Value} {base : Heap} {f C : Addr} {fd : FuncData}
theorem word_mono {k j : Nat} {wd : Str} {fw : Addr → PyData → Prop} (h : LC.Word2 P w K mg base k wd fw) (hk : k ≤ j) : LC.Word2 P w K mg base j wd fw := by
  obtain ⟨g, a, b, r⟩ := h.ex
  exact ⟨g, a, b, fun A outer s H q l C d ps Q z1 z2 => r A outer s H q l C d ps Q z1 (z2.mono hk)⟩
def refused (E : Str) : PyData := .tuple [.str "refused", .str E]
theorem shp_refused {E : Str} (h : PyData.strOk E = true) : Shp 1 (refused E) := Shp.tup fun x hx => by
  simp only [List.mem_cons, List.not_mem_nil, or_false] at hx
  rcases hx with rfl | rfl
  · exact .str (by decide +kernel)
  · exact .str h
abbrev NW : List Str := ["_law_e", "_law_flags", "_law_names", "_law_flag"]
theorem sc_word : FnScope NW ["_law_e"] (defScope s__law_word) := ⟨rfl, rfl, rfl, by decide +kernel, rfl, by decide +kernel, by decide +kernel⟩
def fwA (K : PySem.W.Frag) : Addr → PyData → Prop := fun D d => (D = He.ga K "BadFilm" ∧ d = refused "BadFilm")
abbrev askedBadFilm : List (Str × Bool) := [("BadChange", false), ("BadDeed", false), ("BadFace", false), ("BadFilm", true), ("BadLayout", false), ("BadName", false), ("BadPacket", false), ("BadTalk", false), ("Nothing", false)]
structure Wd (K : PySem.W.Frag) (D : Addr) (asked : List (Str × Bool)) : Prop where
  EC : ExcC K D
  ka : ∀ c ∈ asked, PySem.W.kitOne K (.ref D) (.ref (He.ga K c.1)) = some c.2
  kv : PySem.W.kitOne K (.ref D) (.type "ValueError") = some true
theorem ok_word (F : Df K "_law_word" s__law_word f fd) (hm : mg "_law_word" = some (.ref f)) (mi : mg "isinstance" = none) (mn : mg "int" = none) (ms : mg "sum" = none) (mv : mg "ValueError" = none) (gl : ∀ c ∈ (["BadChange", "BadDeed", "BadFace", "BadFilm", "BadLayout", "BadName", "BadPacket", "BadTalk", "Nothing"] : List Str), mg c = some (.ref (He.ga K c))) (WBadFilm : Wd K (He.ga K "BadFilm") askedBadFilm) : LC.Word2 P w K mg base 1 "_law_word" (fwA K) := by
  refine LC.word_ok (N := NW) (n := 3) F hm sc_word rfl (fun _ _ _ _ _ _ us hl => match us, hl with | [_], _ => rfl) (fun cdv A outer s H q l D d ps hf hot c1 c2 hr => ?_)
  have HC : LC.HotG (LC.cx2 C8.CX0 P w K mg base NW "_law_word" (defScope s__law_word) f cdv A outer s H C8.E0 q l) := ⟨q, l, hot, fun _ m => m⟩
  obtain ⟨rfl, rfl⟩ := hf
  · have Z : Pin (LC.cx2 C8.CX0 P w K mg base NW "_law_word" (defScope s__law_word) f cdv A outer s H C8.E0 q l) q (He.ga K "BadFilm") := ⟨List.mem_cons_self, WBadFilm.EC, c1, c2, let ⟨_, vs, h, _⟩ := hot; ⟨vs, h⟩⟩
    have is : ∀ {δ : De} {ω : Om} {p0 p1 p2 pos : Pos} (c : Str × Bool) (hc : c ∈ askedBadFilm) (hc2 : c.1 ∈ (["BadChange", "BadDeed", "BadFace", "BadFilm", "BadLayout", "BadName", "BadPacket", "BadTalk", "Nothing"] : List Str)) (hd : δ[0]? = some (some (.ad q.1))) (hg : Gl (LC.cx2 C8.CX0 P w K mg base NW "_law_word" (defScope s__law_word) f cdv A outer s H C8.E0 q l) c.1) (hdb : (c.1 == ("__debug__" : Str)) = false),
        PD (LC.cx2 C8.CX0 P w K mg base NW "_law_word" (defScope s__law_word) f cdv A outer s H C8.E0 q l) δ ω (.Call (.Name "isinstance" p0) [.Name "_law_e" p1, .Name c.1 p2] [] pos) (.bool c.2) :=
      fun {δ ω p0 p1 p2 pos} c hc hc2 hd hg hdb => pd_isP 0 (y := "_law_e") Z (pe_glob (v := .ref (He.ga K c.1)) hg (gl c.1 hc2) rfl hdb) (fun v r => r) (WBadFilm.ka c hc) mi hd
    refine sd_set 1 (PN.pd (pn_lst (pds_cons (is ("BadChange", false) (by simp) (by simp) rfl rfl rfl) (pds_cons (is ("BadDeed", false) (by simp) (by simp) rfl rfl rfl) (pds_cons (is ("BadFace", false) (by simp) (by simp) rfl rfl rfl) (pds_cons (is ("BadFilm", true) (by simp) (by simp) rfl rfl rfl) pds_nil)))))) ?_ sc_word.nd
    refine sd_set 1 (PN.pd (pn_catL (PD.pl (pd_var 1)) (PN.pl (pn_lst (pds_cons (is ("BadLayout", false) (by simp) (by simp) rfl rfl rfl) (pds_cons (is ("BadName", false) (by simp) (by simp) rfl rfl rfl) (pds_cons (is ("BadPacket", false) (by simp) (by simp) rfl rfl rfl) (pds_cons (is ("BadTalk", false) (by simp) (by simp) rfl rfl rfl) pds_nil)))))) (by decide))) ?_ sc_word.nd
    refine sd_set 1 (PN.pd (pn_catL (PD.pl (pd_var 1)) (PN.pl (pn_lst (pds_cons (is ("Nothing", false) (by simp) (by simp) rfl rfl rfl) pds_nil))) (by decide))) ?_ sc_word.nd
    refine sd_if (PWd.pt (pw_ord (pt_cmpd op_ne rd_neI (LC.pd_sum2 (bs := [false, false, false, true, false, false, false, false, false]) (j := 3) HC sc_word.nd (PD.pl (pd_var 1)) (by decide) (blkOk_by (N := NW) (sc := defScope s__law_word) (by decide +kernel)) (fun _ _ _ _ _ => pg_name sc_word.nd rfl (Or.inl rfl)) (fun b s H C cl fp => pd_intB mn (pd_var 3)) ms) pd_int (nomark _))
      (fun _ => pw_or1d (pt_notd (pt_bool (pd_isP 0 (y := "_law_e") (cv := .ty "ValueError") (u := .type "ValueError") Z (pe_bltn rfl mv (by decide +kernel) rfl) (fun v r => r) WBadFilm.kv mi)))))) (fun hk => ?_) (fun _ => sd_nil ?_)
    · exact absurd hk (by decide)
    · refine sd_set 2 (PN.pd (pn_lst (pds_cons pd_str (pds_cons pd_str (pds_cons pd_str (pds_cons pd_str (pds_cons pd_str (pds_cons pd_str (pds_cons pd_str (pds_cons pd_str (pds_cons pd_str pds_nil))))))))))) ?_ sc_word.nd
      refine sd_ret (pd_tup (pds_cons pd_str (pds_cons (pd_ixL (PD.pl (pd_var 2)) (pd_idxT (bs := [false, false, false, true, false, false, false, false, false]) (j := 3) (PD.pl (pd_var 1)) rfl (fun i hi => ?_)) (atI_nat (j := 3) rfl)) pds_nil))) rfl
      match i, hi with
      | 0, _ => rfl
      | 1, _ => rfl
      | 2, _ => rfl
end
end K93

namespace K93
open PySem PySem.Spec PyProof.Rows L2 FP
section
variable {P : Program} {w : World} {K : PySem.W.Frag} {mg : Str → Option Value} {base : Heap} {f C CS : Addr} {fd : FuncData}
structure Defs (P : Program) (w : World) (K : PySem.W.Frag) (mg : Str → Option Value) (base : Heap) (CS : Addr) : Prop where
  B : Bl mg
  cell : DefOk P w K mg base 1 "_law_cell" frLCell
  drawn : DefOk P w K mg base 1 "_law_drawn" frDrawn
  size : DefOk P w K mg base 1 "_law_size" frLSize
  face : DefOk P w K mg base 2 "_law_face" frLFace
  nof : DefOk P w K mg base 1 "_law_no_film" frLnf
  nop : DefOk P w K mg base 1 "_law_no_pairs" frLnp
  need : LC.DefC P w K mg base 7 "need_film" (frNf (He.ga K "BadFilm"))
  at_ : LC.DefC P w K mg base 8 "face_at" (frB 1 (He.ga K "BadFilm"))
  cof : LC.DefC P w K mg base 8 "cost_of" (frB 0 (He.ga K "BadFilm"))
  cut : LC.DefC P w K mg base 8 "cut" (frB 2 (He.ga K "BadFilm"))
  slowed : LC.DefC P w K mg base 8 "slowed" (frB 1 (He.ga K "BadFilm"))
  spliced : LC.DefC P w K mg base 8 "spliced" (frSplB (He.ga K "BadFilm"))
  filmed : LC.DefC P w K mg base 8 "filmed" (frNftB (He.ga K "BadFilm"))
  told : Told K mg "_law_told" s__law_told
  word : LC.Word2 P w K mg base 9 "_law_word" (fwA K)
  exm : PySem.W.exmOne K (.ref (He.ga K "BadFilm")) (.ref CS) = some true
  scr : mg "ScreenError" = some (.ref CS)
abbrev NL : List Str := ["_law_script", "_law_k", "_law_more", "_law_height", "_law_width", "_law_face_here", "_law_j", "_law_here", "_law_told_here", "_law_bad", "_law_good", "_law_pairs"]
theorem sc_law : FnScope NL ["_law_script"] (defScope s_law) := ⟨rfl, rfl, rfl, by decide +kernel, rfl, by decide +kernel, by decide +kernel⟩
theorem sc_told : FnScope ["_law_deed", "_law_e"] ["_law_deed"] (defScope s__law_told) := ⟨rfl, rfl, rfl, by decide +kernel, rfl, by decide +kernel, by decide +kernel⟩
theorem told {X : Cx} {T : List (Addr × Str)} {δ : De} {ω : Om} {d : PyData} {rr : Rs} {pos p lpos : Pos} {params : Arguments} {body : Expr} {scope : Scope} (Ds : Defs X.prog X.w X.K X.mg X.base CS) (L : LamT X T) (hT : T ≠ []) (hps : ω.ps = []) (hr : Room 10 X.A)
    (hb : ∀ (A : Around) (outer : List Env) (s : Shared) (H : Hp) (E : XK) (f c' : Addr), Room 8 (A.deeper (LamX.lamEnv X scope s.heap.objs.size f c')) → PR (LC.lamC X A outer s H E scope f c') (WOf E) δ ω body rr) (hd : ToldD X.K CS (fwA X.K) d rr)
    (hL : LamX.LamS X.env.scope scope) (hdef : defaultsOf params X.env = ([], []) := by rfl) (hbind : ∀ (q : Str) (cl : List (Str × Addr)) (pm cv ctv : Value), bindArgs (PySem.W.kla_fn "<lambda>" q params body scope cl pm cv ctv) ⟨[], []⟩ = pure [] := by intros; rfl)
    (hg : Gl X "_law_told" := by rfl) : PX X T δ ω (.Call (.Name "_law_told" p) [.Lambda params body scope lpos] [] pos) d :=
  LC.px_toldC (k := 8) (Ng := ["_law_deed", "_law_e"]) (e := "ScreenError") (n := "_law_e") (wd := "_law_word") Ds.told L hT hps hr Ds.word rfl sc_told sc_told.nd rfl (Or.inl rfl) rfl rfl rfl rfl Ds.scr (fun _ _ _ _ _ _ us hl => match us, hl with | [_], _ => rfl) hb hd hL hdef hbind hg (by decide) (by decide) (by decide) (by decide) (by decide) (by decide) (by decide)
def forBody : List Stmt → List Stmt
  | .For _ _ b _ _ :: _ => b
  | _ => []
abbrev bodyK : List Stmt := forBody (defBody s_law)
abbrev bodyJ : List Stmt := forBody (bodyK.drop 5)
abbrev XL (P : Program) (w : World) (K : PySem.W.Frag) (mg : Str → Option Value) (base : Heap) (f : Addr) (cdv : Value) (A : Around) (outer : List Env) (s : Shared) (H : Hp) (E : XK) : Cx := cxOf (L2N.CX P w) P w K mg base NL "law" (defScope s_law) f cdv A outer s H E
abbrev rfB : PyData := refused "BadFilm"
noncomputable abbrev dl (ns : List Int) (k m : Int) (s : Sc) (y6 y7 y8 y9 y11 : Option Sd) : De := [some (.im (.list (ns.map .int))), some (.im (.int k)), some (.im (.int m)), some (.im (.int (s.h : Int))), some (.im (.int (s.w : Int))), some (.im s.d), y6, y7, y8, y9, some (.im (goodF s)), y11]
set_option maxHeartbeats 16000000 in
/-- a turn: what is no film -/
theorem turnJ {cdv : Value} {A : Around} {outer : List Env} {sh : Shared} {H : Hp} {E : XK} {T : List (Addr × Str)} {ns : List Int} (Ds : Defs P w K mg base CS) (LT : LamT (XL P w K mg base f cdv A outer sh H E) T) (hT : T ≠ [])
    (hr : Room 10 (A.deeper (envOfC "law" (defScope s_law) sh.heap.objs.size f cdv))) {R : Out → Prop} {k m : Int} {s : Sc} (o : s.Ok) {os : Os} {j : Nat} {y7 y8 y9 y11 : Option Sd}
    (hR : ∀ (os : Os) (y7 y8 y9 y11 : Option Sd), R (.nx (dl ns k m s (some (.im (.int (j : Int)))) y7 y8 y9 y11) ⟨[], os⟩)) :
    SD (XL P w K mg base f cdv A outer sh H E) (WOf E) T bodyJ (dl ns k m s (some (.im (.int (j : Int)))) y7 y8 y9 y11) ⟨[], os⟩ R := by
  have B := Ds.B
  have hr1 : Room 1 (A.deeper (envOfC "law" (defScope s_law) sh.heap.objs.size f cdv)) := hr.mono (by decide)
  have er : ToldD K CS (fwA K) rfB (.er (He.ga K "BadFilm")) := ⟨⟨rfl, rfl⟩, Ds.exm⟩
  refine sd_set 7 (pd_call Ds.drawn hr1 (pds_cons (pd_var 2) (pds_cons (pd_add pd_int (pd_var 6)) pds_nil)) ⟨_, _, rfl, rfl⟩) ?_ sc_law.nd
  generalize K93.drawn m (10 + (j : Int)) = h
  refine sd_set 9 (pd_call Ds.nof hr1 (pds_cons (pd_var 5) (pds_cons (pd_var 7) pds_nil)) ⟨s, h, o, rfl, rfl⟩) ?_ sc_law.nd
  have bad := noFD_bad o h
  generalize noFD s h = d at bad
  refine sd_ownx 8 (pxs_cons (told (d := rfB) (rr := .er (He.ga K "BadFilm")) Ds LT hT rfl hr (fun A outer s H' E f c' hr' => LC.pr_callC Ds.need (hr'.mono (by decide)) LC.lamC_takes (pds_cons (pd_var 9) pds_nil) ⟨d, false, bad, rfl, rfl⟩) er (LamX.lamS_by (sc := defScope s_law) (by decide +kernel)))
    (pxs_cons (told (d := rfB) (rr := .er (He.ga K "BadFilm")) Ds LT hT rfl hr (fun A outer s H' E f c' hr' => LC.pr_callC Ds.at_ hr' LC.lamC_takes (pds_cons (pd_var 9) (pds_cons pd_int pds_nil)) ⟨d, _, bad, rfl, rfl, rfl⟩) er (LamX.lamS_by (sc := defScope s_law) (by decide +kernel)))
    (pxs_cons (told (d := rfB) (rr := .er (He.ga K "BadFilm")) Ds LT hT rfl hr (fun A outer s H' E f c' hr' => LC.pr_callC Ds.cof hr' LC.lamC_takes (pds_cons (pd_var 9) pds_nil) ⟨d, _, bad, rfl, rfl, rfl⟩) er (LamX.lamS_by (sc := defScope s_law) (by decide +kernel))) pxs_nil))) (fun D1 => ?_) (by simp) sc_law.nd
  refine sd_catx 8 (pxs_cons (told (d := rfB) (rr := .er (He.ga K "BadFilm")) Ds LT hT rfl hr (fun A outer s H' E f c' hr' => LC.pr_callC Ds.cut hr' LC.lamC_takes (pds_cons (pd_var 9) (pds_cons pd_int (pds_cons pd_int pds_nil))) ⟨d, _, bad, rfl, rfl, rfl⟩) er (LamX.lamS_by (sc := defScope s_law) (by decide +kernel)))
    (pxs_cons (told (d := rfB) (rr := .er (He.ga K "BadFilm")) Ds LT hT rfl hr (fun A outer s H' E f c' hr' => LC.pr_callC Ds.slowed hr' LC.lamC_takes (pds_cons (pd_var 9) (pds_cons pd_int pds_nil)) ⟨d, _, bad, rfl, rfl, rfl⟩) er (LamX.lamS_by (sc := defScope s_law) (by decide +kernel))) pxs_nil)) (fun D2 => ?_) (by simp) sc_law.nd
  refine sd_catx 8 (pxs_cons (told (d := rfB) (rr := .er (He.ga K "BadFilm")) Ds LT hT rfl hr (fun A outer s2 H' E f c' hr' => LC.pr_callC Ds.spliced hr' LC.lamC_takes (pds_cons (pd_var 9) (pds_cons (pd_var 10) pds_nil)) ⟨d, goodF s, .inl bad, rfl, rfl⟩) er (LamX.lamS_by (sc := defScope s_law) (by decide +kernel)))
    (pxs_cons (told (d := rfB) (rr := .er (He.ga K "BadFilm")) Ds LT hT rfl hr (fun A outer s2 H' E f c' hr' => LC.pr_callC Ds.spliced hr' LC.lamC_takes (pds_cons (pd_var 10) (pds_cons (pd_var 9) pds_nil)) ⟨goodF s, d, .inr ⟨goodF_ok o, bad⟩, rfl, rfl⟩) er (LamX.lamS_by (sc := defScope s_law) (by decide +kernel))) pxs_nil)) (fun D3 => ?_) (by simp) sc_law.nd
  refine sd_set 11 (pd_call Ds.nop hr1 (pds_cons (pd_var 5) (pds_cons (pd_fdiv (wide_div (b := 20) (by decide) (by decide) (by decide) (by decide)) (pd_var 7) pd_int) pds_nil)) ⟨s, _, o, rfl, rfl⟩) ?_ sc_law.nd
  have badP := noPD_bad o (h / 1024)
  generalize noPD s (h / 1024) = e at badP
  refine sd_appx 8 (told (d := rfB) (rr := .er (He.ga K "BadFilm")) Ds LT hT rfl hr (fun A outer s2 H' E f c' hr' => LC.pr_callC Ds.filmed hr' LC.lamC_takes (pds_cons (pd_var 11) pds_nil) ⟨e, badP, rfl, rfl⟩) er (LamX.lamS_by (sc := defScope s_law) (by decide +kernel))) ?_ (by simp)
  have shl : Shp 2 (.list [rfB, rfB, rfB, rfB, rfB, rfB, rfB, rfB]) := Shp.lst fun x hx => by
    simp only [List.mem_cons, List.not_mem_nil, or_false, or_self] at hx
    rw [hx]
    exact shp_refused (by decide +kernel)
  refine sd_if (pt_neL (ds := [rfB, rfB, rfB, rfB, rfB, rfB, rfB, rfB]) (db := .list [rfB, rfB, rfB, rfB, rfB, rfB, rfB, rfB]) hr.units shl.ok shl.ok (pl_var 8 List.mem_cons_self) (PN.pd (pn_rep1 (d := rfB) (k := 8) (PN.plt (pn_lst (pds_cons (pd_tup (pds_cons pd_str (pds_cons pd_str pds_nil))) pds_nil))) pd_int (by decide) (by decide)))) (fun hk => ?_) (fun _ => sd_nil (sd_nil (hR _ _ _ _ _)))
  rw [shl.refl] at hk
  cases hk
def Inv1 (ns : List Int) (δ' : De) : Prop := ∃ y1 y2 y3 y4 y5 y6 y7 y8 y9 y10 y11, δ' = [some (.im (.list (ns.map .int))), y1, y2, y3, y4, y5, y6, y7, y8, y9, y10, y11]
set_option maxHeartbeats 16000000 in
theorem law_body {cdv : Value} {A : Around} {outer : List Env} {sh : Shared} {H : Hp} {E : XK} {T : List (Addr × Str)} {ns : List Int} (Ds : Defs P w K mg base CS) (LT : LamT (XL P w K mg base f cdv A outer sh H E) T) (hT : T ≠ [])
    (hr : Room 10 (A.deeper (envOfC "law" (defScope s_law) sh.heap.objs.size f cdv))) (hn : ns.length ≤ 63) :
    SD (cxOf (L2N.CX P w) P w K mg base NL "law" (defScope s_law) f cdv A outer sh H E) (WOf E) T (defBody s_law) (startD NL [.list (ns.map .int)]) ⟨[], []⟩ FinT := by
  have B := Ds.B
  have hr2 : Room 2 (A.deeper (envOfC "law" (defScope s_law) sh.heap.objs.size f cdv)) := hr.mono (by decide)
  have hr1 : Room 1 (A.deeper (envOfC "law" (defScope s_law) sh.heap.objs.size f cdv)) := hr.mono (by decide)
  refine sd_for 1 (items := rangeD 0 ((if (if ((ns.map PyData.int).length : Int) < 4 then ((ns.map PyData.int).length : Int) else 4) > 1 then (if ((ns.map PyData.int).length : Int) < 4 then ((ns.map PyData.int).length : Int) else 4) else 1) : Int).toNat)
    (fun i δ' ω' => (∃ os, ω' = ⟨[], os⟩) ∧ Inv1 ns δ')
    (wk_range1 B.range (pd_max rfl B.max pd_int (pd_min rfl B.min pd_int (pd_lenL B.len (PD.pl (pd_var 0))))) ?_) ⟨⟨_, rfl⟩, _, _, _, _, _, _, _, _, _, _, _, rfl⟩ ?_ ?_ (pg_name sc_law.nd rfl (Or.inl rfl)) (passes_of rfl) rfl
  · split <;> (try split) <;> omega
  · rintro k d δ' ω' hd ⟨⟨os, rfl⟩, y1, y2, y3, y4, y5, y6, y7, y8, y9, y10, y11, rfl⟩
    have hk4 : k < 5 ∧ d = .int (k : Int) := by
      have hlt := (List.getElem?_eq_some_iff.mp hd).1
      rw [rangeD_len] at hlt
      rw [rangeD_get hlt] at hd
      cases hd
      refine ⟨?_, by rw [Int.zero_add]⟩
      revert hlt
      split <;> (try split) <;> omega
    obtain ⟨hk4, rfl⟩ := hk4
    refine sd_set 2 (pd_call Ds.drawn hr1 (pds_cons (pd_call Ds.cell hr1 (pds_cons (pd_var 0) (pds_cons (pd_var 1) pds_nil)) ⟨ns, k, rfl, hn, by omega, rfl⟩) (pds_cons (pd_var 1) pds_nil)) ⟨_, _, rfl, rfl⟩) ?_ sc_law.nd
    generalize K93.drawn (cellAt ns k) (k : Int) = m
    refine sd_unp [3, 4] (pd_call Ds.size hr1 (pds_cons (pd_var 2) pds_nil) ⟨m, rfl, rfl⟩) (pg_tup rfl (pgs_cons (pg_name sc_law.nd rfl (Or.inl rfl)) (pgs_cons (pg_name sc_law.nd rfl (Or.inl rfl)) pgs_nil))) rfl rfl ?_
    obtain ⟨b1, b2, b3, b4⟩ := size_le m
    generalize hh : (sizeD m).1 = h at b1 b2
    generalize hw : (sizeD m).2 = wd at b3 b4
    obtain ⟨h, rfl⟩ : ∃ n : Nat, h = (n : Int) := ⟨h.toNat, by omega⟩
    obtain ⟨wd, rfl⟩ : ∃ n : Nat, wd = (n : Int) := ⟨wd.toNat, by omega⟩
    refine sd_set 5 (d := faceL (K93.drawn m 1) h wd) (pd_call Ds.face hr2 (pds_cons (pd_call Ds.drawn hr1 (pds_cons (pd_var 2) (pds_cons pd_int pds_nil)) ⟨_, _, rfl, rfl⟩) (pds_cons (pd_var 3) (pds_cons (pd_var 4) pds_nil))) ⟨_, h, wd, rfl, by omega, by omega, by omega, by omega, rfl⟩) ?_ sc_law.nd
    obtain ⟨s, o, th, tw, ef⟩ := Sc.of_fc (faceL_fc (h := h) (wd := wd) (K93.drawn m 1) (by omega) (by omega) (by omega) (by omega))
    rw [ef]
    subst th
    subst tw
    refine sd_set 10 (d := goodF s) (pd_tup (pds_cons (pd_var 5) (pds_cons pd_int (pds_cons (pd_tup (pds_cons (pd_tup (pds_cons pd_int (pds_cons (PN.pd (pn_lst (pds_cons (pd_tup (pds_cons pd_str (pds_cons (pd_sub (pd_var 3) pd_int) (pds_cons pd_int pds_nil)))) pds_nil))) pds_nil))) pds_nil)) pds_nil)))) ?_ sc_law.nd
    refine sd_ifxF (xt_cmp op_notN rd_notN0 (told (d := .none) (rr := .ok .none) Ds LT hT rfl hr (fun A outer s2 H' E f c' hr' => LC.pr_callC Ds.need (hr'.mono (by decide)) LC.lamC_takes (pds_cons (pd_var 10) pds_nil) ⟨goodF s, true, goodF_ok o, rfl, rfl⟩) rfl (LamX.lamS_by (sc := defScope s_law) (by decide +kernel))) (PD.px pd_non) (nomark _)) ?_
    refine sd_for 6 (items := rangeD 0 (6 : Int).toNat) (fun i δ' ω' => (∃ os, ω' = ⟨[], os⟩) ∧ ∃ y6 y7 y8 y9 y11, δ' = dl ns k m s y6 y7 y8 y9 y11) (wk_range1 B.range pd_int (by decide)) ⟨⟨_, rfl⟩, _, _, _, _, _, rfl⟩ ?_ ?_ (pg_name sc_law.nd rfl (Or.inl rfl)) (passes_of rfl) rfl
    · rintro j d δ' ω' hd ⟨⟨os, rfl⟩, y6, y7, y8, y9, y11, rfl⟩
      have ed : d = .int (j : Int) := by
        have hlt := (List.getElem?_eq_some_iff.mp hd).1
        rw [rangeD_len] at hlt
        rw [rangeD_get hlt] at hd
        cases hd
        rw [Int.zero_add]
      subst ed
      exact turnJ Ds LT hT hr o fun os y7 y8 y9 y11 => ⟨⟨_, rfl⟩, _, _, _, _, _, rfl⟩
    · rintro δ' ω' ⟨⟨os, rfl⟩, y6, y7, y8, y9, y11, rfl⟩
      exact sd_nil ⟨⟨_, rfl⟩, _, _, _, _, _, _, _, _, _, _, _, rfl⟩
  · rintro δ' ω' ⟨⟨os, rfl⟩, y1, y2, y3, y4, y5, y6, y7, y8, y9, y10, y11, rfl⟩
    exact sd_ret pd_bl rfl
end
end K93

namespace K93
open PySem PySem.Spec PyProof.Rows L2 FP
theorem facts {l : PySem.W.OpenLaw} {w : World} {K : PySem.W.Frag} {h : Heap} {mg : Str → Option Value} {f : Addr} (KX : K.In h) (G : h.Ns mainGlobals mg) (hfa : mg ("law" : Str) = some (.ref f)) (c : He.SaysX fa fn ts tf ex w h K) :
    LamX.LawAtS l w K (L2N.CX l.prog w) 11 63 "_law_script" mg f h := by
  have cd := c.t.d
  have gl : ∀ x, He.Fa.glo x ∈ fa → mg x = some (.ref (He.ga K x)) := fun x hx => He.glo_ok KX G (cd.facts hx)
  have fr : ∀ x, He.Fa.free x ∈ fa → mg x = none := fun x hx => He.free_ok KX G (cd.facts hx)
  have df : ∀ (x : Str) (st : Stmt), dOf x st ∈ fn → ∃ fd, Df K x st (He.ga K x) fd := fun x st hx => cd.defs hx
  obtain ⟨x0, cm⟩ := He.ba c.more
  obtain ⟨x1, cm⟩ := He.ba cm
  obtain ⟨x2, cm⟩ := He.ba cm
  obtain ⟨x3, cm⟩ := He.ba cm
  obtain ⟨x4, cm⟩ := He.ba cm
  obtain ⟨x5, cm⟩ := He.ba cm
  obtain ⟨x6, cm⟩ := He.ba cm
  obtain ⟨x7, cm⟩ := He.ba cm
  have x8 := cm
  have B : Bl mg := ⟨fr _ (fam (by decide +kernel)), fr _ (fam (by decide +kernel)), fr _ (fam (by decide +kernel)), fr _ (fam (by decide +kernel)), fr _ (fam (by decide +kernel)), fr _ (fam (by decide +kernel)), fr _ (fam (by decide +kernel)), fr _ (fam (by decide +kernel)), fr _ (fam (by decide +kernel)), fr _ (fam (by decide +kernel)), fr _ (fam (by decide +kernel))⟩
  have i_PERCENT : GlD K mg "PERCENT" (.int 37) := gld_int KX G (cd.facts (fam (by decide +kernel)))
  have i_MOST_INK : GlD K mg "MOST_INK" (.int 7) := gld_int KX G (cd.facts (fam (by decide +kernel)))
  have X_BadFace : ExcF K mg "BadFace" (He.ga K "BadFace") := exc_of KX G (cd.facts (fam (by decide +kernel))) (cd.facts (fam (by decide +kernel)))
  have i_MOST_ROWS : GlD K mg "MOST_ROWS" (.int 10) := gld_int KX G (cd.facts (fam (by decide +kernel)))
  have i_MOST_COLUMNS : GlD K mg "MOST_COLUMNS" (.int 20) := gld_int KX G (cd.facts (fam (by decide +kernel)))
  have i_BLANK : GlD K mg "BLANK" blankC := gldB_ok KX G x0
  have i_MOST_ROLL : GlD K mg "MOST_ROLL" (.int 10) := gld_int KX G (cd.facts (fam (by decide +kernel)))
  have X_BadChange : ExcF K mg "BadChange" (He.ga K "BadChange") := exc_of KX G (cd.facts (fam (by decide +kernel))) (cd.facts (fam (by decide +kernel)))
  have i_ROLL_COST : GlD K mg "ROLL_COST" (.int 4) := gld_int KX G (cd.facts (fam (by decide +kernel)))
  have i_CURSOR_COST : GlD K mg "CURSOR_COST" (.int 3) := gld_int KX G (cd.facts (fam (by decide +kernel)))
  have i_PUT_COST : GlD K mg "PUT_COST" (.int 4) := gld_int KX G (cd.facts (fam (by decide +kernel)))
  have X_BadFilm : ExcF K mg "BadFilm" (He.ga K "BadFilm") := exc_of KX G (cd.facts (fam (by decide +kernel))) (cd.facts (fam (by decide +kernel)))
  have i_MOST_TICK : GlD K mg "MOST_TICK" (.int 9999) := gld_int KX G (cd.facts (fam (by decide +kernel)))
  refine law_at KX G hfa c (params := defArgs s_law) (body := defBody s_law) (scope := defScope s_law) (fnm 54 rfl) (fam (by decide +kernel)) sc_law (fun _ _ _ _ _ _ us hl => match us, hl with | [_], _ => rfl) (fun base hB hN T cdv A outer s H E ns hT L hr h1 h2 => ?_)
  obtain ⟨_, F_is_whole⟩ := df "is_whole" s_is_whole (fnm 0 rfl)
  have G_whole := ok_whole (P := l.prog) (w := w) (mg := mg) (base := base) F_is_whole (gl _ (fam (by decide +kernel))) B
  obtain ⟨_, F_is_within⟩ := df "is_within" s_is_within (fnm 1 rfl)
  have G_within := ok_within (P := l.prog) (w := w) (mg := mg) (base := base) F_is_within (gl _ (fam (by decide +kernel))) G_whole
  obtain ⟨_, F_is_tuple_of⟩ := df "is_tuple_of" s_is_tuple_of (fnm 2 rfl)
  have G_tupleof := ok_tupleof (P := l.prog) (w := w) (mg := mg) (base := base) F_is_tuple_of (gl _ (fam (by decide +kernel))) B
  obtain ⟨_, F_are_signs⟩ := df "are_signs" s_are_signs (fnm 3 rfl)
  have G_signs := ok_signs (P := l.prog) (w := w) (mg := mg) (base := base) F_are_signs (gl _ (fam (by decide +kernel))) B i_PERCENT
  obtain ⟨_, F_is_sign⟩ := df "is_sign" s_is_sign (fnm 4 rfl)
  have G_sign := ok_sign (P := l.prog) (w := w) (mg := mg) (base := base) F_is_sign (gl _ (fam (by decide +kernel))) B G_signs
  obtain ⟨_, F_is_cell⟩ := df "is_cell" s_is_cell (fnm 7 rfl)
  have G_cell := ok_cell (P := l.prog) (w := w) (mg := mg) (base := base) F_is_cell (gl _ (fam (by decide +kernel))) G_tupleof G_sign G_within i_MOST_INK
  obtain ⟨_, F_need_size⟩ := df "need_size" s_need_size (fnm 8 rfl)
  have G_size := ok_size (P := l.prog) (w := w) (mg := mg) (base := base) F_need_size (gl _ (fam (by decide +kernel))) X_BadFace G_within i_MOST_ROWS i_MOST_COLUMNS
  obtain ⟨_, F_need_rows⟩ := df "need_rows" s_need_rows (fnm 6 rfl)
  have G_rows := ok_rows (P := l.prog) (w := w) (mg := mg) (base := base) F_need_rows (gl _ (fam (by decide +kernel))) B X_BadFace G_size G_cell
  obtain ⟨_, F_need_face⟩ := df "need_face" s_need_face (fnm 5 rfl)
  have G_face := ok_face (P := l.prog) (w := w) (mg := mg) (base := base) F_need_face (gl _ (fam (by decide +kernel))) B X_BadFace G_tupleof G_rows G_within
  obtain ⟨_, F_blank_cells⟩ := df "blank_cells" s_blank_cells (fnm 12 rfl)
  have G_bcells := ok_bcells (P := l.prog) (w := w) (mg := mg) (base := base) F_blank_cells (gl _ (fam (by decide +kernel))) i_BLANK
  obtain ⟨_, F__law_cell⟩ := df "_law_cell" s__law_cell (fnm 45 rfl)
  have G_lcell := ok_lcell (P := l.prog) (w := w) (mg := mg) (base := base) F__law_cell (gl _ (fam (by decide +kernel))) B
  obtain ⟨_, F__law_drawn⟩ := df "_law_drawn" s__law_drawn (fnm 46 rfl)
  have G_drawn := ok_drawn (P := l.prog) (w := w) (mg := mg) (base := base) F__law_drawn (gl _ (fam (by decide +kernel)))
  obtain ⟨_, F__law_cell_of⟩ := df "_law_cell_of" s__law_cell_of (fnm 49 rfl)
  have G_cellof := ok_cellof (P := l.prog) (w := w) (mg := mg) (base := base) F__law_cell_of (gl _ (fam (by decide +kernel)))
  obtain ⟨_, F__law_size⟩ := df "_law_size" s__law_size (fnm 51 rfl)
  have G_lsize := ok_lsize (P := l.prog) (w := w) (mg := mg) (base := base) F__law_size (gl _ (fam (by decide +kernel)))
  obtain ⟨_, F__law_face⟩ := df "_law_face" s__law_face (fnm 50 rfl)
  have G_lface := ok_lface (P := l.prog) (w := w) (mg := mg) (base := base) F__law_face (gl _ (fam (by decide +kernel))) B G_drawn G_cellof
  obtain ⟨_, F_pushed⟩ := df "pushed" s_pushed (fnm 13 rfl)
  have G_push := ok_push (P := l.prog) (w := w) (mg := mg) (base := base) F_pushed (gl _ (fam (by decide +kernel))) B
  obtain ⟨_, F_pulled⟩ := df "pulled" s_pulled (fnm 14 rfl)
  have G_pull := ok_pull (P := l.prog) (w := w) (mg := mg) (base := base) F_pulled (gl _ (fam (by decide +kernel))) B
  obtain ⟨_, F_rolled⟩ := df "rolled" s_rolled (fnm 15 rfl)
  have G_roll := ok_roll (P := l.prog) (w := w) (mg := mg) (base := base) F_rolled (gl _ (fam (by decide +kernel))) B G_push G_pull G_bcells
  obtain ⟨_, F_is_place⟩ := df "is_place" s_is_place (fnm 18 rfl)
  have G_isplace := ok_isplace (P := l.prog) (w := w) (mg := mg) (base := base) F_is_place (gl _ (fam (by decide +kernel))) G_whole
  obtain ⟨_, F_is_part⟩ := df "is_part" s_is_part (fnm 17 rfl)
  have G_ispart := ok_ispart (P := l.prog) (w := w) (mg := mg) (base := base) F_is_part (gl _ (fam (by decide +kernel))) B i_MOST_ROLL i_MOST_INK G_within G_isplace G_signs
  obtain ⟨_, F_need_change⟩ := df "need_change" s_need_change (fnm 16 rfl)
  have G_nc := ok_nc (P := l.prog) (w := w) (mg := mg) (base := base) F_need_change (gl _ (fam (by decide +kernel))) B (fr _ (fam (by decide +kernel))) X_BadChange G_ispart
  obtain ⟨_, F_need_places⟩ := df "need_places" s_need_places (fnm 21 rfl)
  have G_np := ok_np (P := l.prog) (w := w) (mg := mg) (base := base) F_need_places (gl _ (fam (by decide +kernel))) B X_BadChange
  obtain ⟨_, F_cells_of⟩ := df "cells_of" s_cells_of (fnm 22 rfl)
  have G_cs := ok_cs (P := l.prog) (w := w) (mg := mg) (base := base) F_cells_of (gl _ (fam (by decide +kernel))) B
  obtain ⟨_, F_with_put⟩ := df "with_put" s_with_put (fnm 23 rfl)
  have G_wp := ok_wp (P := l.prog) (w := w) (mg := mg) (base := base) F_with_put (gl _ (fam (by decide +kernel))) B
  obtain ⟨_, F_part_done⟩ := df "part_done" s_part_done (fnm 20 rfl)
  have G_pd := ok_pd (P := l.prog) (w := w) (mg := mg) (base := base) F_part_done (gl _ (fam (by decide +kernel))) B G_roll G_np G_cs G_wp
  obtain ⟨_, F_parts_done⟩ := df "parts_done" s_parts_done (fnm 19 rfl)
  have G_pds := ok_pds (P := l.prog) (w := w) (mg := mg) (base := base) F_parts_done (gl _ (fam (by decide +kernel))) G_pd
  obtain ⟨_, F_part_cost⟩ := df "part_cost" s_part_cost (fnm 25 rfl)
  have G_pc := ok_pc (P := l.prog) (w := w) (mg := mg) (base := base) F_part_cost (gl _ (fam (by decide +kernel))) B i_ROLL_COST i_CURSOR_COST i_PUT_COST
  obtain ⟨_, F_cost_of_parts⟩ := df "cost_of_parts" s_cost_of_parts (fnm 24 rfl)
  have G_cp := ok_cp (P := l.prog) (w := w) (mg := mg) (base := base) F_cost_of_parts (gl _ (fam (by decide +kernel))) (fr _ (fam (by decide +kernel))) G_pc
  obtain ⟨_, F_size_of⟩ := df "size_of" s_size_of (fnm 10 rfl)
  have G_so := ok_so (P := l.prog) (w := w) (mg := mg) (base := base) F_size_of (gl _ (fam (by decide +kernel))) B
  obtain ⟨_, F_need_film_face⟩ := df "need_film_face" s_need_film_face (fnm 32 rfl)
  have G_nff := ok_nff (P := l.prog) (w := w) (mg := mg) (base := base) F_need_film_face (gl _ (fam (by decide +kernel))) X_BadFilm (gl _ (fam (by decide +kernel))) (of_decide_eq_true x8) G_face
  obtain ⟨_, F_need_length⟩ := df "need_length" s_need_length (fnm 33 rfl)
  have G_nl := ok_nl (P := l.prog) (w := w) (mg := mg) (base := base) F_need_length (gl _ (fam (by decide +kernel))) X_BadFilm i_MOST_TICK G_within
  obtain ⟨_, F_need_pairs⟩ := df "need_pairs" s_need_pairs (fnm 34 rfl)
  have G_nps := ok_nps (P := l.prog) (w := w) (mg := mg) (base := base) F_need_pairs (gl _ (fam (by decide +kernel))) X_BadFilm G_tupleof G_within
  obtain ⟨_, F_next_face⟩ := df "next_face" s_next_face (fnm 35 rfl)
  have G_nx := ok_nx (P := l.prog) (w := w) (mg := mg) (base := base) F_next_face (gl _ (fam (by decide +kernel))) X_BadFilm (gl _ (fam (by decide +kernel))) (of_decide_eq_true x7) G_nc G_pds
  obtain ⟨_, F_need_film⟩ := df "need_film" s_need_film (fnm 31 rfl)
  have G_nf := ok_nf (P := l.prog) (w := w) (mg := mg) (base := base) F_need_film (gl _ (fam (by decide +kernel))) B X_BadFilm G_tupleof G_nff G_nl G_nps G_nx
  obtain ⟨_, F__law_no_film⟩ := df "_law_no_film" s__law_no_film (fnm 52 rfl)
  have G_lnf := ok_lnf (P := l.prog) (w := w) (mg := mg) (base := base) F__law_no_film (gl _ (fam (by decide +kernel))) B
  obtain ⟨_, F__law_no_pairs⟩ := df "_law_no_pairs" s__law_no_pairs (fnm 53 rfl)
  have G_lnp := ok_lnp (P := l.prog) (w := w) (mg := mg) (base := base) F__law_no_pairs (gl _ (fam (by decide +kernel))) B
  obtain ⟨_, F_face_at⟩ := df "face_at" s_face_at (fnm 36 rfl)
  have G_at := ok_at (P := l.prog) (w := w) (mg := mg) (base := base) F_face_at (gl _ (fam (by decide +kernel))) G_nf
  obtain ⟨_, F_cost_of⟩ := df "cost_of" s_cost_of (fnm 38 rfl)
  have G_cof := ok_cof (P := l.prog) (w := w) (mg := mg) (base := base) F_cost_of (gl _ (fam (by decide +kernel))) G_nf
  obtain ⟨_, F_cut⟩ := df "cut" s_cut (fnm 41 rfl)
  have G_cut := ok_cut (P := l.prog) (w := w) (mg := mg) (base := base) F_cut (gl _ (fam (by decide +kernel))) G_nf
  obtain ⟨_, F_slowed⟩ := df "slowed" s_slowed (fnm 43 rfl)
  have G_sl := ok_sl (P := l.prog) (w := w) (mg := mg) (base := base) F_slowed (gl _ (fam (by decide +kernel))) G_nf
  obtain ⟨_, F_spliced⟩ := df "spliced" s_spliced (fnm 42 rfl)
  have G_spl := ok_spl (P := l.prog) (w := w) (mg := mg) (base := base) F_spliced (gl _ (fam (by decide +kernel))) G_nf
  obtain ⟨_, F_need_faces_by_ticks⟩ := df "need_faces_by_ticks" s_need_faces_by_ticks (fnm 40 rfl)
  have G_nft := ok_nft (P := l.prog) (w := w) (mg := mg) (base := base) F_need_faces_by_ticks (gl _ (fam (by decide +kernel))) B (fr _ (fam (by decide +kernel))) X_BadFilm i_MOST_TICK G_nps G_nff G_so
  obtain ⟨_, F_filmed⟩ := df "filmed" s_filmed (fnm 39 rfl)
  have G_fd := ok_fd (P := l.prog) (w := w) (mg := mg) (base := base) F_filmed (gl _ (fam (by decide +kernel))) G_nft
  obtain ⟨ec_BadFilm, ka_BadFilm, kv_BadFilm⟩ := wordB_ok x5
  obtain ⟨_, F__law_word⟩ := df "_law_word" s__law_word (fnm 47 rfl)
  obtain ⟨_, F__law_told⟩ := df "_law_told" s__law_told (fnm 48 rfl)
  have WD := fun (k : Nat) (hk : 1 ≤ k) => word_mono (ok_word (P := l.prog) (w := w) (base := base) F__law_word (gl _ (fam (by decide +kernel))) B.isi B.int (fr _ (fam (by decide +kernel))) (fr _ (fam (by decide +kernel))) (fun c hc => by
    simp only [List.mem_cons, List.not_mem_nil, or_false] at hc
    rcases hc with rfl | rfl | rfl | rfl | rfl | rfl | rfl | rfl | rfl <;> exact gl _ (fam (by decide +kernel))) ⟨ec_BadFilm, ka_BadFilm, kv_BadFilm⟩) hk
  exact law_body (CS := He.ga K "ScreenError") ⟨B, (G_lcell.mono (by decide)), (G_drawn.mono (by decide)), (G_lsize.mono (by decide)), (G_lface.mono (by decide)), (G_lnf.mono (by decide)), (G_lnp.mono (by decide)), (G_nf.mono (by decide)), (G_at.mono (by decide)), (G_cof.mono (by decide)), (G_cut.mono (by decide)), (G_sl.mono (by decide)), (G_spl.mono (by decide)), (G_fd.mono (by decide)), ⟨_, _, F__law_told, gl _ (fam (by decide +kernel))⟩, (WD _ (by decide)), (of_decide_eq_true x6), (gl _ (fam (by decide +kernel)))⟩ L hT hr h1
end K93
open PySem PySem.W PySem.Calls PyProof.Rows
set_option maxRecDepth 100000 in
set_option maxHeartbeats 0 in
theorem PySem.Challenge.cw_farpanes_k93_films_refused_holds : PySem.Challenge.rw_farpanes_k93_films_refused.Holds := by
  w_on; o_law
  refine HandSHeadRun.head_any (r := OpenLaw.row PySem.Challenge.rw_farpanes_k93_films_refused) (q := view (OpenLaw.row PySem.Challenge.rw_farpanes_k93_films_refused).prog [82]) (H := K93.hk) (ob := K93.ob) (M := 8000) (loose := K93.loose) (d := HandSHeadRun.topDef (OpenLaw.row PySem.Challenge.rw_farpanes_k93_films_refused).prog 82) (kwd := []) K93.ob_eq
    (by kernel_rfl) (fun s => by kernel_rfl) K93.run (by kernel_rfl) (by kernel_rfl) (by kernel_rfl) (by rfl) (by first | assumption | decide +kernel) (by decide +kernel) ⟨rfl, rfl, rfl, rfl, rfl, by decide +kernel⟩ ?hw ?hc
  case hw => w_witness2
  case hc =>
    refine LamX.walk_ofTsE (l := PySem.Challenge.rw_farpanes_k93_films_refused) (n := 63) (k := 11) (x := "_law_script") (CX := fun w => L2N.CX (PySem.Challenge.rw_farpanes_k93_films_refused).prog w) rfl (by decide) (by kernel_rfl) ⟨rfl, by decide, by decide⟩ ?F (fun w H s e s' z => FP.cx_none z)
    intro w mg fa h Y G hmg0
    obtain ⟨K, KX, c⟩ := Y
    have hmg : mg ("law" : PySem.Str) = some (.ref fa) := by
      have e : (HandSHeadRun.topDef (OpenLaw.row PySem.Challenge.rw_farpanes_k93_films_refused).prog 82).name = ("law" : PySem.Str) := by kernel_rfl
      rw [← e]
      exact hmg0
    exact ⟨K, KX, K93.facts KX G hmg c⟩

