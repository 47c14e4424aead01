import PyProof.Rows.All
import Wide.All
import OpenK.AllK
import Wide.FinOn
import HandS.ForMost
import HandS.ForExc
import HandS.Lambda
import HandS.EndTab
import HandS.HeadWalk
import HandS.HeadHook4
import HandS.Head2
import HandS.IsInst
import HandS.TupMul
import HandS.TupAny
import HandS.Wide
import HandS.ExcCtx
import HandS.HotCalls
import HandS.ExcIs
import PyProof.SumAny
import PyProof.RulesMatchSeq
import PyProof.Rows.MatchSeqLen
import HandS.More
import HandS.Zip
import PyProof.Rows.SeqMore
import HandS.Flow
import HandS.StrMore
import HandS.Text
import HandS.Iter
import PyProof.Rows.ChunkEnd
import HandS.Dict
import HandS.Style
import HandS.Small
import PyProof.Draws
import KE.GoesMore
import HandS.TupLe
import HandS.SetFor
import KE.KMinKey
import HandS.SortKw
import KE.KSortKeySt
import HandS.Conv
import KE.GoesZip
import KE.GoesEnum
import KE.KItemsList
import HandS.Deep
import HandS.DictComp
import HandS.WordsDict
import HandS.SetKeys
import KE.DataMinMax
import KE.IntTextLaws
import HandS.FStr
import HandS.Star
import HandS.NoneIn
import PyProof.StrLawsFrom
import PySem.Challenge.RW_farpanes_k51_whole_papers_in_parts
set_option Elab.async false
set_option linter.all false
set_option maxRecDepth 100000
set_option maxHeartbeats 4000000
set_option autoImplicit false
namespace FP
open PySem PySem.Spec PyProof.Rows L2

/-! ### heaps, data -/
def hid (ps : List Addr) (H : Hp) : Hp := fun b => if b ∈ ps then none else H b
theorem hid_of {ps : List Addr} {H : Hp} {b : Addr} {o : HO} (n : b ∉ ps) (h : H b = some o) : hid ps H b = some o := by
  unfold hid
  rw [if_neg n]
  exact h
theorem hid_out {ps : List Addr} {H : Hp} {b : Addr} {o : HO} (h : hid ps H b = some o) : b ∉ ps ∧ H b = some o := by
  unfold hid at h
  by_cases c : b ∈ ps
  · rw [if_pos c] at h
    cases h
  · rw [if_neg c] at h
    exact ⟨c, h⟩
theorem hid_sub {ps : List Addr} {H : Hp} : Same (hid ps H) H := fun _ _ h => (hid_out h).2
theorem hid_same {ps : List Addr} {H H' : Hp} (e : Same H H') : Same (hid ps H) (hid ps H') := fun _ _ h => hid_of (hid_out h).1 (e _ _ (hid_out h).2)
theorem hid_nil {H : Hp} : hid [] H = H := by
  funext b
  unfold hid
  rw [if_neg (by simp)]
theorem same_new {H : Hp} {p : Addr} {o : HO} (h : H p = none) : Same H (upd H p o) := fun b x e => by
  rw [upd_ne (ne_of_none e h)]
  exact e
theorem same_sqt {K : PySem.W.Frag} {H H' : Hp} {a : Addr} {xs : List V} (e : Same H H') (h : SqT K H a xs) : SqT K H' a xs := by
  rcases h with (h | ⟨o, h⟩) | h
  · exact .inl (.inl (e _ _ h))
  · exact .inl (.inr ⟨o, e _ _ h⟩)
  · exact .inr h
mutual
theorem dp_mono {K : PySem.W.Frag} {H H' : Hp} (e : Same H H') : ∀ (d : PyData) (v : V), Dp K H v d → Dp K H' v d
  | .none, _, h => by
    cases h
    exact .non
  | .bool b, _, h => by
    cases h
    exact .bl b
  | .int i, _, h => by
    cases h
    exact .int i
  | .str x, _, h => by
    cases h
    exact .str x
  | .list ds, _, h => by
    cases h with
    | lst hs ha => exact .lst (e.seq hs) (dpa_mono e ds _ ha)
  | .tuple ds, _, h => by
    cases h with
    | tup hs ha => exact .tup (same_sqt e hs) (dpa_mono e ds _ ha)
  | .dict kvs, _, h => by cases h
theorem dpa_mono {K : PySem.W.Frag} {H H' : Hp} (e : Same H H') : ∀ (ds : List PyData) (vs : List V), DpAll K H vs ds → DpAll K H' vs ds
  | [], _, h => by
    cases h
    exact .nil
  | d :: ds, _, h => by
    cases h with
    | cons a b => exact .cons (dp_mono e d _ a) (dpa_mono e ds _ b)
end
theorem dpm {K : PySem.W.Frag} {H H' : Hp} (e : Same H H') {d : PyData} {v : V} (h : Dp K H v d) : Dp K H' v d := dp_mono e d v h
theorem dpam {K : PySem.W.Frag} {H H' : Hp} (e : Same H H') {ds : List PyData} {vs : List V} (h : DpAll K H vs ds) : DpAll K H' vs ds := dpa_mono e ds vs h
theorem dpa_len {K : PySem.W.Frag} {H : Hp} : ∀ {ds : List PyData} {vs : List V}, DpAll K H vs ds → vs.length = ds.length
  | [], _, .nil => rfl
  | _ :: _, _, .cons _ t => by rw [List.length_cons, List.length_cons, dpa_len t]
theorem dpa_get {K : PySem.W.Frag} {H : Hp} : ∀ {ds : List PyData} {vs : List V} {i : Nat} {d : PyData}, DpAll K H vs ds → ds[i]? = some d → ∃ v, vs[i]? = some v ∧ Dp K H v d
  | [], _, _, _, .nil, h => by simp at h
  | _ :: _, _ :: _, 0, _, .cons a _, h => by
    simp at h
    subst h
    exact ⟨_, rfl, a⟩
  | _ :: ds, _ :: vs, i + 1, d, .cons _ t, h => by
    obtain ⟨v, h1, h2⟩ := dpa_get (i := i) (d := d) t (by simpa using h)
    exact ⟨v, by simpa using h1, h2⟩
theorem dpa_get' {K : PySem.W.Frag} {H : Hp} : ∀ {ds : List PyData} {vs : List V} {i : Nat} {v : V}, DpAll K H vs ds → vs[i]? = some v → ∃ d, ds[i]? = some d ∧ Dp K H v d
  | [], _, _, _, .nil, h => by simp at h
  | _ :: _, _ :: _, 0, _, .cons a _, h => by
    simp at h
    subst h
    exact ⟨_, rfl, a⟩
  | _ :: ds, _ :: vs, i + 1, v, .cons _ t, h => by
    obtain ⟨d, h1, h2⟩ := dpa_get' (i := i) (v := v) t (by simpa using h)
    exact ⟨d, by simpa using h1, h2⟩
theorem dpa_app {K : PySem.W.Frag} {H : Hp} : ∀ {ds es : List PyData} {vs us : List V}, DpAll K H vs ds → DpAll K H us es → DpAll K H (vs ++ us) (ds ++ es)
  | _, _, _, _, .nil, h => h
  | _, _, _, _, .cons a t, h => .cons a (dpa_app t h)
theorem dpa_take {K : PySem.W.Frag} {H : Hp} : ∀ (n : Nat) {ds : List PyData} {vs : List V}, DpAll K H vs ds → DpAll K H (vs.take n) (ds.take n)
  | 0, _, _, _ => .nil
  | _ + 1, _, _, .nil => .nil
  | n + 1, _, _, .cons a t => .cons a (dpa_take n t)
theorem dpa_drop {K : PySem.W.Frag} {H : Hp} : ∀ (n : Nat) {ds : List PyData} {vs : List V}, DpAll K H vs ds → DpAll K H (vs.drop n) (ds.drop n)
  | 0, _, _, h => h
  | _ + 1, _, _, .nil => .nil
  | n + 1, _, _, .cons _ t => dpa_drop n t
theorem dpa_rep {K : PySem.W.Frag} {H : Hp} {ds : List PyData} {vs : List V} (h : DpAll K H vs ds) : ∀ n : Nat, DpAll K H (List.replicate n vs).flatten (List.replicate n ds).flatten
  | 0 => .nil
  | n + 1 => by
    rw [List.replicate_succ, List.replicate_succ, List.flatten_cons, List.flatten_cons]
    exact dpa_app h (dpa_rep h n)

theorem hid_more {ps qs : List Addr} {H : Hp} (h : ∀ b, b ∈ ps → b ∈ qs) : Same (hid qs H) (hid ps H) := fun b o e => by
  obtain ⟨n, e2⟩ := hid_out e
  exact hid_of (fun z => n (h b z)) e2
theorem hid_cons {p : Addr} {ps : List Addr} {H : Hp} : Same (hid (p :: ps) H) (hid ps H) := hid_more fun _ h => List.mem_cons_of_mem _ h
theorem hid_new {p : Addr} {ps : List Addr} {G H : Hp} (hp : G p = none) (e : Same G H) : Same (hid ps G) (hid (p :: ps) H) := fun b o h => by
  obtain ⟨n, e2⟩ := hid_out h
  refine hid_of (fun z => ?_) (e b o e2)
  rcases List.mem_cons.mp z with q | q
  · rw [q, hp] at e2
    cases e2
  · exact n q
/-! ### slots and objects of one's own -/
inductive Sd where
  | im (d : PyData)
  | ad (a : Addr)
inductive Od where
  | lst (xs : List Sd)
  | ins (C : Addr) (fs : List (Str × Sd))
  | dct (kvs : List (Key × Sd))
  | tup (xs : List Sd)
abbrev De := List (Option Sd)
/-- ps: what the caller keeps for himself; os: objects of one's own -/
structure Om where
  ps : List Addr
  os : List (Addr × Od)
def ads (ω : Om) : List Addr := ω.ps ++ ω.os.map (·.1)
def SdV (K : PySem.W.Frag) (H : Hp) : Sd → V → Prop
  | .im d, v => Dp K H v d
  | .ad a, v => v = .ref a
theorem sdv_mono {K : PySem.W.Frag} {H H' : Hp} (e : Same H H') : ∀ {r : Sd} {v : V}, SdV K H r v → SdV K H' r v
  | .im _, _, h => dpm e h
  | .ad _, _, h => h
theorem dpa_im {K : PySem.W.Frag} {H : Hp} : ∀ {xs : List PyData} {vs : List V}, Paired (SdV K H) (xs.map .im) vs → DpAll K H vs xs
  | [], _, h => by
    cases h
    exact .nil
  | x :: xs, _, h => by
    cases h with
    | cons a b => exact .cons a (dpa_im b)
theorem im_dpa {K : PySem.W.Frag} {H : Hp} : ∀ {xs : List PyData} {vs : List V}, DpAll K H vs xs → Paired (SdV K H) (xs.map .im) vs
  | _, _, .nil => .nil
  | _, _, .cons a b => .cons a (im_dpa b)
def OdV (K : PySem.W.Frag) (Hh H : Hp) (a : Addr) : Od → Prop
  | .lst xs => ∃ vs, H a = some (.lst vs) ∧ Paired (SdV K Hh) xs vs
  | .ins C fs => ∃ dx vs, H a = some (.ins C dx vs) ∧ Paired (fun (p : Str × Sd) (q : Str × V) => p.1 = q.1 ∧ SdV K Hh p.2 q.2) fs vs
  | .dct kvs => ∃ vs, H a = some (.dK vs) ∧ Paired (fun (p : Key × Sd) (q : Key × V) => p.1 = q.1 ∧ SdV K Hh p.2 q.2) kvs vs
  | .tup xs => ∃ vs, H a = some (.tup vs) ∧ Paired (SdV K Hh) xs vs
theorem odv_keep {K : PySem.W.Frag} {G G' H H' : Hp} {a : Addr} (g : ∀ {r : Sd} {v : V}, SdV K G r v → SdV K G' r v) (e : ∀ u, (∀ ps, u ≠ .tbl ps) → H a = some u → H' a = some u) : ∀ {o : Od}, OdV K G H a o → OdV K G' H' a o
  | .lst _, ⟨vs, h, p⟩ => ⟨vs, e _ (fun _ z => by cases z) h, L2.Paired.mapP p fun _ _ q => g q⟩
  | .ins _ _, ⟨dx, vs, h, p⟩ => ⟨dx, vs, e _ (fun _ z => by cases z) h, L2.Paired.mapP p fun _ _ q => ⟨q.1, g q.2⟩⟩
  | .dct _, ⟨vs, h, p⟩ => ⟨vs, e _ (fun _ z => by cases z) h, L2.Paired.mapP p fun _ _ q => ⟨q.1, g q.2⟩⟩
  | .tup _, ⟨vs, h, p⟩ => ⟨vs, e _ (fun _ z => by cases z) h, L2.Paired.mapP p fun _ _ q => g q⟩
theorem odv_mono {K : PySem.W.Frag} {G G' H H' : Hp} {a : Addr} (g : Same G G') (e : Same H H') {o : Od} (h : OdV K G H a o) : OdV K G' H' a o := odv_keep (fun q => sdv_mono g q) (fun u _ q => e a u q) h
theorem odv_at {K : PySem.W.Frag} {G H : Hp} {a : Addr} : ∀ {o : Od}, OdV K G H a o → ∃ u, H a = some u ∧ (∀ ps, u ≠ .tbl ps) ∧ ∀ c q, u ≠ LamX.CodeO c q
  | .lst _, ⟨_, h, _⟩ => ⟨_, h, fun _ z => (by cases z), fun _ _ z => (by unfold LamX.CodeO at z; cases z)⟩
  | .ins _ _, ⟨_, _, h, _⟩ => ⟨_, h, fun _ z => (by cases z), fun _ _ z => (by unfold LamX.CodeO at z; cases z)⟩
  | .dct _, ⟨_, h, _⟩ => ⟨_, h, fun _ z => (by cases z), fun _ _ z => (by unfold LamX.CodeO at z; cases z)⟩
  | .tup _, ⟨_, h, _⟩ => ⟨_, h, fun _ z => (by cases z), fun _ _ z => (by unfold LamX.CodeO at z; cases z)⟩
theorem odv_some {K : PySem.W.Frag} {G H : Hp} {a : Addr} {o : Od} (h : OdV K G H a o) : H a ≠ none := by
  obtain ⟨u, e, _⟩ := odv_at h
  rw [e]
  simp
/-- the objects alone -/
structure Ro (K : PySem.W.Frag) (H : Hp) (ω : Om) : Prop where
  ob : ∀ a o, (a, o) ∈ ω.os → OdV K (hid (ads ω) H) H a o
  nd : (ω.os.map (·.1)).Nodup
  th : ∀ a ∈ ω.ps, H a ≠ none
structure Rl (K : PySem.W.Frag) (H : Hp) (σ : L2.St) (δ : De) (ω : Om) : Prop where
  len : σ.length = δ.length
  sl : ∀ (i : Nat) (r : Sd), δ[i]? = some (some r) → ∃ v, σ[i]? = some (some v) ∧ SdV K (hid (ads ω) H) r v
  ro : Ro K H ω
section
variable {K : PySem.W.Frag} {H H' : Hp} {σ : L2.St} {δ : De} {ω : Om}
theorem there_mono {ps : List Addr} (t : ∀ a ∈ ps, H a ≠ none) (e : Same H H') : ∀ a ∈ ps, H' a ≠ none := fun a h z => by
  have q := t a h
  cases g : H a with
  | none => exact q g
  | some o =>
    rw [e a o g] at z
    cases z
theorem Ro.mono (r : Ro K H ω) (e : Same H H') : Ro K H' ω := ⟨fun a o h => odv_mono (hid_same e) e (r.ob a o h), r.nd, there_mono r.th e⟩
theorem Rl.mono (r : Rl K H σ δ ω) (e : Same H H') : Rl K H' σ δ ω := ⟨r.len, fun i x h => by
  obtain ⟨v, h1, h2⟩ := r.sl i x h
  exact ⟨v, h1, sdv_mono (hid_same e) h2⟩, r.ro.mono e⟩
theorem Ro.there (r : Ro K H ω) : ∀ a ∈ ads ω, H a ≠ none := fun a h => by
  rcases List.mem_append.mp h with h | h
  · exact r.th a h
  · obtain ⟨p, hp, e⟩ := List.mem_map.mp h
    subst e
    exact odv_some (r.ob p.1 p.2 hp)
theorem Ro.nil {ps : List Addr} (h : ∀ a ∈ ps, H a ≠ none) : Ro K H ⟨ps, []⟩ := ⟨fun _ _ h => (List.not_mem_nil h).elim, List.nodup_nil, h⟩
theorem ads_nil {ps : List Addr} : ads ⟨ps, []⟩ = ps := by
  show ps ++ [] = ps
  rw [List.append_nil]
theorem new_out {ps : List Addr} (t : ∀ a ∈ ps, H a ≠ none) {p : Addr} (h : H p = none) : p ∉ ps := fun z => t p z h
theorem Rl.set (r : Rl K H σ δ ω) {i : Nat} {x : Sd} {v : V} (h : SdV K (hid (ads ω) H) x v) : Rl K H (σ.set i (some v)) (δ.set i (some x)) ω := by
  refine ⟨by rw [List.length_set, List.length_set, r.len], fun j y hj => ?_, r.ro⟩
  by_cases hij : i = j
  · subst hij
    have hl : i < δ.length := by
      have := (List.getElem?_eq_some_iff.mp hj).1
      rwa [List.length_set] at this
    rw [List.getElem?_set_self hl] at hj
    cases hj
    exact ⟨v, List.getElem?_set_self (by rw [r.len]; exact hl), h⟩
  · rw [List.getElem?_set_ne hij] at hj
    obtain ⟨u, h1, h2⟩ := r.sl j y hj
    exact ⟨u, by rw [List.getElem?_set_ne hij]; exact h1, h2⟩
/-- a slot is forgotten -/
theorem Rl.forget (r : Rl K H σ δ ω) {i : Nat} {x : Option V} : Rl K H (σ.set i x) (δ.set i none) ω := by
  refine ⟨by rw [List.length_set, List.length_set, r.len], fun j y hj => ?_, r.ro⟩
  by_cases hij : i = j
  · subst hij
    have hl : i < δ.length := by
      have := (List.getElem?_eq_some_iff.mp hj).1
      rwa [List.length_set] at this
    rw [List.getElem?_set_self hl] at hj
    cases hj
  · rw [List.getElem?_set_ne hij] at hj
    obtain ⟨u, h1, h2⟩ := r.sl j y hj
    exact ⟨u, by rw [List.getElem?_set_ne hij]; exact h1, h2⟩
end

/-! ### the weakest readings -/
section
variable {X : Cx}
@[irreducible] def wpe (X : Cx) (e : Expr) : TE := fun σ H Q => ∀ pins s, Inv X pins σ H s → wpAny (model X.prog X.w) X.A (eval e X.env) (EP X pins σ Q) X.xe s
@[irreducible] def wpt (X : Cx) (e : Expr) : TT := fun σ H Q => ∀ pins s, Inv X pins σ H s → wpAny (model X.prog X.w) X.A (isTrue e X.env (eval e X.env)) (TP X pins σ Q) X.xe s
@[irreducible] def wpa (X : Cx) (es : List Expr) : TA := fun σ H Q => ∀ (pos : Pos) pins s, Inv X pins σ H s → wpAny (model X.prog X.w) X.A (spliced (backTo pos (starEach es X.env))) (AP X pins σ Q) X.xe s
@[irreducible] def wps (X : Cx) (st : Stmt) : TS := fun D σ H => ∀ pins s, Inv X pins σ H s → wpAny (model X.prog X.w) X.A (exec st X.env) (SP X pins D) X.xe s
@[irreducible] def wpss (X : Cx) (st : List Stmt) : TS := fun D σ H => ∀ pins s, Inv X pins σ H s → wpAny (model X.prog X.w) X.A (execs st X.env) (SP X pins D) X.xe s
theorem pe_w {e : Expr} : PE X e (wpe X e) := ⟨fun pins s σ H Q I h => by unfold wpe at h; exact h pins s I⟩
theorem pt_w {e : Expr} : PT X e (wpt X e) := ⟨fun pins s σ H Q I h => by unfold wpt at h; exact h pins s I⟩
theorem pa_w {es : List Expr} : PA X es (wpa X es) := ⟨fun pos pins s σ H Q I h => by unfold wpa at h; exact h pos pins s I⟩
theorem ps_w {st : Stmt} : PS X st (wps X st) := ⟨fun pins s σ H D I h => by unfold wps at h; exact h pins s I⟩
theorem pss_w {st : List Stmt} : PSs X st (wpss X st) := ⟨fun pins s σ H D I h => by unfold wpss at h; exact h pins s I⟩
theorem we {e : Expr} {t : TE} {σ : L2.St} {H : Hp} {Q : VK} (h : PE X e t) (q : t σ H Q) : wpe X e σ H Q := by unfold wpe; exact fun pins s I => h.run pins s σ H Q I q
theorem wt {e : Expr} {t : TT} {σ : L2.St} {H : Hp} {Q : Bool → Hp → Prop} (h : PT X e t) (q : t σ H Q) : wpt X e σ H Q := by unfold wpt; exact fun pins s I => h.run pins s σ H Q I q
theorem wa {es : List Expr} {t : TA} {σ : L2.St} {H : Hp} {Q : List V → Hp → Prop} (h : PA X es t) (q : t σ H Q) : wpa X es σ H Q := by unfold wpa; exact fun pos pins s I => h.run pos pins s σ H Q I q
theorem ws {st : Stmt} {t : TS} {σ : L2.St} {H : Hp} {D : Ends} (h : PS X st t) (q : t D σ H) : wps X st D σ H := by unfold wps; exact fun pins s I => h.run pins s σ H D I q
theorem wss {st : List Stmt} {t : TS} {σ : L2.St} {H : Hp} {D : Ends} (h : PSs X st t) (q : t D σ H) : wpss X st D σ H := by unfold wpss; exact fun pins s I => h.run pins s σ H D I q
end
/-! ### judgements -/
def PD (X : Cx) (δ : De) (ω : Om) (e : Expr) (d : PyData) : Prop :=
  ∀ σ H, Rl X.K H σ δ ω → ∀ Q : VK, (∀ v H', Same H H' → Dp X.K (hid (ads ω) H') v d → Q v H') → wpe X e σ H Q
def PDs (X : Cx) (δ : De) (ω : Om) (es : List Expr) (ds : List PyData) : Prop :=
  ∀ σ H, Rl X.K H σ δ ω → ∀ Q : List V → Hp → Prop, (∀ vs H', Same H H' → DpAll X.K (hid (ads ω) H') vs ds → Q vs H') → wpa X es σ H Q
def PTd (X : Cx) (δ : De) (ω : Om) (e : Expr) (b : Bool) : Prop :=
  ∀ σ H, Rl X.K H σ δ ω → ∀ Q : Bool → Hp → Prop, (∀ H', Same H H' → Q b H') → wpt X e σ H Q
/-- a list that is read -/
def PL (X : Cx) (δ : De) (ω : Om) (e : Expr) (ds : List PyData) : Prop :=
  ∀ σ H, Rl X.K H σ δ ω → ∀ Q : VK, (∀ p vs H', Same H H' → SqL X.K H' p vs → DpAll X.K (hid (ads ω) H') vs ds → Q (.ref p) H') → wpe X e σ H Q
/-- a new list -/
def PN (X : Cx) (δ : De) (ω : Om) (e : Expr) (ds : List PyData) : Prop :=
  ∀ σ H, Rl X.K H σ δ ω → ∀ Q : VK, (∀ p vs H', Same H H' → H p = none → H' p = some (.lst vs) → DpAll X.K (hid (p :: ads ω) H') vs ds → Q (.ref p) H') → wpe X e σ H Q
section
variable {X : Cx} {δ : De} {ω : Om} {a b c e : Expr} {es : List Expr} {d da db dc dz : PyData} {ds : List PyData} {pos : Pos}
theorem PD.eq (h : PD X δ ω e d) (q : d = dz) : PD X δ ω e dz := q ▸ h
theorem PN.pl (h : PN X δ ω e ds) : PL X δ ω e ds := fun σ H r Q k => h σ H r Q fun p vs H' s _ h1 h2 => k p vs H' s (SqL.of h1) (dpam hid_cons h2)
theorem PN.pd (h : PN X δ ω e ds) : PD X δ ω e (.list ds) := fun σ H r Q k => h σ H r Q fun p vs H' s n h1 h2 => k (.ref p) H' s (.lst (SqL.of (hid_of (new_out r.ro.there n) h1)) (dpam hid_cons h2))
theorem PD.pl (h : PD X δ ω e (.list ds)) : PL X δ ω e ds := fun σ H r Q k => h σ H r Q fun v H' s h1 => by
  cases h1 with
  | lst hs ha => exact k _ _ H' s (hid_sub.seq hs) ha
theorem pds_nil : PDs X δ ω [] [] := fun σ H _ Q k => wa pa_nil (k [] H (Same.refl H) .nil)
theorem pds_cons (ha : PD X δ ω e d) (hr : PDs X δ ω es ds) (hs : starEach (e :: es) X.env = (false, eval e X.env) :: starEach es X.env := by rfl) : PDs X δ ω (e :: es) (d :: ds) := fun σ H r Q k =>
  wa (pa_cons pe_w pa_w hs) (ha σ H r _ fun v H1 s1 d1 => hr σ H1 (r.mono s1) _ fun vs H2 s2 d2 => k (v :: vs) H2 (s1.trans s2) (.cons (dpm (hid_same s2) d1) d2))

/-! ### names, constants -/
theorem pd_var (i : Nat) {x : Str} (hd : δ[i]? = some (some (.im d)) := by rfl) (hN : X.N[i]? = some x := by rfl) (hv : Vis X.env.scope x := by first | exact Or.inl rfl | exact Or.inr (Or.inl rfl) | exact Or.inr (Or.inr rfl))
    (h1 : (x == ("__debug__" : Str)) = false := by decide) (h2 : (x == ("__classdict__" : Str)) = false := by decide) : PD X δ ω (.Name x pos) d := fun σ H r Q k => by
  obtain ⟨v, e1, e2⟩ := r.sl i _ hd
  exact we (pe_var hN hv h1 h2) ⟨v, e1, k v H (Same.refl H) e2⟩
theorem pl_var (i : Nat) {x : Str} {p : Addr} {xs : List PyData} (hm : (p, Od.lst (xs.map .im)) ∈ ω.os) (hd : δ[i]? = some (some (.ad p)) := by rfl) (hN : X.N[i]? = some x := by rfl) (hv : Vis X.env.scope x := by first | exact Or.inl rfl | exact Or.inr (Or.inl rfl) | exact Or.inr (Or.inr rfl))
    (h1 : (x == ("__debug__" : Str)) = false := by decide) (h2 : (x == ("__classdict__" : Str)) = false := by decide) : PL X δ ω (.Name x pos) xs := fun σ H r Q k => by
  obtain ⟨v, e1, e2⟩ := r.sl i _ hd
  obtain ⟨vs, e3, e4⟩ := r.ro.ob _ _ hm
  have e2 : v = .ref p := e2
  subst e2
  exact we (pe_var hN hv h1 h2) ⟨_, e1, k p vs H (Same.refl H) (SqL.of e3) (dpa_im e4)⟩
theorem pd_int {i : Int} {j : Nat} : PD X δ ω (.Constant (.int i) j pos) (.int i) := fun σ H _ Q k => we pe_int (k _ H (Same.refl H) (.int i))
theorem pd_str {x : Str} {j : Nat} : PD X δ ω (.Constant (.str x) j pos) (.str x) := fun σ H _ Q k => we pe_str (k _ H (Same.refl H) (.str x))
theorem pd_bl {x : Bool} {j : Nat} : PD X δ ω (.Constant (.bool x) j pos) (.bool x) := fun σ H _ Q k => we pe_bl (k _ H (Same.refl H) (.bl x))
theorem pd_non {j : Nat} : PD X δ ω (.Constant .none j pos) .none := fun σ H _ Q k => we pe_non (k _ H (Same.refl H) .non)
/-- a constant of the module -/
def GlD (K : PySem.W.Frag) (mg : Str → Option Value) (x : Str) (d : PyData) : Prop := ∃ v u, mg x = some u ∧ RelV v u ∧ ∀ H, Dp K H v d
theorem pd_glob {x : Str} (h : GlD X.K X.mg x d) (hg : Gl X x := by rfl) (hd : (x == ("__debug__" : Str)) = false := by decide) : PD X δ ω (.Name x pos) d := fun σ H _ Q k => by
  obtain ⟨v, u, h1, h2, h3⟩ := h
  exact we (pe_glob hg h1 h2 hd) (k v H (Same.refl H) (h3 _))

/-! ### operators -/
def RD (K : PySem.W.Frag) (r : R2) (da db dz : PyData) : Prop :=
  ∀ (ps : List Addr) (x y : V) (H : Hp), (∀ a ∈ ps, H a ≠ none) → Dp K (hid ps H) x da → Dp K (hid ps H) y db → ∀ Q : VK, (∀ z H', Same H H' → Dp K (hid ps H') z dz → Q z H') → r x y H Q
theorem pd_op {op : Operator} {r : R2} (ho : OpR X (binaryOp op) r) (hr : RD X.K r da db dz) (ha : PD X δ ω a da) (hb : PD X δ ω b db) : PD X δ ω (.BinOp a op b pos) dz := fun σ H rl Q k =>
  we (pe_op ho pe_w pe_w) (ha σ H rl _ fun x H1 s1 d1 => hb σ H1 (rl.mono s1) _ fun y H2 s2 d2 =>
    hr _ x y H2 (there_mono rl.ro.there (s1.trans s2)) (dpm (hid_same s2) d1) d2 Q fun z H3 s3 d3 => k z H3 ((s1.trans s2).trans s3) d3)
theorem pd_cmp {op : CmpOp} {r : R2} (ho : OpR X (compareOp op) r) (hr : RD X.K r da db dz) (ha : PD X δ ω a da) (hb : PD X δ ω b db) (hm : behindInMarks op b = false) : PD X δ ω (.Compare a [op] [b] pos) dz := fun σ H rl Q k =>
  we (pe_cmpR ho pe_w pe_w hm) (ha σ H rl _ fun x H1 s1 d1 => hb σ H1 (rl.mono s1) _ fun y H2 s2 d2 =>
    hr _ x y H2 (there_mono rl.ro.there (s1.trans s2)) (dpm (hid_same s2) d1) d2 Q fun z H3 s3 d3 => k z H3 ((s1.trans s2).trans s3) d3)
theorem rd_I0 {K : PySem.W.Frag} {g : Int → Int → Int} {i j : Int} : RD K (rI0 fun i j => .int (g i j)) (.int i) (.int j) (.int (g i j)) := fun ps x y H _ hx hy Q k => by
  cases hx
  cases hy
  exact ⟨i, j, rfl, rfl, k _ H (Same.refl H) (.int _)⟩
theorem rd_B0 {K : PySem.W.Frag} {g : Int → Int → Bool} {i j : Int} : RD K (rI0 fun i j => .bl (g i j)) (.int i) (.int j) (.bool (g i j)) := fun ps x y H _ hx hy Q k => by
  cases hx
  cases hy
  exact ⟨i, j, rfl, rfl, k _ H (Same.refl H) (.bl _)⟩
theorem rd_I {K : PySem.W.Frag} {C : Int → Int → Prop} {g : Int → Int → Int} {i j : Int} (hc : C i j) : RD K (rI C fun i j => .int (g i j)) (.int i) (.int j) (.int (g i j)) := fun ps x y H _ hx hy Q k => by
  cases hx
  cases hy
  exact ⟨i, j, rfl, rfl, hc, k _ H (Same.refl H) (.int _)⟩
theorem pd_add {i j : Int} (ha : PD X δ ω a (.int i)) (hb : PD X δ ω b (.int j)) : PD X δ ω (.BinOp a .Add b pos) (.int (i + j)) := pd_op op_add rd_I0 ha hb
theorem pd_sub {i j : Int} (ha : PD X δ ω a (.int i)) (hb : PD X δ ω b (.int j)) : PD X δ ω (.BinOp a .Sub b pos) (.int (i - j)) := pd_op op_sub rd_I0 ha hb
theorem pd_mul {i j : Int} (hc : CMulW i j) (ha : PD X δ ω a (.int i)) (hb : PD X δ ω b (.int j)) : PD X δ ω (.BinOp a .Mult b pos) (.int (i * j)) := pd_op op_mulW (rd_I hc) ha hb
theorem pd_mulS {i j : Int} (hc : CMul i j) (ha : PD X δ ω a (.int i)) (hb : PD X δ ω b (.int j)) : PD X δ ω (.BinOp a .Mult b pos) (.int (i * j)) := pd_op op_mul (rd_I hc) ha hb
theorem pd_mod {i j : Int} (hc : 0 < j) (ha : PD X δ ω a (.int i)) (hb : PD X δ ω b (.int j)) : PD X δ ω (.BinOp a .Mod b pos) (.int (i % j)) := pd_op op_mod (rd_I (C := fun _ j => 0 < j) hc) ha hb
theorem pd_fdiv {i j : Int} (hc : CDivW i j) (ha : PD X δ ω a (.int i)) (hb : PD X δ ω b (.int j)) : PD X δ ω (.BinOp a .FloorDiv b pos) (.int (i / j)) := pd_op op_fdivW (rd_I hc) ha hb
theorem pd_pow {i j : Int} (hc : CPow i j) (ha : PD X δ ω a (.int i)) (hb : PD X δ ω b (.int j)) : PD X δ ω (.BinOp a .Pow b pos) (.int (i ^ j.toNat)) := pd_op op_pow (rd_I hc) ha hb
theorem pd_lt {i j : Int} (ha : PD X δ ω a (.int i)) (hb : PD X δ ω b (.int j)) : PD X δ ω (.Compare a [.Lt] [b] pos) (.bool (decide (i < j))) := pd_cmp op_lt rd_B0 ha hb (nomark _)
theorem pd_le {i j : Int} (ha : PD X δ ω a (.int i)) (hb : PD X δ ω b (.int j)) : PD X δ ω (.Compare a [.LtE] [b] pos) (.bool (decide (i ≤ j))) := pd_cmp op_le rd_B0 ha hb (nomark _)
theorem pd_gt {i j : Int} (ha : PD X δ ω a (.int i)) (hb : PD X δ ω b (.int j)) : PD X δ ω (.Compare a [.Gt] [b] pos) (.bool (decide (j < i))) := pd_cmp op_gt rd_B0 ha hb (nomark _)
theorem pd_ge {i j : Int} (ha : PD X δ ω a (.int i)) (hb : PD X δ ω b (.int j)) : PD X δ ω (.Compare a [.GtE] [b] pos) (.bool (decide (j ≤ i))) := pd_cmp op_ge rd_B0 ha hb (nomark _)
theorem rd_eqI {K : PySem.W.Frag} {i j : Int} : RD K rEq (.int i) (.int j) (.bool (decide (i = j))) := fun ps x y H _ hx hy Q k => by
  cases hx
  cases hy
  refine ⟨rfl, ?_⟩
  have e : decide (V.int i = V.int j) = decide (i = j) := by
    by_cases c : i = j
    · subst c
      simp
    · rw [decide_eq_false c, decide_eq_false (fun z => c (V.int.inj z))]
  rw [e]
  exact k _ H (Same.refl H) (.bl _)
theorem rd_neI {K : PySem.W.Frag} {i j : Int} : RD K rNe (.int i) (.int j) (.bool (!decide (i = j))) := fun ps x y H _ hx hy Q k => by
  cases hx
  cases hy
  refine ⟨rfl, ?_⟩
  have e : decide (V.int i = V.int j) = decide (i = j) := by
    by_cases c : i = j
    · subst c
      simp
    · rw [decide_eq_false c, decide_eq_false (fun z => c (V.int.inj z))]
  rw [e]
  exact k _ H (Same.refl H) (.bl _)
theorem pd_eqI {i j : Int} (ha : PD X δ ω a (.int i)) (hb : PD X δ ω b (.int j)) : PD X δ ω (.Compare a [.Eq] [b] pos) (.bool (decide (i = j))) := pd_cmp op_eq rd_eqI ha hb (nomark _)
theorem pd_neI {i j : Int} (ha : PD X δ ω a (.int i)) (hb : PD X δ ω b (.int j)) : PD X δ ω (.Compare a [.NotEq] [b] pos) (.bool (!decide (i = j))) := pd_cmp op_ne rd_neI ha hb (nomark _)
theorem rd_eqD {K : PySem.W.Frag} (h1 : SeqAt.shaped da = true) (h2 : SeqAt.shaped db = true) : RD K (rEqD K) da db (.bool (PyData.eqv da db)) := fun ps x y H _ hx hy Q k =>
  ⟨da, db, dpm hid_sub hx, dpm hid_sub hy, h1, h2, k _ H (Same.refl H) (.bl _)⟩
theorem rd_neD {K : PySem.W.Frag} (h1 : SeqAt.shaped da = true) (h2 : SeqAt.shaped db = true) : RD K (rNeD K) da db (.bool (!PyData.eqv da db)) := fun ps x y H _ hx hy Q k =>
  ⟨da, db, dpm hid_sub hx, dpm hid_sub hy, h1, h2, k _ H (Same.refl H) (.bl _)⟩
theorem pd_eqD (hu : X.A.units + 64 < cLine) (h1 : SeqAt.shaped da = true) (h2 : SeqAt.shaped db = true) (ha : PD X δ ω a da) (hb : PD X δ ω b db) : PD X δ ω (.Compare a [.Eq] [b] pos) (.bool (PyData.eqv da db)) := pd_cmp (op_eqD hu) (rd_eqD h1 h2) ha hb (nomark _)
theorem pd_neD (hu : X.A.units + 64 < cLine) (h1 : SeqAt.shaped da = true) (h2 : SeqAt.shaped db = true) (ha : PD X δ ω a da) (hb : PD X δ ω b db) : PD X δ ω (.Compare a [.NotEq] [b] pos) (.bool (!PyData.eqv da db)) := pd_cmp (op_neD hu) (rd_neD h1 h2) ha hb (nomark _)

/-! ### displays, subscripts, len -/
theorem pd_tup {x1} (h : PDs X δ ω es ds) (hz : ds.length ≤ 1000 := by first | decide | (simp only [List.length_cons, List.length_nil]; omega)) : PD X δ ω (.Tuple es x1 pos) (.tuple ds) := fun σ H r Q k =>
  we (pe_tup pa_w) (h σ H r _ fun vs H1 s1 d1 => ⟨Nat.le_of_lt (small1000 (by rw [dpa_len d1]; exact hz)), fun p hp => k _ _ (s1.trans (same_new hp))
    (.tup (SqT.of (hid_of (new_out (there_mono r.ro.there s1) hp) upd_same)) (dpam (hid_same (same_new hp)) d1))⟩)
theorem pn_lst (h : PDs X δ ω es ds) (hz : ds.length ≤ 1000 := by first | decide | (simp only [List.length_cons, List.length_nil]; omega)) : PN X δ ω (.List es pos) ds := fun σ H r Q k =>
  we (pe_lst pa_w) (h σ H r _ fun vs H1 s1 d1 => ⟨Nat.le_of_lt (small1000 (by rw [dpa_len d1]; exact hz)), fun p hp => k p vs _ (s1.trans (same_new hp)) (s1.free hp) upd_same (dpam (hid_new hp (same_new hp)) d1)⟩)
theorem atI_dp {K : PySem.W.Frag} {H : Hp} {ds : List PyData} {vs : List V} {i : Int} (h : DpAll K H vs ds) (ha : atI ds i = some d) : ∃ v, atI vs i = some v ∧ Dp K H v d := by
  unfold atI at ha ⊢
  rw [dpa_len h]
  cases e : ixN ds.length i with
  | none =>
    rw [e] at ha
    cases ha
  | some j =>
    rw [e] at ha
    exact dpa_get h ha
theorem atI0 {α : Type} {x : α} {xs : List α} : atI (x :: xs) 0 = some x := atI_nat (j := 0) rfl
theorem atI1 {α : Type} {x y : α} {xs : List α} : atI (x :: y :: xs) 1 = some y := atI_nat (j := 1) rfl
theorem pd_ixT {i : Int} (ha : PD X δ ω a (.tuple ds)) (hb : PD X δ ω b (.int i)) (hi : atI ds i = some d) (hs : PlainIx b := by exact fun _ _ => rfl) : PD X δ ω (.Subscript a b pos) d := fun σ H rl Q k =>
  we (pe_ix ix_tup pe_w pe_w hs) (ha σ H rl _ fun x H1 s1 d1 => hb σ H1 (rl.mono s1) _ fun y H2 s2 d2 => by
    cases d2
    cases d1 with
    | tup hs ha =>
      obtain ⟨v, h1, h2⟩ := atI_dp ha hi
      exact ⟨_, _, _, v, rfl, rfl, same_sqt s2 (same_sqt hid_sub hs), h1, k v H2 (s1.trans s2) (dpm (hid_same s2) h2)⟩)
theorem pd_ixL {i : Int} (ha : PL X δ ω a ds) (hb : PD X δ ω b (.int i)) (hi : atI ds i = some d) (hs : PlainIx b := by exact fun _ _ => rfl) : PD X δ ω (.Subscript a b pos) d := fun σ H rl Q k =>
  we (pe_ix ix_list pe_w pe_w hs) (ha σ H rl _ fun p vs H1 s1 h1 d1 => hb σ H1 (rl.mono s1) _ fun y H2 s2 d2 => by
    cases d2
    obtain ⟨v, h3, h4⟩ := atI_dp d1 hi
    exact ⟨_, _, _, v, rfl, rfl, s2.seq h1, h3, k v H2 (s1.trans s2) (dpm (hid_same s2) h4)⟩)
theorem pd_lenT {p : Pos} (hm : X.mg "len" = none) (ha : PD X δ ω a (.tuple ds)) (hg : Gl X "len" := by rfl) (hs : starEach [a] X.env = (false, eval a X.env) :: starEach [] X.env := by rfl) : PD X δ ω (.Call (.Name "len" p) [a] [] pos) (.int ds.length) := fun σ H rl Q k =>
  we (pe_callB call_len_seq hg hm PySem.boot_len (pa_cons pe_w pa_nil hs) (he := hs)) (ha σ H rl _ fun x H1 s1 d1 => by
    cases d1 with
    | tup h1 h2 =>
      refine ⟨_, _, rfl, .inr (same_sqt hid_sub h1), ?_⟩
      rw [dpa_len h2]
      exact k _ H1 s1 (.int _))
theorem pd_lenL {p : Pos} (hm : X.mg "len" = none) (ha : PL X δ ω a ds) (hg : Gl X "len" := by rfl) (hs : starEach [a] X.env = (false, eval a X.env) :: starEach [] X.env := by rfl) : PD X δ ω (.Call (.Name "len" p) [a] [] pos) (.int ds.length) := fun σ H rl Q k =>
  we (pe_callB call_len_seq hg hm PySem.boot_len (pa_cons pe_w pa_nil hs) (he := hs)) (ha σ H rl _ fun x vs H1 s1 h1 d1 => by
    refine ⟨_, _, rfl, .inl h1, ?_⟩
    rw [dpa_len d1]
    exact k _ H1 s1 (.int _))
theorem pd_lenS {p : Pos} {z : Str} (hm : X.mg "len" = none) (ha : PD X δ ω a (.str z)) (hz : z.length ≤ 100000) (hg : Gl X "len" := by rfl) (hs : starEach [a] X.env = (false, eval a X.env) :: starEach [] X.env := by rfl) : PD X δ ω (.Call (.Name "len" p) [a] [] pos) (.int z.length) := fun σ H rl Q k =>
  we (pe_callB call_len hg hm PySem.boot_len (pa_cons pe_w pa_nil hs) (he := hs)) (ha σ H rl _ fun x H1 s1 d1 => by
    cases d1
    exact ⟨_, _, rfl, ⟨Nat.le_trans hz (by decide), rfl⟩, k _ H1 s1 (.int _)⟩)

/-! ### truth, and, or, not -/
theorem pt_of (h : PD X δ ω e (.bool true)) (he : ∀ whole, isTrue e X.env whole = (do let v ← whole; standAt e.pos; holding [v] (truthy v)) := by intro _; rfl) : PTd X δ ω e true := fun σ H r Q k =>
  wt (pt_val pe_w he) (h σ H r _ fun v H1 s1 d1 => by
    cases d1
    exact ⟨_, rfl, k H1 s1⟩)
theorem pt_bool {k : Bool} (h : PD X δ ω e (.bool k)) (he : ∀ whole, isTrue e X.env whole = (do let v ← whole; standAt e.pos; holding [v] (truthy v)) := by intro _; rfl) : PTd X δ ω e k := fun σ H r Q q =>
  wt (pt_val pe_w he) (h σ H r _ fun v H1 s1 d1 => by
    cases d1
    exact ⟨_, rfl, q H1 s1⟩)
theorem pt_cmpd {op : CmpOp} {r : R2} {k : Bool} (ho : OpR X (compareOp op) r) (hr : RD X.K r da db (.bool k)) (ha : PD X δ ω a da) (hb : PD X δ ω b db) (hm : behindInMarks op b = false) : PTd X δ ω (.Compare a [op] [b] pos) k := fun σ H rl Q q =>
  wt (pt_cmpR ho pe_w pe_w hm) (ha σ H rl _ fun x H1 s1 d1 => hb σ H1 (rl.mono s1) _ fun y H2 s2 d2 =>
    hr _ x y H2 (there_mono rl.ro.there (s1.trans s2)) (dpm (hid_same s2) d1) d2 _ fun z H3 s3 d3 => by
      cases d3
      exact ⟨_, rfl, q H3 ((s1.trans s2).trans s3)⟩)
theorem pt_notd {k : Bool} (h : PTd X δ ω e k) : PTd X δ ω (.UnaryOp .Not e pos) (!k) := fun σ H r Q q => wt (pt_not pt_w) (h σ H r _ fun H1 s1 => q H1 s1)
theorem pt_truT {k : Bool} (h : PD X δ ω e (.tuple ds)) (hk : k = !ds.isEmpty) (he : ∀ whole, isTrue e X.env whole = (do let v ← whole; standAt e.pos; holding [v] (truthy v)) := by intro _; rfl) : PTd X δ ω e k := fun σ H r Q q =>
  wt (pt_truth pe_w he) (h σ H r _ fun v H1 s1 d1 => by
    cases d1 with
    | tup h1 h2 =>
      refine ⟨k, ?_, q H1 s1⟩
      refine .inr (.inl ⟨_, same_sqt hid_sub h1, ?_⟩)
      rw [hk]
      cases h2 <;> rfl)
end
end FP

namespace FP
open PySem PySem.Spec PyProof.Rows L2
/-! ### and, or, not -/
@[irreducible] def wpw (X : Cx) (e : Expr) : TT := fun σ H Q => ∀ (whole : Sem Value) pins s, Inv X pins σ H s → wpAny (model X.prog X.w) X.A (isTrue e X.env whole) (TP X pins σ Q) X.xe s
theorem pw_w {X : Cx} {e : Expr} : PW X e (wpw X e) := ⟨fun whole pins s σ H Q I h => by unfold wpw at h; exact h whole pins s I⟩
theorem ww {X : Cx} {e : Expr} {t : TT} {σ : L2.St} {H : Hp} {Q : Bool → Hp → Prop} (h : PW X e t) (q : t σ H Q) : wpw X e σ H Q := by unfold wpw; exact fun whole pins s I => h.run whole pins s σ H Q I q
def PWd (X : Cx) (δ : De) (ω : Om) (e : Expr) (b : Bool) : Prop :=
  ∀ σ H, Rl X.K H σ δ ω → ∀ Q : Bool → Hp → Prop, (∀ H', Same H H' → Q b H') → wpw X e σ H Q
section
variable {X : Cx} {δ : De} {ω : Om} {a b c e : Expr} {es r : List Expr} {d da db dc dz : PyData} {ds : List PyData} {pos : Pos} {k x y : Bool}
theorem PWd.pt (h : PWd X δ ω e k) : PTd X δ ω e k := fun σ H rl Q q => wt (PW.pt pw_w) (h σ H rl Q q)
theorem pw_and1d (h : PTd X δ ω a k) : PWd X δ ω (.BoolOp .And [a] pos) k := fun σ H rl Q q => ww (pw_and1 pt_w) (h σ H rl Q q)
theorem pw_or1d (h : PTd X δ ω a k) : PWd X δ ω (.BoolOp .Or [a] pos) k := fun σ H rl Q q => ww (pw_or1 pt_w) (h σ H rl Q q)
theorem pw_andd (h : PTd X δ ω a x) (h2 : x = true → PWd X δ ω (.BoolOp .And (b :: r) pos) y) : PWd X δ ω (.BoolOp .And (a :: b :: r) pos) (x && y) := fun σ H rl Q q =>
  ww (pw_and pt_w pw_w) (h σ H rl _ fun H1 s1 => by
    cases x with
    | true => exact iteT (h2 rfl σ H1 (rl.mono s1) Q fun H2 s2 => q H2 (s1.trans s2))
    | false => exact iteF (q H1 s1))
theorem pw_ord (h : PTd X δ ω a x) (h2 : x = false → PWd X δ ω (.BoolOp .Or (b :: r) pos) y) : PWd X δ ω (.BoolOp .Or (a :: b :: r) pos) (x || y) := fun σ H rl Q q =>
  ww (pw_or pt_w pw_w) (h σ H rl _ fun H1 s1 => by
    cases x with
    | true => exact iteT (q H1 s1)
    | false => exact iteF (h2 rfl σ H1 (rl.mono s1) Q fun H2 s2 => q H2 (s1.trans s2)))
theorem pw_orT (h : PTd X δ ω a true) : PWd X δ ω (.BoolOp .Or (a :: b :: r) pos) true := fun σ H rl Q q => ww (pw_or pt_w pw_w) (h σ H rl _ fun H1 s1 => iteT (q H1 s1))
theorem pw_andF (h : PTd X δ ω a false) : PWd X δ ω (.BoolOp .And (a :: b :: r) pos) false := fun σ H rl Q q => ww (pw_and pt_w pw_w) (h σ H rl _ fun H1 s1 => iteF (q H1 s1))
theorem pd_one {op : PySem.BoolOp} (h : PD X δ ω a d) : PD X δ ω (.BoolOp op [a] pos) d := fun σ H rl Q q => we (pe_one pe_w) (h σ H rl Q q)
theorem pd_and (h : PD X δ ω a (.bool x)) (h2 : x = true → PD X δ ω (.BoolOp .And (b :: r) pos) (.bool y)) : PD X δ ω (.BoolOp .And (a :: b :: r) pos) (.bool (x && y)) := fun σ H rl Q q =>
  we (pe_and pe_w pe_w) (h σ H rl _ fun v H1 s1 d1 => by
    cases d1
    refine ⟨x, rfl, ?_⟩
    cases x with
    | true => exact iteT (h2 rfl σ H1 (rl.mono s1) Q fun v H2 s2 => q v H2 (s1.trans s2))
    | false => exact iteF (q _ H1 s1 (.bl _)))
theorem pd_andF (h : PD X δ ω a (.bool false)) : PD X δ ω (.BoolOp .And (a :: b :: r) pos) (.bool false) := fun σ H rl Q q =>
  we (pe_and pe_w pe_w) (h σ H rl _ fun v H1 s1 d1 => by
    cases d1
    exact ⟨false, rfl, iteF (q _ H1 s1 (.bl _))⟩)
theorem pd_or (h : PD X δ ω a (.bool x)) (h2 : x = false → PD X δ ω (.BoolOp .Or (b :: r) pos) (.bool y)) : PD X δ ω (.BoolOp .Or (a :: b :: r) pos) (.bool (x || y)) := fun σ H rl Q q =>
  we (pe_or pe_w pe_w) (h σ H rl _ fun v H1 s1 d1 => by
    cases d1
    refine ⟨x, rfl, ?_⟩
    cases x with
    | true => exact iteT (q _ H1 s1 (.bl _))
    | false => exact iteF (h2 rfl σ H1 (rl.mono s1) Q fun v H2 s2 => q v H2 (s1.trans s2)))
theorem pd_not (h : PD X δ ω a (.bool x)) : PD X δ ω (.UnaryOp .Not a pos) (.bool (!x)) := fun σ H rl Q q =>
  we (pe_not pe_w) (h σ H rl _ fun v H1 s1 d1 => by
    cases d1
    exact ⟨x, rfl, q _ H1 s1 (.bl _)⟩)
theorem pd_if (h : PTd X δ ω c k) (h1 : k = true → PD X δ ω a d) (h2 : k = false → PD X δ ω b d) : PD X δ ω (.IfExp c a b pos) d := fun σ H rl Q q =>
  we (pe_ifExp pt_w pe_w pe_w) (h σ H rl _ fun H1 s1 => by
    cases k with
    | true => exact iteT (h1 rfl σ H1 (rl.mono s1) Q fun v H2 s2 => q v H2 (s1.trans s2))
    | false => exact iteF (h2 rfl σ H1 (rl.mono s1) Q fun v H2 s2 => q v H2 (s1.trans s2)))
/-- a < b < c -/
theorem pd_chain {op op' : CmpOp} {r r' : R2} (ho : OpR X (compareOp op) r) (ho' : OpR X (compareOp op') r') (hr : RD X.K r da db (.bool x)) (hr' : x = true → RD X.K r' db dc (.bool y)) (ha : PD X δ ω a da) (hb : PD X δ ω b db) (hc : x = true → PD X δ ω c dc)
    (h1 : lastMarks [op, op'] [b, c] = false := by with_unfolding_all rfl) : PD X δ ω (.Compare a [op, op'] [b, c] pos) (.bool (x && y)) := fun σ H rl Q q =>
  we (pe_chain ho ho' pe_w pe_w pe_w h1) (ha σ H rl _ fun u H1 s1 d1 => hb σ H1 (rl.mono s1) _ fun v H2 s2 d2 =>
    hr _ u v H2 (there_mono rl.ro.there (s1.trans s2)) (dpm (hid_same s2) d1) d2 _ fun z H3 s3 d3 => by
      cases d3
      refine ⟨x, rfl, ?_⟩
      cases x with
      | true => exact iteT (hc rfl σ H3 (rl.mono ((s1.trans s2).trans s3)) _ fun t H4 s4 d4 => hr' rfl _ v t H4 (there_mono rl.ro.there (((s1.trans s2).trans s3).trans s4)) (dpm (hid_same (s3.trans s4)) d2) d4 Q fun z H5 s5 d5 => q z H5 ((((s1.trans s2).trans s3).trans s4).trans s5) d5)
      | false => exact iteF (q _ H3 ((s1.trans s2).trans s3) (.bl _)))

/-! ### built-in functions by values -/
def RC (K : PySem.W.Frag) (r : List V → Hp → VK → Prop) (ds : List PyData) (dz : PyData) : Prop :=
  ∀ (ps : List Addr) (vs : List V) (H : Hp), (∀ a ∈ ps, H a ≠ none) → DpAll K (hid ps H) vs ds → ∀ Q : VK, (∀ z H', Same H H' → Dp K (hid ps H') z dz → Q z H') → r vs H Q
theorem pd_callB {id : String} {r : List V → Hp → VK → Prop} {x : Str} {p : Pos} (hc : CallR X (.builtin id) r) (hr : RC X.K r ds dz) (hm : X.mg x = none) (hv : bootBuiltins x = some (.builtin id)) (ha : PDs X δ ω (a :: es) ds) (hg : Gl X x := by rfl)
    (hn : x ≠ "__name__" := by decide) (hdb : (x == ("__debug__" : Str)) = false := by decide) (he : starEach (a :: es) X.env = (false, eval a X.env) :: starEach es X.env := by rfl) (hpl : (backTo pos (starEach es X.env)).any (·.1) = false := by rfl) :
    PD X δ ω (.Call (.Name x p) (a :: es) [] pos) dz := fun σ H rl Q k =>
  we (pe_callB hc hg hm hv pa_w hn hdb he hpl) (ha σ H rl _ fun vs H1 s1 d1 => hr _ vs H1 (there_mono rl.ro.there s1) d1 Q fun z H2 s2 d2 => k z H2 (s1.trans s2) d2)
theorem pd_callTy {T : String} {r : List V → Hp → VK → Prop} {x : Str} {p : Pos} (hc : CallR X (.type T) r) (hr : RC X.K r ds dz) (hm : X.mg x = none) (hv : bootBuiltins x = some (.type T)) (ha : PDs X δ ω (a :: es) ds) (hg : Gl X x := by rfl)
    (hn : x ≠ "__name__" := by decide) (hdb : (x == ("__debug__" : Str)) = false := by decide) (he : starEach (a :: es) X.env = (false, eval a X.env) :: starEach es X.env := by rfl) (hpl : (backTo pos (starEach es X.env)).any (·.1) = false := by rfl) :
    PD X δ ω (.Call (.Name x p) (a :: es) [] pos) dz := fun σ H rl Q k =>
  we (pe_callTy hc hg hm hv pa_w hn hdb he hpl) (ha σ H rl _ fun vs H1 s1 d1 => hr _ vs H1 (there_mono rl.ro.there s1) d1 Q fun z H2 s2 d2 => k z H2 (s1.trans s2) d2)
theorem pd_min {p : Pos} {i j : Int} (hc : X.calm = true) (hm : X.mg "min" = none) (ha : PD X δ ω a (.int i)) (hb : PD X δ ω b (.int j)) (hg : Gl X "min" := by rfl)
    (he : starEach [a, b] X.env = (false, eval a X.env) :: starEach [b] X.env := by rfl) (hb2 : starEach [b] X.env = (false, eval b X.env) :: starEach [] X.env := by rfl) (hpl : (backTo pos (starEach [b] X.env)).any (·.1) = false := by rfl) :
    PD X δ ω (.Call (.Name "min" p) [a, b] [] pos) (.int (if j < i then j else i)) :=
  pd_callB (call_min2 hc) (fun ps vs H _ h Q k => by
    cases h with
    | cons h1 h2 =>
      cases h2 with
      | cons h3 h4 =>
        cases h4
        cases h1
        cases h3
        exact ⟨i, j, rfl, k _ H (Same.refl H) (.int _)⟩) hm (by decide +kernel) (pds_cons ha (pds_cons hb pds_nil hb2) he) hg (by decide) (by decide) he hpl
theorem pd_max {p : Pos} {i j : Int} (hc : X.calm = true) (hm : X.mg "max" = none) (ha : PD X δ ω a (.int i)) (hb : PD X δ ω b (.int j)) (hg : Gl X "max" := by rfl)
    (he : starEach [a, b] X.env = (false, eval a X.env) :: starEach [b] X.env := by rfl) (hb2 : starEach [b] X.env = (false, eval b X.env) :: starEach [] X.env := by rfl) (hpl : (backTo pos (starEach [b] X.env)).any (·.1) = false := by rfl) :
    PD X δ ω (.Call (.Name "max" p) [a, b] [] pos) (.int (if j > i then j else i)) :=
  pd_callB (call_max2 hc) (fun ps vs H _ h Q k => by
    cases h with
    | cons h1 h2 =>
      cases h2 with
      | cons h3 h4 =>
        cases h4
        cases h1
        cases h3
        exact ⟨i, j, rfl, k _ H (Same.refl H) (.int _)⟩) hm (by decide +kernel) (pds_cons ha (pds_cons hb pds_nil hb2) he) hg (by decide) (by decide) he hpl
theorem pd_ord {p : Pos} {z : Str} {i : Nat} (hm : X.mg "ord" = none) (ha : PD X δ ω a (.str z)) (hz : z.length = 1) (hi : z.cps.getD 0 0 = i) (hg : Gl X "ord" := by rfl)
    (he : starEach [a] X.env = (false, eval a X.env) :: starEach [] X.env := by rfl) : PD X δ ω (.Call (.Name "ord" p) [a] [] pos) (.int (i : Nat)) :=
  pd_callB call_ord (fun ps vs H _ h Q k => by
    cases h with
    | cons h1 h2 =>
      cases h2
      cases h1
      refine ⟨z, rfl, hz, ?_⟩
      rw [hi]
      exact k _ H (Same.refl H) (.int _)) hm (by decide +kernel) (pds_cons ha pds_nil he) hg (by decide) (by decide) he (by rfl)
theorem dpa_bl {K : PySem.W.Frag} {H : Hp} : ∀ {bs : List Bool} {vs : List V}, DpAll K H vs (bs.map .bool) → vs = bs.map V.bl
  | [], _, h => by
    cases h
    rfl
  | b :: bs, _, h => by
    cases h with
    | cons x y =>
      cases x
      rw [List.map_cons, dpa_bl y]
/-- all of a list of truths -/
theorem pd_all {p : Pos} {bs : List Bool} (hc : X.calm = true) (hm : X.mg "all" = none) (ha : PL X δ ω a (bs.map .bool)) (hg : Gl X "all" := by rfl)
    (he : starEach [a] X.env = (false, eval a X.env) :: starEach [] X.env := by rfl) : PD X δ ω (.Call (.Name "all" p) [a] [] pos) (.bool (bs.all id)) := fun σ H rl Q k =>
  we (pe_callB (cr_all hc) hg hm (by decide +kernel) (pa_cons pe_w pa_nil he) (he := he)) (ha σ H rl _ fun q vs H1 s1 h1 d1 => by
    have ev : vs = bs.map V.bl := dpa_bl d1
    subst ev
    exact ⟨q, bs, rfl, h1, k _ H1 s1 (.bl _)⟩)
/-- tuple of a list -/
theorem pd_tupleL {p : Pos} (hm : X.mg "tuple" = none) (ha : PL X δ ω a ds) (hg : Gl X "tuple" := by rfl) (he : starEach [a] X.env = (false, eval a X.env) :: starEach [] X.env := by rfl) : PD X δ ω (.Call (.Name "tuple" p) [a] [] pos) (.tuple ds) := fun σ H rl Q k =>
  we (pe_callTy call_tuple_of hg hm (by decide +kernel) (pa_cons pe_w pa_nil he) (he := he)) (ha σ H rl _ fun q vs H1 s1 h1 d1 =>
    ⟨q, vs, rfl, .inl ⟨h1, fun l hl => k _ _ (s1.trans (same_new hl)) (.tup (SqT.of (hid_of (new_out (there_mono rl.ro.there s1) hl) upd_same)) (dpam (hid_same (same_new hl)) d1))⟩⟩)
/-- isinstance of a built-in class -/
def kindD : PyData → String
  | .none => "NoneType"
  | .bool _ => "bool"
  | .int _ => "int"
  | .str _ => "str"
  | .list _ => "list"
  | .tuple _ => "tuple"
  | .dict _ => "dict"
theorem tyx_of {K : PySem.W.Frag} {H : Hp} {v : V} (h : Dp K H v d) : TyX K H v (.type (kindD d)) := by
  cases h with
  | non => exact .base .non
  | bl b => exact .base (.bl b)
  | int i => exact .base (.int i)
  | str x => exact .base (.str x)
  | lst h _ =>
    rcases h with (h | ⟨o, h⟩) | ⟨o, its, n, h, c, _⟩
    · exact .base (.lst h)
    · exact .base (.frz h)
    · exact .kList h c
  | tup h _ =>
    rcases h with (h | ⟨o, h⟩) | ⟨o, its, n, h, c, _⟩
    · exact .base (.tup h)
    · exact .fTuple h
    · exact .kTuple h c
theorem pd_isi {p p2 : Pos} {t : String} {x : Str} (hm : X.mg "isinstance" = none) (hmx : X.mg x = none) (hbx : bootBuiltins x = some (.type t)) (ha : PD X δ ω a d) (hk : kitB (kindD d) t = some k) (hg : Gl X "isinstance" := by rfl) (hgx : Gl X x := by rfl)
    (hnx : x ≠ "__name__" := by decide) (hdx : (x == ("__debug__" : Str)) = false := by decide)
    (he : starEach [a, .Name x p2] X.env = (false, eval a X.env) :: starEach [.Name x p2] X.env := by rfl) (he2 : starEach [.Name x p2] X.env = (false, eval (.Name x p2) X.env) :: starEach [] X.env := by rfl) (hpl : (backTo pos (starEach [.Name x p2] X.env)).any (·.1) = false := by rfl) :
    PD X δ ω (.Call (.Name "isinstance" p) [a, .Name x p2] [] pos) (.bool k) := fun σ H rl Q q =>
  we (pe_callB call_isi hg hm (by decide +kernel) (pa_cons pe_w (pa_cons (pe_bltn (v := .ty t) hgx hmx hbx rfl hnx hdx) pa_nil he2) he) (he := he) (hpl := hpl)) (ha σ H rl _ fun v H1 s1 d1 =>
    ⟨v, .ty t, _, _, k, rfl, .ty t, tyx_of (dpm hid_sub d1), kit_ty hk, q _ H1 s1 (.bl _)⟩)
end
end FP

namespace FP
open PySem PySem.Spec PyProof.Rows L2
/-! ### defs by data -/
inductive Rs where
  | ok (d : PyData)
  | er (C : Addr)
def RsQ (K : PySem.W.Frag) (ps : List Addr) (H : Hp) (Q : VK) (E : XK) : Rs → Prop
  | .ok d => ∀ v H', Same H H' → Dp K (hid ps H') v d → Q v H'
  | .er C => ∀ H', Same H H' → E (.ref C) none H'
def spD (K : PySem.W.Frag) (fr : List PyData → Rs → Prop) : Sp := fun vs H Q E => ∃ ps ds r, (∀ a ∈ ps, H a ≠ none) ∧ DpAll K (hid ps H) vs ds ∧ fr ds r ∧ RsQ K ps H Q E r
structure DefOk (P : Program) (w : World) (K : PySem.W.Frag) (mg : Str → Option Value) (base : Heap) (k : Nat) (x : Str) (fr : List PyData → Rs → Prop) : Prop where
  ex : ∃ f fd ps, FnOk P w K mg base (L2N.CX P w) k f fd ps (spD K fr) ∧ mg x = some (.ref f) ∧ PySem.W.keepIn K (.ref f) = true ∧ L2.Binds K fd ps []
theorem DefOk.mono {P : Program} {w : World} {K : PySem.W.Frag} {mg : Str → Option Value} {base : Heap} {j k : Nat} {x : Str} {fr : List PyData → Rs → Prop} (G : DefOk P w K mg base j x fr) (h : j ≤ k) : DefOk P w K mg base k x fr := by
  obtain ⟨f, fd, ps, F, m, kp, b⟩ := G.ex
  exact ⟨f, fd, ps, F.mono h, m, kp, b⟩
theorem passN {X : Cx} : Passes (L2N.CX X.prog X.w) X E0 := fun _ _ _ _ _ _ _ h => by
  obtain ⟨_, _, _, _, _, _, _, _, _, _, _, _, z⟩ := h
  cases z
section
variable {X : Cx} {δ : De} {ω : Om} {a b c e : Expr} {es r : List Expr} {d da db dc dz : PyData} {ds : List PyData} {pos p : Pos} {k : Nat} {x : Str} {fr : List PyData → Rs → Prop}
theorem pd_call (G : DefOk X.prog X.w X.K X.mg X.base k x fr) (hr : Room k X.A) (ha : PDs X δ ω (a :: es) ds) (hf : fr ds (.ok d)) (hg : Gl X x := by rfl) (hdb : (x == ("__debug__" : Str)) = false := by decide)
    (he : starEach (a :: es) X.env = (false, eval a X.env) :: starEach es X.env := by rfl) (hpl : (backTo pos (starEach es X.env)).any (·.1) = false := by rfl) : PD X δ ω (.Call (.Name x p) (a :: es) [] pos) d := fun σ H rl Q q => by
  obtain ⟨f, fd, ps, F, m, kp, b⟩ := G.ex
  refine we (pe_call F hr hg m kp b .nil passN pa_w hdb he hpl) (ha σ H rl _ fun vs H1 s1 d1 => ?_)
  show spD X.K fr (vs ++ []) H1 Q E0
  rw [List.append_nil]
  exact ⟨ads ω, ds, .ok d, there_mono rl.ro.there s1, d1, hf, fun v H' s' d' => q v H' (s1.trans s') d'⟩
theorem pd_call0 (G : DefOk X.prog X.w X.K X.mg X.base k x fr) (hr : Room k X.A) (hf : fr [] (.ok d)) (hg : Gl X x := by rfl) (hdb : (x == ("__debug__" : Str)) = false := by decide) : PD X δ ω (.Call (.Name x p) [] [] pos) d := fun σ H rl Q q => by
  obtain ⟨f, fd, ps, F, m, kp, b⟩ := G.ex
  exact we (pe_call0 F hr hg m kp b .nil passN hdb) ⟨ads ω, [], .ok d, rl.ro.there, .nil, hf, fun v H' s' d' => q v H' s' d'⟩
end

/-! ### what is walked -/
/-- what stays in a loop -/
def Pt (T : List (Addr × Str)) (o : HO) : Prop := T = [] ∨ ∀ ps, o ≠ .tbl ps
def Ke (T : List (Addr × Str)) (G H : Hp) : Prop := ∀ b o, G b = some o → Pt T o → H b = some o
theorem ke_same {T : List (Addr × Str)} {G H : Hp} (h : Same G H) : Ke T G H := fun b o e _ => h b o e
theorem pt_tup {T : List (Addr × Str)} {xs : List V} : Pt T (.tup xs) := .inr fun _ z => by cases z
theorem pt_lst {T : List (Addr × Str)} {xs : List V} : Pt T (.lst xs) := .inr fun _ z => by cases z
theorem pt_frz {T : List (Addr × Str)} {o : Obj} {u : HO} : Pt T (.frz o u) := .inr fun _ z => by cases z
theorem ke_sqt {T : List (Addr × Str)} {K : PySem.W.Frag} {G H : Hp} {a : Addr} {xs : List V} (e : Ke T G H) (h : SqT K G a xs) : SqT K H a xs := by
  rcases h with (h | ⟨o, h⟩) | h
  · exact .inl (.inl (e _ _ h pt_tup))
  · exact .inl (.inr ⟨o, e _ _ h pt_frz⟩)
  · exact .inr h
theorem ke_sql {T : List (Addr × Str)} {K : PySem.W.Frag} {G H : Hp} {a : Addr} {xs : List V} (e : Ke T G H) (h : SqL K G a xs) : SqL K H a xs := by
  rcases h with (h | ⟨o, h⟩) | h
  · exact .inl (.inl (e _ _ h pt_lst))
  · exact .inl (.inr ⟨o, e _ _ h pt_frz⟩)
  · exact .inr h
mutual
theorem dp_ke {T : List (Addr × Str)} {K : PySem.W.Frag} {H H' : Hp} (e : Ke T H H') : ∀ (d : PyData) (v : V), Dp K H v d → Dp K H' v d
  | .none, _, h => by
    cases h
    exact .non
  | .bool b, _, h => by
    cases h
    exact .bl b
  | .int i, _, h => by
    cases h
    exact .int i
  | .str x, _, h => by
    cases h
    exact .str x
  | .list ds, _, h => by
    cases h with
    | lst hs ha => exact .lst (ke_sql e hs) (dpa_ke e ds _ ha)
  | .tuple ds, _, h => by
    cases h with
    | tup hs ha => exact .tup (ke_sqt e hs) (dpa_ke e ds _ ha)
  | .dict kvs, _, h => by cases h
theorem dpa_ke {T : List (Addr × Str)} {K : PySem.W.Frag} {H H' : Hp} (e : Ke T H H') : ∀ (ds : List PyData) (vs : List V), DpAll K H vs ds → DpAll K H' vs ds
  | [], _, h => by
    cases h
    exact .nil
  | d :: ds, _, h => by
    cases h with
    | cons a b => exact .cons (dp_ke e d _ a) (dpa_ke e ds _ b)
end
def Wk (K : PySem.W.Frag) (G : Hp → Prop) (B : Hp) (J : It) (items : List PyData) : Prop :=
  ∀ H', G H' → (∀ i, i < items.length → J.go i H') ∧ J.stop items.length H' ∧ ∀ i x H'', i < items.length → J.yld i H' x H'' → H'' = H' ∧ ∃ d, items[i]? = some d ∧ Dp K B x d
def PWs (X : Cx) (δ : De) (ω : Om) (tg iter : Expr) (items : List PyData) : Prop :=
  ∃ wi, PI X tg iter wi ∧ ∀ σ H, Rl X.K H σ δ ω → ∀ R : It → Hp → Prop, (∀ J H', Same H H' → Wk X.K (Same H') (hid (ads ω) H') J items → R J H') → wi σ H R
def PWk (X : Cx) (δ : De) (ω : Om) (tg iter : Expr) (items : List PyData) : Prop :=
  ∃ wi, PI X tg iter wi ∧ ∀ σ H, Rl X.K H σ δ ω → ∀ R : It → Hp → Prop, (∀ J H', Same H H' → (∀ T, Wk X.K (Ke T (hid (ads ω) H')) (hid (ads ω) H') J items) → R J H') → wi σ H R
section
variable {X : Cx} {δ : De} {ω : Om} {a b c e tg iter : Expr} {es r : List Expr} {d da db dc dz : PyData} {ds : List PyData} {pos p : Pos} {k : Nat} {x : Str}
theorem PWk.ws (h : PWk X δ ω tg iter ds) : PWs X δ ω tg iter ds := by
  obtain ⟨wi, h1, h2⟩ := h
  exact ⟨wi, h1, fun σ H rl R k => h2 σ H rl R fun J H' s w => k J H' s fun H2 s2 => w [] H2 (ke_same ((hid_same s2).trans hid_sub))⟩
theorem wk_tup (h : PD X δ ω iter (.tuple ds)) : PWk X δ ω tg iter ds := by
  refine ⟨iTup X.K (wpe X iter), pi_tup pe_w, fun σ H rl R k => h σ H rl _ fun v H1 s1 d1 => ?_⟩
  cases d1 with
  | tup h1 h2 =>
    rename_i q vs
    refine ⟨q, rfl, ⟨vs, same_sqt hid_sub h1⟩, k _ H1 s1 fun T H2 g => ⟨fun i hi => ?_, ⟨vs, ke_sqt g h1, Nat.le_of_eq (dpa_len h2)⟩, fun i y H3 _ z => ?_⟩⟩
    · obtain ⟨y, e1, _⟩ := dpa_get h2 (List.getElem?_eq_getElem hi)
      exact ⟨vs, y, ke_sqt g h1, e1⟩
    · obtain ⟨e1, e2⟩ := z
      exact ⟨e1, dpa_get' h2 (e2 vs (ke_sqt g h1))⟩
theorem wk_lst (h : PD X δ ω iter (.list ds)) : PWk X δ ω tg iter ds := by
  refine ⟨iList X.K (wpe X iter), pi_list pe_w, fun σ H rl R k => h σ H rl _ fun v H1 s1 d1 => ?_⟩
  cases d1 with
  | lst h1 h2 =>
    rename_i q vs
    refine ⟨q, rfl, ⟨vs, hid_sub.seq h1⟩, k _ H1 s1 fun T H2 g => ⟨fun i hi => ?_, ⟨vs, ke_sql g h1, Nat.le_of_eq (dpa_len h2)⟩, fun i y H3 _ z => ?_⟩⟩
    · obtain ⟨y, e1, _⟩ := dpa_get h2 (List.getElem?_eq_getElem hi)
      exact ⟨vs, y, ke_sql g h1, e1⟩
    · obtain ⟨e1, e2⟩ := z
      exact ⟨e1, dpa_get' h2 (e2 vs (ke_sql g h1))⟩
theorem ws_lst (h : PL X δ ω iter ds) : PWs X δ ω tg iter ds := by
  refine ⟨iList X.K (wpe X iter), pi_list pe_w, fun σ H rl R k => h σ H rl _ fun q vs H1 s1 h1 h2 => ?_⟩
  refine ⟨q, rfl, ⟨vs, h1⟩, k _ H1 s1 fun H2 g => ⟨fun i hi => ?_, ⟨vs, g.seq h1, Nat.le_of_eq (dpa_len h2)⟩, fun i y H3 _ z => ?_⟩⟩
  · obtain ⟨y, e1, _⟩ := dpa_get h2 (List.getElem?_eq_getElem hi)
    exact ⟨vs, y, g.seq h1, e1⟩
  · obtain ⟨e1, e2⟩ := z
    exact ⟨e1, dpa_get' h2 (e2 vs (g.seq h1))⟩
def signsD (z : Str) : List PyData := z.cps.toList.map fun c => .str ⟨#[c]⟩
theorem wk_str {z : Str} (h : PD X δ ω iter (.str z)) : PWk X δ ω tg iter (signsD z) := by
  refine ⟨iStr (wpe X iter), pi_str pe_w, fun σ H rl R k => h σ H rl _ fun v H1 s1 d1 => ?_⟩
  cases d1
  have hl : (signsD z).length = z.cps.size := by
    unfold signsD
    rw [List.length_map, Array.length_toList]
  refine ⟨z, rfl, k _ H1 s1 fun T H2 g => ⟨fun i hi => ?_, ?_, fun i y H3 hi w => ?_⟩⟩
  · show i < z.cps.size
    rw [← hl]
    exact hi
  · show z.cps.size ≤ (signsD z).length
    rw [hl]
    exact Nat.le_refl _
  · obtain ⟨e1, c, e2, e3⟩ := w
    subst e3
    refine ⟨e1, .str ⟨#[c]⟩, ?_, .str _⟩
    unfold signsD
    rw [List.getElem?_map, Array.getElem?_toList, e2]
    rfl
def rangeD (lo : Int) (n : Nat) : List PyData := (List.range n).map fun (i : Nat) => .int (lo + (i : Int))
theorem rangeD_len (lo : Int) (n : Nat) : (rangeD lo n).length = n := by
  unfold rangeD
  rw [List.length_map, List.length_range]
theorem rangeD_get {lo : Int} {n i : Nat} (h : i < n) : (rangeD lo n)[i]? = some (.int (lo + (i : Int))) := by
  unfold rangeD
  rw [List.getElem?_map, List.getElem?_range h]
  rfl
theorem wk_range1 {j : Int} (hm : X.mg "range" = none) (ha : PD X δ ω a (.int j)) (hj : 0 ≤ j ∧ j ≤ 100000) (hg : Gl X "range" := by rfl) (hs : starEach [a] X.env = [(false, eval a X.env)] := by rfl) (he : starEach [a] X.env = (false, eval a X.env) :: starEach [] X.env := by rfl) :
    PWk X δ ω tg (.Call (.Name "range" p) [a] [] pos) (rangeD 0 j.toNat) := by
  refine ⟨_, pi_range1 hg hm (pa_cons pe_w pa_nil he) hs, fun σ H rl R k => ha σ H rl _ fun v H1 s1 d1 => ?_⟩
  cases d1
  refine ⟨j, rfl, by omega, by omega, k _ H1 s1 fun T H2 g => ⟨fun i hi => ?_, ?_, fun i y H3 hi w => ?_⟩⟩
  · rw [rangeD_len] at hi
    exact hi
  · show j.toNat ≤ (rangeD 0 j.toNat).length
    rw [rangeD_len]
    exact Nat.le_refl _
  · obtain ⟨e1, e2⟩ := w
    subst e2
    rw [rangeD_len] at hi
    exact ⟨e1, _, rangeD_get hi, .int _⟩

/-! ### comprehensions -/
/-- the list under way, as an object of one's own -/
def omD (ω : Om) (D : Addr) (o : Od) : Om := ⟨ω.ps, (D, o) :: ω.os⟩
theorem ads_omD {ω : Om} {D : Addr} {o : Od} {b : Addr} : b ∈ ads (omD ω D o) ↔ b = D ∨ b ∈ ads ω := by
  show b ∈ ω.ps ++ D :: ω.os.map (·.1) ↔ b = D ∨ b ∈ ω.ps ++ ω.os.map (·.1)
  simp only [List.mem_append, List.mem_cons]
  constructor
  · rintro (h | h | h)
    · exact .inr (.inl h)
    · exact .inl h
    · exact .inr (.inr h)
  · rintro (h | h | h)
    · exact .inr (.inl h)
    · exact .inl h
    · exact .inr (.inr h)
theorem hid_omD {ω : Om} {D : Addr} {o : Od} {H : Hp} : Same (hid (ads (omD ω D o)) H) (hid (ads ω) H) := hid_more fun b h => ads_omD.mpr (.inr h)
/-- from a heap that has no D to one that has it: what was seen is seen -/
theorem hid_in {ω : Om} {D : Addr} {o : Od} {G H : Hp} (hD : G D = none) (e : Same G H) : Same (hid (ads ω) G) (hid (ads (omD ω D o)) H) := fun b u h => by
  obtain ⟨n, e2⟩ := hid_out h
  refine hid_of (fun z => ?_) (e b u e2)
  rcases ads_omD.mp z with q | q
  · rw [q, hD] at e2
    cases e2
  · exact n q
theorem Rl.omD {K : PySem.W.Frag} {G H : Hp} {σ : L2.St} {δ : De} {D : Addr} {xs : List PyData} {vs : List V} (rl : Rl K G σ δ ω) (hD : G D = none) (e : Same G H) (hv : H D = some (.lst vs)) (hx : DpAll K (hid (ads (omD ω D (.lst (xs.map .im)))) H) vs xs) :
    Rl K H σ δ (omD ω D (.lst (xs.map .im))) := by
  refine ⟨rl.len, fun i r h => ?_, ?_, ?_, there_mono rl.ro.th e⟩
  · obtain ⟨v, h1, h2⟩ := rl.sl i r h
    exact ⟨v, h1, sdv_mono (hid_in hD e) h2⟩
  · intro a o h
    rcases List.mem_cons.mp h with q | q
    · cases q
      exact ⟨vs, hv, im_dpa hx⟩
    · exact odv_mono (hid_in hD e) e (rl.ro.ob a o q)
  · show (D :: ω.os.map (·.1)).Nodup
    refine List.nodup_cons.mpr ⟨fun z => ?_, rl.ro.nd⟩
    exact rl.ro.there D (List.mem_append_right _ z) hD
/-- a write at D leaves what is seen beside it -/
theorem hid_upd {ω : Om} {D : Addr} {o o' : Od} {u : HO} {H : Hp} : Same (hid (ads (FP.omD ω D o)) H) (hid (ads (FP.omD ω D o')) (upd H D u)) := fun b x h => by
  obtain ⟨n, e⟩ := hid_out h
  have nb : b ≠ D := fun z => n (ads_omD.mpr (.inl z))
  refine hid_of (fun z => n ?_) (by rw [upd_ne nb]; exact e)
  rcases ads_omD.mp z with q | q
  · exact ads_omD.mpr (.inl q)
  · exact ads_omD.mpr (.inr q)
theorem same_upd_new {G H : Hp} {D : Addr} {u : HO} (hD : G D = none) (e : Same G H) : Same G (upd H D u) := fun b x h => by
  rw [upd_ne (ne_of_none h hD)]
  exact e b x h
/-- the comprehension's reading: no test -/
theorem lc_data {σ : L2.St} {H : Hp} {Q : VK} {wi : TI} {j : Nat} {te : TE} {items ys : List PyData} (rl : Rl X.K H σ δ ω)
    (hw : ∀ R : It → Hp → Prop, (∀ J H', Same H H' → Wk X.K (Same H') (hid (ads ω) H') J items → R J H') → wi σ H R) (hl : ys.length = items.length) (hz : items.length ≤ 10000)
    (he : ∀ (i : Nat) (d y : PyData), items[i]? = some d → ys[i]? = some y → ∀ D o σ' H', Rl X.K H' σ' (δ.set j (some (.im d))) (omD ω D o) → ∀ Q : VK, (∀ v H2, Same H' H2 → Dp X.K (hid (ads (omD ω D o)) H2) v y → Q v H2) → te σ' H' Q)
    (k : ∀ p vs H', Same H H' → H p = none → H' p = some (.lst vs) → DpAll X.K (hid (p :: ads ω) H') vs ys → Q (.ref p) H') :
    tLc wi (gName j) tYes te [j] σ H Q := by
  refine hw _ fun J H1 s1 w => fun D hD => ?_
  have rl1 := rl.mono s1
  refine ⟨fun i m H2 => m = items.length - i ∧ i ≤ items.length ∧ Same H1 H2 ∧ ∃ vs, H2 D = some (.lst vs) ∧ DpAll X.K (hid (ads (FP.omD ω D (.lst ((ys.take i).map .im)))) H2) vs (ys.take i), ⟨items.length, by omega, Nat.zero_le _, same_new hD, [], upd_same, ?_⟩, ?_⟩
  · rw [List.take_zero]
    exact .nil
  rintro i m H2 ⟨em, hi, s2, vs, hv, dv⟩
  obtain ⟨go, stop, yld⟩ := w H2 s2
  by_cases hlt : i < items.length
  · refine .inr ⟨go i hlt, fun H3 => Same H1 H3 ∧ ∃ vs, H3 D = some (.lst vs) ∧ DpAll X.K (hid (ads (FP.omD ω D (.lst ((ys.take (i + 1)).map .im)))) H3) vs (ys.take (i + 1)), fun H3 ⟨s3, h3⟩ => ⟨items.length - (i + 1), by omega, rfl, hlt, s3, h3⟩, fun x H3 hy => ?_⟩
    obtain ⟨e3, d, ed, dx⟩ := yld i x H3 hlt hy
    subst e3
    have hys : i < ys.length := by omega
    have ey : ys[i]? = some ys[i] := List.getElem?_eq_getElem hys
    show wipe (((wipe σ [j])).set j (some x)) [j] = wipe σ [j] ∧ _
    have ew : wipe σ [j] = σ.set j none := rfl
    refine ⟨?_, ?_⟩
    · show (((σ.set j none).set j (some x)).set j none) = σ.set j none
      rw [List.set_set, List.set_set]
    show te (((wipe σ [j])).set j (some x)) H3 _
    rw [ew, List.set_set]
    have rl3 := (rl1.omD hD s2 hv dv)
    have rl4 := rl3.set (i := j) (x := .im d) (v := x) (dpm (hid_in hD s2) dx)
    refine he i d ys[i] ed ey D _ _ _ rl4 _ fun v H4 s4 d4 => ⟨vs, s4 D _ hv, ?_, same_upd_new hD (s2.trans s4), vs ++ [v], upd_same, ?_⟩
    · rw [dpa_len dv, List.length_take]
      refine Nat.lt_of_le_of_lt (Nat.min_le_left _ _) (Nat.lt_of_lt_of_le hlt (Nat.le_trans hz ?_))
      rw [sizeLine_eq]
      decide
    · rw [List.take_add_one, ey]
      exact dpa_app (dpam hid_upd (dpam (hid_same s4) dv)) (.cons (dpm hid_upd d4) .nil)
  · have e : i = items.length := by omega
    subst e
    refine .inl ⟨stop, ?_⟩
    rw [List.take_of_length_le (by omega)] at dv
    exact k D vs H2 (s1.trans s2) (s1.free hD) hv (dpam (hid_more fun b h => ads_omD.mpr (List.mem_cons.mp h)) dv)
/-- [elt for tg in iter] -/
def tBlk (X : Cx) (scope : Scope) (elt : Expr) : TE := fun σ H Q => ∀ (s : Shared) (H0 : Hp) (C : Addr) (cl : List (Str × Addr)) (fp : List Addr), wpe (X.blk s H0 scope (compEnvC scope cl C X.env) fp) elt σ H Q
theorem pe_blk {scope : Scope} {elt : Expr} (s : Shared) (H0 : Hp) (C : Addr) (cl : List (Str × Addr)) (fp : List Addr) : PE (X.blk s H0 scope (compEnvC scope cl C X.env) fp) elt (tBlk X scope elt) := ⟨fun pins s' σ H Q I h => pe_w.run pins s' σ H Q I (h s H0 C cl fp)⟩
theorem pn_lc {elt : Expr} {scope : Scope} {y : Str} {j : Nat} {items ys : List PyData} (hc : X.calm = true) (hN : X.N.Nodup) (hw : PWs X δ ω tg iter items) (hl : ys.length = items.length) (ok : BlkOk X.N X.env.scope scope [(y, j)])
    (hg : ∀ (s : Shared) (H : Hp) (C : Addr) (cl : List (Str × Addr)) (fp : List Addr), PG (X.blk s H scope (compEnvC scope cl C X.env) fp) tg (gName j))
    (he : ∀ (i : Nat) (d y : PyData), items[i]? = some d → ys[i]? = some y → ∀ D o (s : Shared) (H : Hp) (C : Addr) (cl : List (Str × Addr)) (fp : List Addr), PD (X.blk s H scope (compEnvC scope cl C X.env) fp) (δ.set j (some (.im d))) (omD ω D o) elt y)
    (hz : items.length ≤ 10000) (hs : ∀ x, foldedSetIterable iter X.env x = pure x := by intro _; rfl) : PN X δ ω (.ListComp elt [⟨tg, iter, [], 0⟩] scope pos) ys := fun σ H rl Q k => by
  obtain ⟨wi, h1, h2⟩ := hw
  refine we (pe_lc (own := [(y, j)]) hc hN h1 ok hg (fun _ _ _ _ _ => pts_nil) (fun s H0 C cl fp => pe_blk s H0 C cl fp) hs) ?_
  exact lc_data rl (fun R kk => h2 σ H rl R kk) hl hz (fun i d y hd hy D o σ' H' rl' Q' k' s H0 C cl fp => he i d y hd hy D o s H0 C cl fp σ' H' rl' Q' k') k
end
end FP

namespace FP
open PySem PySem.Spec PyProof.Rows L2
/-! ### statements -/
abbrev osA (ω : Om) : List Addr := ω.os.map (·.1)
structure Stp (T : List (Addr × Str)) (ω ω' : Om) (H H' : Hp) : Prop where
  keep : ∀ b o, H b = some o → b ∉ osA ω → Pt T o → H' b = some o
  new : ∀ a, a ∈ osA ω' → a ∈ osA ω ∨ ∀ o, H a = some o → ¬ Pt T o
  ps : ω'.ps = ω.ps
  tab : LamX.Tabs T H → LamX.Tabs T H'
theorem Stp.of {T : List (Addr × Str)} {ω : Om} {H H' : Hp} (s : Same H H') : Stp T ω ω H H' := ⟨fun b o h _ _ => s b o h, fun a h => .inl h, rfl, fun t => t.ext s⟩
theorem Stp.refl {T : List (Addr × Str)} {ω : Om} {H : Hp} : Stp T ω ω H H := .of (Same.refl H)
theorem Stp.trans {T : List (Addr × Str)} {ω ω1 ω2 : Om} {H H1 H2 : Hp} (a : Stp T ω ω1 H H1) (b : Stp T ω1 ω2 H1 H2) : Stp T ω ω2 H H2 := by
  refine ⟨fun c o h n p => ?_, fun c h => ?_, b.ps.trans a.ps, fun t => b.tab (a.tab t)⟩
  · refine b.keep c o (a.keep c o h n p) (fun z => ?_) p
    rcases a.new c z with q | q
    · exact n q
    · exact q o h p
  · rcases b.new c h with q | q
    · exact a.new c q
    · by_cases hc : c ∈ osA ω
      · exact .inl hc
      · exact .inr fun o h p => q o (a.keep c o h hc p) p
/-- what was seen is seen behind a step -/
theorem Stp.seen {T : List (Addr × Str)} {ω ω' : Om} {H H' : Hp} (s : Stp T ω ω' H H') : Ke T (hid (ads ω) H) (hid (ads ω') H') := fun b o h p => by
  obtain ⟨n, e⟩ := hid_out h
  have n2 : b ∉ osA ω := fun z => n (List.mem_append_right _ z)
  refine hid_of (fun z => ?_) (s.keep b o e n2 p)
  rcases List.mem_append.mp z with q | q
  · rw [s.ps] at q
    exact n (List.mem_append_left _ q)
  · rcases s.new b q with q | q
    · exact n2 q
    · exact q o e p
inductive Out where
  | nx (δ : De) (ω : Om)
  | rt (r : Sd) (ω : Om)
  | ex (C : Addr) (ω : Om)
  | bk (δ : De) (ω : Om)
  | ct (δ : De) (ω : Om)
structure Kt (X : Cx) (W : WX) (T : List (Addr × Str)) (ω : Om) (H : Hp) (D : Ends) (R : Out → Prop) : Prop where
  nx : ∀ δ' ω' σ' H', R (.nx δ' ω') → Stp T ω ω' H H' → Rl X.K H' σ' δ' ω' → D.nx σ' H'
  rt : ∀ r ω' v H', R (.rt r ω') → Stp T ω ω' H H' → Ro X.K H' ω' → SdV X.K (hid (ads ω') H') r v → D.rt v H'
  ex : ∀ C ω' σ' H', R (.ex C ω') → Stp T ω ω' H H' → Ro X.K H' ω' → W (.ref C) none σ' H'
  bk : ∀ δ' ω' σ' H', R (.bk δ' ω') → Stp T ω ω' H H' → Rl X.K H' σ' δ' ω' → D.bk σ' H'
  ct : ∀ δ' ω' σ' H', R (.ct δ' ω') → Stp T ω ω' H H' → Rl X.K H' σ' δ' ω' → D.ct σ' H'
theorem Kt.step {X : Cx} {W : WX} {T : List (Addr × Str)} {ω ω1 : Om} {H H1 : Hp} {D : Ends} {R : Out → Prop} (k : Kt X W T ω H D R) (s : Stp T ω ω1 H H1) : Kt X W T ω1 H1 D R :=
  ⟨fun δ' ω' σ' H' r q l => k.nx δ' ω' σ' H' r (s.trans q) l, fun r ω' v H' h q l z => k.rt r ω' v H' h (s.trans q) l z, fun C ω' σ' H' h q l => k.ex C ω' σ' H' h (s.trans q) l, fun δ' ω' σ' H' r q l => k.bk δ' ω' σ' H' r (s.trans q) l, fun δ' ω' σ' H' r q l => k.ct δ' ω' σ' H' r (s.trans q) l⟩
def S1 (X : Cx) (W : WX) (T : List (Addr × Str)) (st : Stmt) (δ : De) (ω : Om) (R : Out → Prop) : Prop := ∀ σ H D, Rl X.K H σ δ ω → LamX.Tabs T H → Kt X W T ω H D R → wps X st D σ H
def SD (X : Cx) (W : WX) (T : List (Addr × Str)) (ss : List Stmt) (δ : De) (ω : Om) (R : Out → Prop) : Prop := ∀ σ H D, Rl X.K H σ δ ω → LamX.Tabs T H → Kt X W T ω H D R → wpss X ss D σ H
/-- an expression that may write, or raise -/
def EX (X : Cx) (W : WX) (T : List (Addr × Str)) (e : Expr) (δ : De) (ω : Om) (R : Out → Prop) : Prop := ∀ σ H, Rl X.K H σ δ ω → LamX.Tabs T H → ∀ Q : VK,
  (∀ r ω' v H', R (.rt r ω') → Stp T ω ω' H H' → Rl X.K H' σ δ ω' → SdV X.K (hid (ads ω') H') r v → Q v H') → (∀ C ω' σ' H', R (.ex C ω') → Stp T ω ω' H H' → Ro X.K H' ω' → W (.ref C) none σ' H') → wpe X e σ H Q
/-- then the rest -/
def Nxt (X : Cx) (W : WX) (T : List (Addr × Str)) (ss : List Stmt) (R : Out → Prop) : Out → Prop
  | .nx δ ω => SD X W T ss δ ω R
  | o => R o
/-- the value goes to what follows -/
def Val1 (V : Sd → Om → Prop) (R : Out → Prop) : Out → Prop
  | .rt r ω => V r ω
  | .ex C ω => R (.ex C ω)
  | _ => False
section
variable {X : Cx} {W : WX} {T : List (Addr × Str)} {δ : De} {ω : Om} {a b c e tg iter : Expr} {es r : List Expr} {d da db dc dz : PyData} {ds : List PyData} {pos p : Pos} {k : Nat} {x : Str} {R : Out → Prop} {st : Stmt} {ss sa sb : List Stmt}
theorem sd_nil (h : R (.nx δ ω)) : SD X W T [] δ ω R := fun σ H D rl t k => wss pss_nil (k.nx δ ω σ H h .refl rl)
theorem sd_cons (h : S1 X W T st δ ω (Nxt X W T ss R)) : SD X W T (st :: ss) δ ω R := fun σ H D rl t k =>
  wss (pss_cons ps_w pss_w) (h σ H _ rl t ⟨fun δ' ω' σ' H' z q l => z σ' H' D l (q.tab t) (k.step q), k.rt, k.ex, k.bk, k.ct⟩)
theorem PD.ex (h : PD X δ ω e d) (hR : R (.rt (.im d) ω)) : EX X W T e δ ω R := fun σ H rl t Q q _ => h σ H rl Q fun v H' s dv => q _ ω v H' hR (.of s) (rl.mono s) dv
theorem s1_set (i : Nat) {x : Str} {pos' : Pos} (he : EX X W T e δ ω (Val1 (fun r ω' => R (.nx (δ.set i (some r)) ω')) R)) (hN : X.N.Nodup) (hi : X.N[i]? = some x := by rfl) (hx : Loc X.env.scope x := by first | exact Or.inl rfl | exact Or.inr rfl) (hs : swapsWith e (some (.Name x pos')) pos.line X.env = pure false := by rfl)
    (hf : X.fn x = true ∨ X.env.scope.names.lookup x = some .local := by first | exact .inl rfl | exact .inr rfl | assumption) : S1 X W T (.Assign [.Name x pos'] e pos) δ ω R := fun σ H D rl t k =>
  ws (ps_set hN hi hx pe_w hs hf) (he σ H rl t _ (fun r ω' v H' z q l dv => k.nx _ ω' _ H' z q (l.set dv)) (fun C ω' σ' H' z q l => k.ex C ω' σ' H' z q l))
theorem sd_set (i : Nat) {x : Str} {pos' : Pos} (he : PD X δ ω e d) (hk : SD X W T ss (δ.set i (some (.im d))) ω R) (hN : X.N.Nodup) (hi : X.N[i]? = some x := by rfl) (hx : Loc X.env.scope x := by first | exact Or.inl rfl | exact Or.inr rfl) (hs : swapsWith e (some (.Name x pos')) pos.line X.env = pure false := by rfl)
    (hf : X.fn x = true ∨ X.env.scope.names.lookup x = some .local := by first | exact .inl rfl | exact .inr rfl | assumption) : SD X W T (.Assign [.Name x pos'] e pos :: ss) δ ω R :=
  sd_cons (s1_set i (he.ex (show Val1 _ _ _ from hk)) hN hi hx hs hf)
/-- a new list of one's own -/
theorem sd_own (i : Nat) {x : Str} {pos' : Pos} (he : PN X δ ω e ds) (hk : ∀ D, SD X W T ss (δ.set i (some (.ad D))) (omD ω D (.lst (ds.map .im))) R) (hN : X.N.Nodup) (hi : X.N[i]? = some x := by rfl) (hx : Loc X.env.scope x := by first | exact Or.inl rfl | exact Or.inr rfl) (hs : swapsWith e (some (.Name x pos')) pos.line X.env = pure false := by rfl)
    (hf : X.fn x = true ∨ X.env.scope.names.lookup x = some .local := by first | exact .inl rfl | exact .inr rfl | assumption) : SD X W T (.Assign [.Name x pos'] e pos :: ss) δ ω R :=
  sd_cons fun σ H D rl t k => ws (ps_set hN hi hx pe_w hs hf) (he σ H rl _ fun q vs H' s n hv dv => by
    have nq := new_out rl.ro.there n
    have rl2 : Rl X.K H' σ δ (omD ω q (.lst (ds.map .im))) := rl.omD n s hv (dpam (hid_more fun b h => List.mem_cons.mpr (ads_omD.mp h)) dv)
    exact k.nx _ _ _ H' (hk q) ⟨fun b o h _ _ => s b o h, fun a h => by
      rcases List.mem_cons.mp (show a ∈ q :: ω.os.map (·.1) from h) with z | z
      · exact .inr fun o ho => by
          rw [z, n] at ho
          cases ho
      · exact .inl z, rfl, fun t => t.ext s⟩ (rl2.set (x := .ad q) (v := .ref q) rfl))
/-- x = [elt for tg in iter], on one line, x a local -/
theorem sd_setLc (i : Nat) {x : Str} {py cpos : Pos} {elt : Expr} {scope : Scope} {y : Str} {j : Nat} {items ys : List PyData} (hc : X.calm = true) (hN : X.N.Nodup) (hw : PWs X δ ω tg iter items) (hl : ys.length = items.length) (ok : BlkOk X.N X.env.scope scope [(y, j)])
    (hg : ∀ (s : Shared) (H : Hp) (C : Addr) (cl : List (Str × Addr)) (fp : List Addr), PG (X.blk s H scope (compEnvC scope cl C X.env) fp) tg (gName j))
    (he : ∀ (i : Nat) (d y : PyData), items[i]? = some d → ys[i]? = some y → ∀ D o (s : Shared) (H : Hp) (C : Addr) (cl : List (Str × Addr)) (fp : List Addr), PD (X.blk s H scope (compEnvC scope cl C X.env) fp) (δ.set j (some (.im d))) (omD ω D o) elt y)
    (hz : items.length ≤ 10000) (hsw : swapsWith (.ListComp elt [⟨tg, iter, [], 0⟩] scope cpos) (some (.Name x py)) pos.line X.env = pure true) (hk : SD X W T ss (δ.set i (some (.im (.list ys)))) ω R)
    (hy : X.N[i]? = some x := by rfl) (hyl : X.env.scope.names.lookup x = some .local := by rfl) (hs : ∀ x, foldedSetIterable iter X.env x = pure x := by intro _; rfl) : SD X W T (.Assign [.Name x py] (.ListComp elt [⟨tg, iter, [], 0⟩] scope cpos) pos :: ss) δ ω R := by
  obtain ⟨wi, h1, h2⟩ := hw
  refine sd_cons fun σ H D rl t k => ws (ps_setLc (i := i) (own := [(y, j)]) hc hN hy hyl hsw h1 ok hg (fun _ _ _ _ _ => pts_nil) (fun s H0 C cl fp => pe_blk s H0 C cl fp) hs) ?_
  refine lc_data rl (fun R kk => h2 σ H rl R kk) hl hz (fun i d y hd hy D o σ' H' rl' Q' k' s H0 C cl fp => he i d y hd hy D o s H0 C cl fp σ' H' rl' Q' k') (fun p vs H' s n hv dv => ?_)
  exact k.nx _ ω _ H' hk (.of s) ((rl.mono s).set (x := .im (.list ys)) (v := .ref p) (.lst (SqL.of (hid_of (new_out rl.ro.there n) hv)) (dpam hid_cons dv)))
theorem sd_ret (he : PD X δ ω e d) (hR : R (.rt (.im d) ω)) : SD X W T (.Return (some e) pos :: ss) δ ω R :=
  sd_cons fun σ H D rl t k => ws (ps_ret pe_w) (he σ H rl _ fun v H' s dv => k.rt _ ω v H' hR (.of s) (rl.ro.mono s) dv)
theorem sd_retX (he : EX X W T e δ ω R) : SD X W T (.Return (some e) pos :: ss) δ ω R :=
  sd_cons fun σ H D rl t k => ws (ps_ret pe_w) (he σ H rl t _ (fun r ω' v H' z q l dv => k.rt r ω' v H' z q l.ro dv) (fun C ω' σ' H' z q l => k.ex C ω' σ' H' z q l))
/-- a list of one's own is handed back -/
theorem sd_retL (he : PL X δ ω e ds) (hR : R (.rt (.im (.list ds)) ⟨ω.ps, []⟩)) (hps : ∀ p vs H, Ro X.K H ω → SqL X.K H p vs → SqL X.K (hid ω.ps H) p vs) : SD X W T (.Return (some e) pos :: ss) δ ω R :=
  sd_cons fun σ H D rl t k => ws (ps_ret pe_w) (he σ H rl _ fun q vs H' s hv dv => k.rt _ ⟨ω.ps, []⟩ (.ref q) H' hR ⟨fun b o h _ _ => s b o h, fun a h => (List.not_mem_nil h).elim, rfl, fun t => t.ext s⟩ (Ro.nil (there_mono rl.ro.th s)) (by
    show Dp X.K (hid (ads ⟨ω.ps, []⟩) H') (.ref q) (.list ds)
    rw [ads_nil]
    exact .lst (hps q vs H' (rl.ro.mono s) hv) (dpam (hid_more fun b h => List.mem_append_left _ h) dv)))
theorem sd_expr (he : PD X δ ω e d) (hk : SD X W T ss δ ω R) (hs : swapsWith e none pos.line X.env = pure false := by rfl) : SD X W T (.Expr e pos :: ss) δ ω R :=
  sd_cons fun σ H D rl t k => ws (ps_expr pe_w hs) (he σ H rl _ fun v H' s dv => k.nx δ ω σ H' hk (.of s) (rl.mono s))
theorem sd_exprX (he : EX X W T e δ ω (Val1 (fun _ ω' => SD X W T ss δ ω' R) R)) (hs : swapsWith e none pos.line X.env = pure false := by rfl) : SD X W T (.Expr e pos :: ss) δ ω R :=
  sd_cons fun σ H D rl t k => ws (ps_expr pe_w hs) (he σ H rl t _ (fun r ω' v H' z q l dv => k.nx δ ω' σ H' z q l) (fun C ω' σ' H' z q l => k.ex C ω' σ' H' z q l))
theorem sd_setX (i : Nat) {x : Str} {pos' : Pos} (he : EX X W T e δ ω (Val1 (fun r ω' => SD X W T ss (δ.set i (some r)) ω' R) R)) (hN : X.N.Nodup) (hi : X.N[i]? = some x := by rfl) (hx : Loc X.env.scope x := by first | exact Or.inl rfl | exact Or.inr rfl) (hs : swapsWith e (some (.Name x pos')) pos.line X.env = pure false := by rfl)
    (hf : X.fn x = true ∨ X.env.scope.names.lookup x = some .local := by first | exact .inl rfl | exact .inr rfl | assumption) : SD X W T (.Assign [.Name x pos'] e pos :: ss) δ ω R :=
  sd_cons (s1_set i (fun σ H rl t Q q q2 => he σ H rl t Q (fun r ω' v H' z => q r ω' v H' z) (fun C ω' σ' H' z => q2 C ω' σ' H' z)) hN hi hx hs hf)
theorem sd_if {kk : Bool} (h : PTd X δ ω c kk) (h1 : kk = true → SD X W T sa δ ω (Nxt X W T ss R)) (h2 : kk = false → SD X W T sb δ ω (Nxt X W T ss R)) : SD X W T (.If c sa sb pos :: ss) δ ω R :=
  sd_cons fun σ H D rl t k => ws (ps_if pt_w pss_w pss_w) (h σ H rl _ fun H' s => by
    cases kk with
    | true => exact iteT (h1 rfl σ H' D (rl.mono s) (t.ext s) (k.step (.of s)))
    | false => exact iteF (h2 rfl σ H' D (rl.mono s) (t.ext s) (k.step (.of s))))
theorem sd_ifF (h : PTd X δ ω c false) (h2 : SD X W T ss δ ω R) : SD X W T (.If c sa [] pos :: ss) δ ω R := sd_if h (fun z => by cases z) fun _ => sd_nil h2
theorem sd_ifT (h : PTd X δ ω c true) (h1 : SD X W T sa δ ω (Nxt X W T ss R)) : SD X W T (.If c sa sb pos :: ss) δ ω R := sd_if h (fun _ => h1) fun z => by cases z
/-- both ways come together -/
def Jn (J : De → Om → Prop) (R : Out → Prop) : Out → Prop
  | .nx δ ω => J δ ω
  | o => R o
theorem SD.imp {R' : Out → Prop} (h : SD X W T ss δ ω R') (hi : ∀ o, R' o → R o) : SD X W T ss δ ω R := fun σ H D rl t k =>
  h σ H D rl t ⟨fun δ' ω' σ' H' z => k.nx δ' ω' σ' H' (hi _ z), fun r ω' v H' z => k.rt r ω' v H' (hi _ z), fun C ω' σ' H' z => k.ex C ω' σ' H' (hi _ z), fun δ' ω' σ' H' z => k.bk δ' ω' σ' H' (hi _ z), fun δ' ω' σ' H' z => k.ct δ' ω' σ' H' (hi _ z)⟩
theorem sd_ifJ {kk : Bool} (J : De → Om → Prop) (h : PTd X δ ω c kk) (h1 : kk = true → SD X W T sa δ ω (Jn J R)) (h2 : kk = false → SD X W T sb δ ω (Jn J R)) (hk : ∀ δ' ω', J δ' ω' → SD X W T ss δ' ω' R) : SD X W T (.If c sa sb pos :: ss) δ ω R := by
  have im : ∀ o, Jn J R o → Nxt X W T ss R o := fun o z => by
    cases o with
    | nx δ' ω' => exact hk δ' ω' z
    | _ => exact z
  exact sd_if h (fun e => (h1 e).imp im) (fun e => (h2 e).imp im)
/-- a, b, .. = a tuple -/
def setAll : De → List Nat → List PyData → De
  | δ, i :: is, d :: ds => setAll (δ.set i (some (.im d))) is ds
  | δ, _, _ => δ
def gAll : List Nat → TGs
  | [] => gNil
  | i :: is => gCons (gName i) (gAll is)
theorem gAll_ok {K : PySem.W.Frag} {H : Hp} {ω : Om} {Q : L2.St → Hp → Prop} : ∀ {is : List Nat} {ds : List PyData} {vs : List V} {σ : L2.St} {δ : De}, Rl K H σ δ ω → DpAll K (hid (ads ω) H) vs ds → is.length = ds.length → (∀ σ', Rl K H σ' (setAll δ is ds) ω → Q σ' H) → gAll is vs σ H Q
  | [], [], _, σ, δ, rl, .nil, _, k => ⟨rfl, k σ rl⟩
  | i :: is, d :: ds, v :: vs, σ, δ, rl, .cons h1 h2, hl, k => ⟨v, vs, rfl, gAll_ok (rl.set (x := .im d) h1) h2 (Nat.succ.inj hl) k⟩
theorem sd_unp (is : List Nat) {ts : List Expr} {n kk : Nat} {p' : Pos} (he : PD X δ ω e (.tuple ds)) (hg : PG X (.Tuple ts kk p') (gTup X.K n (gAll is))) (hn : ds.length = n) (hi : is.length = n) (hk : SD X W T ss (setAll δ is ds) ω R)
    (hs : swapsWithSole [.Tuple ts kk p'] e pos.line X.env = pure false := by rfl) (hw : swappedStores [.Tuple ts kk p'] e X.env = pure none := by rfl) : SD X W T (.Assign [.Tuple ts kk p'] e pos :: ss) δ ω R :=
  sd_cons fun σ H D rl t k => ws (ps_asg pe_w hg hs hw) (he σ H rl _ fun v H' s dv => by
    cases dv with
    | tup h1 h2 => exact ⟨_, _, rfl, same_sqt hid_sub h1, by rw [dpa_len h2]; exact hn, gAll_ok (rl.mono s) h2 (hi.trans hn.symm) fun σ' l => k.nx _ ω σ' H' hk (.of s) l⟩)
/-- x.append(e), x the list of one's own that was made last -/
theorem sd_app (i : Nat) {x : Str} {p1 apos cpos : Pos} {D : Addr} {xs : List PyData} (he : PD X δ (omD ω D (.lst (xs.map .im))) e d) (hk : SD X W T ss δ (omD ω D (.lst ((xs ++ [d]).map .im))) R) (hz : xs.length < 10000)
    (hd : δ[i]? = some (some (.ad D)) := by rfl) (hN : X.N[i]? = some x := by rfl) (hv : Vis X.env.scope x := by first | exact Or.inl rfl | exact Or.inr (Or.inl rfl) | exact Or.inr (Or.inr rfl))
    (h1 : (x == ("__debug__" : Str)) = false := by decide) (h2 : (x == ("__classdict__" : Str)) = false := by decide)
    (hs : swapsWith (.Call (.Attribute (.Name x p1) "append" apos) [e] [] cpos) none pos.line X.env = pure false := by rfl)
    (hbase : attributeBase (.Name x p1) "append" X.env (eval (.Name x p1) X.env) = eval (.Name x p1) X.env := by rfl)
    (hfew : ((backTo cpos (starEach [e] X.env)).all (fun x => !x.1) && (backToKw cpos (keywordEach [] X.env)).all (fun x => x.1.isSome)
      && decide (([e] : List Expr).length + ([] : List Keyword).length + (if ([] : List Keyword).isEmpty then 0 else 1) < 30)) = true := by rfl)
    (hline : (apos.endLine == cpos.line) = true := by rfl) (hst : starEach [e] X.env = (false, eval e X.env) :: starEach [] X.env := by rfl) :
    SD X W T (.Expr (.Call (.Attribute (.Name x p1) "append" apos) [e] [] cpos) pos :: ss) δ (omD ω D (.lst (xs.map .im))) R :=
  sd_cons fun σ H Dd rl t k => by
    obtain ⟨v, e1, e2⟩ := rl.sl i _ hd
    have e2 : v = .ref D := e2
    subst e2
    obtain ⟨vs, e3, e4⟩ := rl.ro.ob D _ List.mem_cons_self
    refine ws (ps_expr (pe_bm PySem.F.plainAttrs_list PySem.F.slot_list_append PySem.F.type_list_append mt_append (pe_var hN hv h1 h2) (pa_cons pe_w pa_nil hst) hbase hfew hline hst) hs) ⟨_, e1, .inl ⟨rfl, vs, SqL.of e3⟩, ?_⟩
    refine he σ H rl _ fun y H1 s1 d1 => ⟨D, vs, y, rfl, rfl, s1 D _ e3, ?_, ?_⟩
    · rw [dpa_len (dpa_im e4)]
      exact Nat.lt_of_lt_of_le hz (by rw [sizeLine_eq]; decide)
    · have rl1 := rl.mono s1
      have hh : Same (hid (ads (omD ω D (.lst (xs.map .im)))) H1) (hid (ads (omD ω D (.lst ((xs ++ [d]).map .im)))) (upd H1 D (.lst (vs ++ [y])))) := hid_upd
      refine k.nx δ _ σ _ hk ⟨fun b o h n _ => ?_, fun a h => .inl h, rfl, fun t => ?_⟩ ⟨rl1.len, fun j r h => ?_, ?_, rl1.ro.nd, fun a h z => ?_⟩
      · have nb : b ≠ D := fun z => n (by rw [z]; exact List.mem_cons_self)
        rw [upd_ne nb]
        exact s1 b o h
      · have t1 := t.ext s1
        intro q hq
        obtain ⟨ps, a1, a2, a3⟩ := t1 q hq
        have e5 : H1 D = some (.lst vs) := s1 D _ e3
        refine ⟨ps, by rw [upd_ne (ne_of a1 e5 (by intro z; cases z))]; exact a1, a2, fun p' cv hc => ?_⟩
        obtain ⟨c0, b1, b2⟩ := a3 p' cv hc
        refine ⟨c0, b1, by rw [upd_ne (ne_of b2 e5 (by intro z; unfold LamX.CodeO at z; cases z))]; exact b2⟩
      · obtain ⟨v, h1, h2⟩ := rl1.sl j r h
        exact ⟨v, h1, sdv_mono hh h2⟩
      · intro a o h
        rcases List.mem_cons.mp h with q | q
        · cases q
          exact ⟨vs ++ [y], upd_same, im_dpa (dpa_app (dpam hh (dpam (hid_same s1) (dpa_im e4))) (.cons (dpm hh d1) .nil))⟩
        · have na : a ≠ D := fun z => by
            have nd := rl1.ro.nd
            have nd2 : (D :: ω.os.map (·.1)).Nodup := nd
            exact (List.nodup_cons.mp nd2).1 (List.mem_map.mpr ⟨(a, o), q, z⟩)
          have g := rl1.ro.ob a o (List.mem_cons_of_mem _ q)
          exact odv_keep (fun w => sdv_mono hh w) (fun u _ g1 => by rw [upd_ne na]; exact g1) g
      · have hn := rl1.ro.th a h
        by_cases za : a = D
        · rw [za, upd_same] at z
          cases z
        · rw [upd_ne za] at z
          exact hn z
/-- what follows a turn -/
def Turn1 (inv : Nat → De → Om → Prop) (i : Nat) (B R : Out → Prop) : Out → Prop
  | .nx δ ω => inv (i + 1) δ ω
  | .ct δ ω => inv (i + 1) δ ω
  | .bk δ ω => B (.nx δ ω)
  | o => R o
theorem sd_for (j : Nat) {items : List PyData} (inv : Nat → De → Om → Prop) (hw : PWk X δ ω tg iter items) (h0 : inv 0 δ ω)
    (hb : ∀ i d δ' ω', items[i]? = some d → inv i δ' ω' → SD X W T sa (δ'.set j (some (.im d))) ω' (Turn1 inv i (Nxt X W T ss R) R))
    (hd : ∀ δ' ω', inv items.length δ' ω' → SD X W T ss δ' ω' R) (hg : PG X tg (gName j)) (hp : PassesOwn (model X.prog X.w) X.A X.env X.xe) (hc : X.calm = true) (hs : ∀ x, foldedSetIterable iter X.env x = pure x := by intro _; rfl) : SD X W T (.For tg iter sa [] pos :: ss) δ ω R := by
  obtain ⟨wi, h1, h2⟩ := hw
  refine sd_cons fun σ H D rl t k => ws (ps_for hp hc h1 hg pss_w hs) (h2 σ H rl _ fun J H1 s1 w => ?_)
  refine ⟨fun i m σ' H' => ∃ δ' ω', m = items.length - i ∧ i ≤ items.length ∧ inv i δ' ω' ∧ Stp T ω ω' H1 H' ∧ Rl X.K H' σ' δ' ω', ⟨items.length, δ, ω, by omega, Nat.zero_le _, h0, .refl, rl.mono s1⟩, ?_⟩
  rintro i m σ' H' ⟨δ', ω', em, hi, iv, st, rl'⟩
  obtain ⟨go, stop, yld⟩ := w T H' (fun b o z p => (hid_out (st.seen b o z p)).2)
  have k1 := k.step (Stp.of s1 : Stp T ω ω H H1)
  by_cases hlt : i < items.length
  · refine .inr ⟨go i hlt, fun σ2 H2 => ∃ δ2 ω2, inv (i + 1) δ2 ω2 ∧ Stp T ω ω2 H1 H2 ∧ Rl X.K H2 σ2 δ2 ω2, fun σ2 H2 ⟨δ2, ω2, a1, a2, a3⟩ => ⟨items.length - (i + 1), by omega, δ2, ω2, rfl, hlt, a1, a2, a3⟩, fun x H2 hy => ?_⟩
    obtain ⟨e2, d, ed, dx⟩ := yld i x H2 hlt hy
    subst e2
    refine hb i d δ' ω' ed iv _ _ _ (rl'.set (x := .im d) (dp_ke st.seen d x dx)) (st.tab (t.ext s1)) ?_
    have k2 := k1.step st
    exact ⟨fun δ2 ω2 σ2 H2 z q l => ⟨δ2, ω2, z, st.trans q, l⟩, fun r ω2 v H2 z q l dv => k2.rt r ω2 v H2 z q l dv, fun C ω2 σ2 H2 z q l => k2.ex C ω2 σ2 H2 z q l, fun δ2 ω2 σ2 H2 z q l => k2.nx δ2 ω2 σ2 H2 z q l, fun δ2 ω2 σ2 H2 z q l => ⟨δ2, ω2, z, st.trans q, l⟩⟩
  · have e : i = items.length := by omega
    subst e
    exact .inl ⟨stop, (k1.step st).nx δ' ω' σ' H' (hd δ' ω' iv) .refl rl'⟩
/-- a call that may raise -/
theorem ex_call {fr : List PyData → Rs → Prop} {rr : Rs} (G : DefOk X.prog X.w X.K X.mg X.base k x fr) (hr : Room k X.A) (tk : L2N.Takes X W) (ha : PDs X δ ω (a :: es) ds) (hf : fr ds rr) (hR : match rr with | .ok d => R (.rt (.im d) ω) | .er C => R (.ex C ω)) (hg : Gl X x := by rfl)
    (hdb : (x == ("__debug__" : Str)) = false := by decide) (he : starEach (a :: es) X.env = (false, eval a X.env) :: starEach es X.env := by rfl) (hpl : (backTo pos (starEach es X.env)).any (·.1) = false := by rfl) : EX X W T (.Call (.Name x p) (a :: es) [] pos) δ ω R := fun σ H rl t Q q q2 => by
  obtain ⟨f, fd, ps, F, m, kp, b⟩ := G.ex
  refine we (pe_callS (E := WE W) F hr hg m kp b (fun σ => L2N.passAt tk σ) pa_w hdb he hpl) (ha σ H rl _ fun vs H1 s1 d1 => ?_)
  refine ⟨ads ω, ds, rr, there_mono rl.ro.there s1, d1, hf, ?_⟩
  cases rr with
  | ok d => exact fun v H' s' d' => q _ ω v H' hR (.of (s1.trans s')) (rl.mono (s1.trans s')) d'
  | er C => exact fun H' s' => q2 C ω σ H' hR (.of (s1.trans s')) (rl.ro.mono (s1.trans s'))
/-! ### a def -/
def startD (N : List Str) (ds : List PyData) : De := ds.map (fun d => some (.im d)) ++ List.replicate (N.length - ds.length) none
theorem start_rl {K : PySem.W.Frag} {H : Hp} {ps : List Addr} {N : List Str} {vs : List V} (h : DpAll K (hid ps H) vs ds) (hp : ∀ a ∈ ps, H a ≠ none) : Rl K H (L2.start N vs) (startD N ds) ⟨ps, []⟩ := by
  have hl := dpa_len h
  refine ⟨?_, fun i r hi => ?_, Ro.nil hp⟩
  · unfold L2.start startD
    rw [List.length_append, List.length_append, List.length_map, List.length_map, List.length_replicate, List.length_replicate, hl]
  · rw [ads_nil]
    unfold startD at hi
    by_cases hlt : i < ds.length
    · rw [List.getElem?_append_left (by rw [List.length_map]; exact hlt), List.getElem?_map, List.getElem?_eq_getElem hlt] at hi
      cases hi
      obtain ⟨v, h1, h2⟩ := dpa_get h (List.getElem?_eq_getElem hlt)
      refine ⟨v, ?_, h2⟩
      unfold L2.start
      rw [List.getElem?_append_left (by rw [List.length_map, hl]; exact hlt), List.getElem?_map, h1]
      rfl
    · rw [List.getElem?_append_right (by rw [List.length_map]; omega)] at hi
      have := List.getElem?_eq_some_iff.mp hi
      obtain ⟨h1, h2⟩ := this
      rw [List.getElem_replicate] at h2
      cases h2
def Fin (r : Rs) : Out → Prop
  | .rt (.im d) _ => r = .ok d
  | .nx _ _ => r = .ok .none
  | .ex C _ => r = .er C
  | _ => False
abbrev WOf (E : XK) : WX := fun cls d _ H => E cls d H
theorem def_ok {P : Program} {w : World} {K : PySem.W.Frag} {mg : Str → Option Value} {base : Heap} {x qual : Str} {params : Arguments} {body : List Stmt} {scope : Scope} {kws : List (Str × V)} {f : Addr} {fd : FuncData} {N ps : List Str} {k : Nat} {fr : List PyData → Rs → Prop}
    (F : FunD K x qual params body scope [] kws f fd) (hm : mg x = some (.ref f)) (S : FnScope N ps scope) (hb : ∀ (kV doc pm : Value) (an : Option Addr) (cdv ct : Value) (us : List Value), us.length = ps.length → bindArgs (PySem.W.fnOf x qual params body scope .none kV doc pm an cdv ct) ⟨us, []⟩ = pure (ps.zip us))
    (len : ∀ ds r, fr ds r → ds.length = ps.length)
    (hbody : ∀ (cdv : Value) (A : Around) (outer : List Env) (s : Shared) (H : Hp) (E : XK) (qs : List Addr) (ds : List PyData) (r : Rs), Room k (A.deeper (envOfC qual scope s.heap.objs.size f cdv)) → fr ds r →
      SD (cxOf (L2N.CX P w) P w K mg base N qual scope f cdv A outer s H E) (WOf E) [] body (startD N ds) ⟨qs, []⟩ (Fin r)) : DefOk P w K mg base (k + 1) x fr := by
  refine ⟨f, fd, ps, F.ok S (fun vs H Q E h => ?_) (fun cdv A outer s H vs Q E hr h => ?_), hm, F.kp, F.bindsN hb⟩
  · obtain ⟨qs, ds, r, _, h2, h3, _⟩ := h
    rw [dpa_len h2]
    exact len ds r h3
  · obtain ⟨qs, ds, r, h1, h2, h3, h4⟩ := h
    refine ⟨_, pss_w, hbody cdv A outer s H E qs ds r hr h3 _ _ _ (start_rl h2 h1) (fun _ z => nomatch z) ?_⟩
    have same : ∀ {ω' : Om} {H' : Hp}, Stp [] ⟨qs, []⟩ ω' H H' → Same H H' := fun st b o e => st.keep b o e (fun z => nomatch z) (.inl rfl)
    refine ⟨fun δ' ω' σ' H' z st l => ?_, fun r' ω' v H' z st l dv => ?_, fun C ω' σ' H' z st l => ?_, fun _ _ _ _ z => False.elim z, fun _ _ _ _ z => False.elim z⟩
    · have z : r = .ok .none := z
      subst z
      exact h4 .non H' (same st) .non
    · cases r' with
      | im d =>
        have z : r = .ok d := z
        subst z
        exact h4 v H' (same st) (dpm (hid_more fun b hb => List.mem_append_left _ (by rw [st.ps]; exact hb)) dv)
      | ad a => exact False.elim z
    · have z : r = .er C := z
      subst z
      exact h4 H' (same st)
end
end FP

namespace FP
open PySem PySem.Spec PyProof.Rows L2
/-- a tuple times a number below 2: itself by 1, else an empty one -/
def fewSpec (l : Addr) (o : Obj) (k : Int) : PySem.Spec := fun _ R s =>
  s.heap.get? l = some o ∧ (k = 1 → R (.ok (.ret (.ref l))) s) ∧
    (k ≠ 1 → R (.ok (.ret (.ref s.heap.objs.size))) { s with heap := s.heap.push { cls := .type "tuple", data := .seq #[] } })
theorem times_few {l : Addr} {its : Array Value} {n : Nat} {dd : Option Addr} {sl : Array (Option Value)} {k : Int} {t : Tok}
    (ne : its.isEmpty = false) (small : k ≤ 1) (low : -1000 ≤ k) :
    Meets (Builtin.«tuple.__mul__» ⟨[.ref l, .int k t], []⟩) (fewSpec l ⟨.type "tuple", dd, .seq its n, sl⟩ k) := by
  have inIx : ¬ ((decide (k < -(2 ^ 63)) || decide (k ≥ 2 ^ 63)) = true) := by
    rw [Bool.or_eq_true, decide_eq_true_iff, decide_eq_true_iff]
    omega
  have ix := AutoSeq1.idx_int
  refine .of_wp fun prog w A R ⟨hp, g, d, tk, os⟩ ⟨hl, same, new⟩ => ?_
  wp_walk using wpAny_loadPart' hl
  rw [if_neg inIx]
  wp_walk using wpAny_loadPart' hl
  by_cases e : k = 1
  · rw [if_pos (by rw [e, Bool.or_eq_true]; exact .inr rfl)]
    wp_walk using wpAny_loadPart' hl
    exact ⟨_, rfl, same e⟩
  · rw [if_neg (by rw [ne, Bool.false_or, beq_iff_eq]; exact e), if_pos (by rw [Bool.or_eq_true, decide_eq_true_iff]; omega)]
    wp_walk using wpAny_loadPart' hl
    exact ⟨_, rfl, new e⟩
/-- .. which is what the program's sign for it asks -/
theorem eval_few {prog : Program} {w : World} {A : Around} {Q E : Value → Shared → Prop} {s : Shared} {l : Addr} {its : Array Value} {n : Nat}
    {dd : Option Addr} {sl : Array (Option Value)} {k : Int} {t : Tok} (at_ : s.heap.get? l = some ⟨.type "tuple", dd, .seq its n, sl⟩)
    (ne : its.isEmpty = false) (small : k ≤ 1) (low : -1000 ≤ k) (same : k = 1 → Q (.ref l) s)
    (new : k ≠ 1 → Q (.ref s.heap.objs.size) { s with heap := s.heap.push { cls := .type "tuple", data := .seq #[] } }) :
    wpAny (model prog w) A (binaryOp .Mult (.ref l) (.int k t)) Q E s := by
  have isTup : s.TypeIs (.ref l) "tuple" := ⟨_, at_, rfl⟩
  have isInt := fun z : Shared => typeIs_int z k t
  have own : wpAny (model prog w) A (call (.builtin "tuple.__mul__") [.ref l, .int k t]) Q E s :=
    call_meets F.slot_tuple_mul isTup F.entry_tuple_mul (F.args_tuple_mul_2 _ _) (times_few ne small low) ⟨at_, same, new⟩
  have first := int_rmul_tuple k t l its n dd sl
  exact wpAny_binaryOp_repeat_ref (by decide) isTup isInt noFill_tuple_mul F.fills_int_mul F.slot_int_rmul repeat_tuple F.slot_int_index.lookup
    (call_meets F.slot_int_rmul (isInt s) F.entry_int_rmul (F.args_int_rmul_2 _ _) first ⟨at_, rfl, isTup, own⟩)

def rRepA (K : PySem.W.Frag) : R2 := fun x y H Q => ∃ l k xs, x = .ref l ∧ y = .int k ∧ SqT K H l xs ∧ xs ≠ [] ∧ -1000 ≤ k ∧ k ≤ 1000 ∧ xs.length ≤ 1000 ∧ (k = 1 → Q (.ref l) H) ∧ (k ≠ 1 → ∀ p, H p = none → Q (.ref p) (upd H p (.tup (List.replicate k.toNat xs).flatten)))
section
variable {X : Cx}
theorem op_repA : OpR X (binaryOp .Mult) (rRepA X.K) := by
  rintro pins s σ H x y v u Q I rx ry ⟨l, k, xs, rfl, rfl, tup, some, low, high, len, same, new⟩
  by_cases small : k ≤ 1
  case neg => exact op_repT pins s σ H _ _ v u Q I rx ry ⟨l, k, xs, rfl, rfl, tup, some, by omega, high, len, new (by omega)⟩
  cases rx
  rcases ry with ⟨t, rfl⟩
  rcases I.tuple tup with ⟨its, r, ⟨⟨c, dd, da, sl⟩, at_, isT, n, isS⟩, _⟩
  cases show c = _ from isT
  cases show da = _ from isS
  refine eval_few at_ ?_ small low (fun e => ⟨.ref l, H, I, rfl, same e⟩) fun e => ?_
  · match its, xs, r with
    | a :: b, _, _ => rfl
    | [], [], _ => exact absurd rfl some
  have none := new e
  rw [show k.toNat = 0 by omega] at none
  have I' := I.laid (t' := s.toks) (o := .tup []) (fun b o q => Heap.get?_push_of_some _ q) (Nat.le_refl _) ⟨Nat.zero_le _, [], .nil, IsTup.new _ _⟩
  exact ⟨.ref s.heap.objs.size, _, I', rfl, none _ (I.hok.fresh (Nat.le_refl _))⟩
/-- a text times an int -/
def rRepS : R2 := fun x y H Q => ∃ z k, x = .str z ∧ y = .int k ∧ -1000 ≤ k ∧ k ≤ 1000 ∧ z.length ≤ 1000 ∧ Q (.str ⟨(List.replicate k.toNat z.cps.toList).flatten.toArray⟩) H
theorem rep_foldl (a : Array Nat) : ∀ (m : Nat) (b : Array Nat), (List.foldl (fun x1 x2 => x1 ++ x2) b (List.replicate m a)) = b ++ (List.replicate m a.toList).flatten.toArray
  | 0, b => by simp
  | m + 1, b => by
    rw [List.replicate_succ, List.replicate_succ, List.foldl_cons, rep_foldl a m, List.flatten_cons]
    apply Array.ext'
    simp
theorem op_repS : OpR X (binaryOp .Mult) rRepS := by
  intro pins s σ H x y v u Q I rx ry h
  obtain ⟨z, k, rfl, rfl, h1, h2, hz, q⟩ := h
  obtain ⟨t, rfl⟩ := rx
  obtain ⟨t', rfl⟩ := ry
  have c0 : (decide (k < -(2 ^ 63 : Int)) || decide (k ≥ 2 ^ 63)) = false := by
    rw [decide_eq_false (by omega), decide_eq_false (by omega)] <;> rfl
  have hm : z.length * k.toNat ≤ 1000 * 1000 := Nat.mul_le_mul hz (by omega)
  refine PySem.P.mul_str c0 (fun h _ => ?_) (fun _ _ => ?_) ?_
  · have a1 : (1000 : Int) ≤ (2 ^ 63 - 1) / k := by
      rw [Int.le_ediv_iff_mul_le (by omega)]
      omega
    omega
  · show decide (z.length * k.toNat > sizeLine) = false
    rw [sizeLine_eq]
    exact decide_eq_false (by omega)
  · by_cases hk : k < 1
    · rw [if_pos hk]
      have e0 : k.toNat = 0 := by omega
      rw [e0] at q
      exact ⟨by decide, .str _, H, I.tok _, ⟨_, rfl⟩, q⟩
    · rw [if_neg hk]
      by_cases hc : (k == 1 || z.length == 0) = true
      · rw [if_pos hc]
        have ez : (⟨(List.replicate k.toNat z.cps.toList).flatten.toArray⟩ : Str) = z := by
          rcases (Bool.or_eq_true _ _).mp hc with e | e
          · have e1 : k = 1 := beq_iff_eq.mp e
            subst e1
            show (⟨(List.replicate 1 z.cps.toList).flatten.toArray⟩ : Str) = z
            simp
          · have e1 : z.cps.toList = [] := by
              have e2 : z.cps.size = 0 := beq_iff_eq.mp e
              apply List.eq_nil_of_length_eq_zero
              rw [Array.length_toList]
              exact e2
            have e3 : z = ⟨#[]⟩ := by
              obtain ⟨c⟩ := z
              have : c = #[] := Array.toList_inj.mp (by rw [e1])
              rw [this]
            rw [e3]
            have e4 : (List.replicate k.toNat ([] : List Nat)).flatten = [] := by simp
            show (⟨(List.replicate k.toNat ([] : List Nat)).flatten.toArray⟩ : Str) = ⟨#[]⟩
            rw [e4]
        rw [ez] at q
        exact ⟨.str z, H, I, ⟨_, rfl⟩, q⟩
      · rw [if_neg hc, rep_foldl, Array.empty_append]
        refine ⟨?_, .str _, H, I.tok _, ⟨_, rfl⟩, q⟩
        show (List.replicate k.toNat z.cps.toList).flatten.toArray.size ≤ sizeLine
        rw [List.size_toArray, PyProof.Rows.lm_len_rep_flat, sizeLine_eq, Array.length_toList]
        have hm2 : k.toNat * z.cps.size ≤ 1000 * 1000 := Nat.mul_le_mul (by omega) hz
        omega
end
/-! ### sequences by data -/
/-- a list that stands by itself -/
def PLt (X : Cx) (δ : De) (ω : Om) (e : Expr) (ds : List PyData) : Prop :=
  ∀ σ H, Rl X.K H σ δ ω → ∀ Q : VK, (∀ p vs H', Same H H' → H' p = some (.lst vs) → DpAll X.K (hid (ads ω) H') vs ds → Q (.ref p) H') → wpe X e σ H Q
section
variable {X : Cx} {δ : De} {ω : Om} {a b c e : Expr} {es : List Expr} {d da db dc dz : PyData} {ds dt : List PyData} {pos p : Pos}
theorem PLt.pl (h : PLt X δ ω e ds) : PL X δ ω e ds := fun σ H r Q k => h σ H r Q fun p vs H' s h1 h2 => k p vs H' s (SqL.of h1) h2
theorem PN.plt (h : PN X δ ω e ds) : PLt X δ ω e ds := fun σ H r Q k => h σ H r Q fun p vs H' s _ h1 h2 => k p vs H' s h1 (dpam hid_cons h2)
theorem plt_var (i : Nat) {x : Str} {p : Addr} {xs : List PyData} (hm : (p, Od.lst (xs.map .im)) ∈ ω.os) (hd : δ[i]? = some (some (.ad p)) := by rfl) (hN : X.N[i]? = some x := by rfl) (hv : Vis X.env.scope x := by first | exact Or.inl rfl | exact Or.inr (Or.inl rfl) | exact Or.inr (Or.inr rfl))
    (h1 : (x == ("__debug__" : Str)) = false := by decide) (h2 : (x == ("__classdict__" : Str)) = false := by decide) : PLt X δ ω (.Name x pos) xs := fun σ H r Q k => by
  obtain ⟨v, e1, e2⟩ := r.sl i _ hd
  obtain ⟨vs, e3, e4⟩ := r.ro.ob _ _ hm
  have e2 : v = .ref p := e2
  subst e2
  exact we (pe_var hN hv h1 h2) ⟨_, e1, k p vs H (Same.refl H) e3 (dpa_im e4)⟩
theorem flat_one {α : Type} (n : Nat) (x : α) : (List.replicate n [x]).flatten = List.replicate n x := by
  induction n with
  | zero => rfl
  | succ n ih => rw [List.replicate_succ, List.flatten_cons, ih, List.replicate_succ] <;> rfl
theorem rd_repT {K : PySem.W.Frag} {k : Int} (hne : ds ≠ []) (h1 : -1000 ≤ k) (h2 : k ≤ 1000) (hz : ds.length ≤ 1000) : RD K (rRepA K) (.tuple ds) (.int k) (.tuple (List.replicate k.toNat ds).flatten) := fun ps x y H t hx hy Q q => by
  cases hy
  cases hx with
  | tup h3 h4 =>
    rename_i l vs
    have hl := dpa_len h4
    refine ⟨l, k, vs, rfl, rfl, same_sqt hid_sub h3, fun z => hne ?_, h1, h2, by omega, fun e => ?_, fun e p hp => ?_⟩
    · subst z
      exact List.eq_nil_of_length_eq_zero (by rw [← hl]; rfl)
    · have e1 : k.toNat = 1 := by omega
      rw [e1] at q
      have e2 : (List.replicate 1 ds).flatten = ds := by simp
      rw [e2] at q
      exact q _ H (Same.refl H) (.tup h3 h4)
    · exact q _ _ (same_new hp) (.tup (SqT.of (hid_of (new_out t hp) upd_same)) (dpam (hid_same (same_new hp)) (dpa_rep h4 _)))
theorem pd_repT {k : Int} (ha : PD X δ ω a (.tuple ds)) (hb : PD X δ ω b (.int k)) (hne : ds ≠ []) (h1 : -1000 ≤ k) (h2 : k ≤ 1000) (hz : ds.length ≤ 1000) : PD X δ ω (.BinOp a .Mult b pos) (.tuple (List.replicate k.toNat ds).flatten) := pd_op op_repA (rd_repT hne h1 h2 hz) ha hb
/-- (x,) * k -/
theorem pd_rep1 {k : Int} (ha : PD X δ ω a (.tuple [d])) (hb : PD X δ ω b (.int k)) (h1 : -1000 ≤ k) (h2 : k ≤ 1000) : PD X δ ω (.BinOp a .Mult b pos) (.tuple (List.replicate k.toNat d)) :=
  (pd_repT ha hb (by simp) h1 h2 (by simp)).eq (by rw [flat_one])
theorem rd_catT {K : PySem.W.Frag} (hz : ds.length + dt.length ≤ 10000) : RD K (rCatA K) (.tuple ds) (.tuple dt) (.tuple (ds ++ dt)) := fun ps x y H t hx hy Q q => by
  cases hx with
  | tup h3 h4 =>
    cases hy with
    | tup h5 h6 =>
      rename_i l vs m us
      have hl := dpa_len h4
      have hm := dpa_len h6
      refine ⟨l, m, vs, us, rfl, rfl, same_sqt hid_sub h3, same_sqt hid_sub h5, by rw [hl, hm, sizeLine_eq]; omega, fun z => ?_, fun _ z => ?_, fun _ _ p hp => ?_⟩
      · subst z
        cases h4
        exact q _ H (Same.refl H) (.tup h5 h6)
      · subst z
        cases h6
        rw [List.append_nil] at q
        exact q _ H (Same.refl H) (.tup h3 h4)
      · exact q _ _ (same_new hp) (.tup (SqT.of (hid_of (new_out t hp) upd_same)) (dpam (hid_same (same_new hp)) (dpa_app h4 h6)))
theorem pd_catT (ha : PD X δ ω a (.tuple ds)) (hb : PD X δ ω b (.tuple dt)) (hz : ds.length + dt.length ≤ 10000) : PD X δ ω (.BinOp a .Add b pos) (.tuple (ds ++ dt)) := pd_op op_catA (rd_catT hz) ha hb
theorem rd_repS {K : PySem.W.Frag} {z : Str} {k : Int} (h1 : -1000 ≤ k) (h2 : k ≤ 1000) (hz : z.length ≤ 1000) : RD K rRepS (.str z) (.int k) (.str ⟨(List.replicate k.toNat z.cps.toList).flatten.toArray⟩) := fun ps x y H t hx hy Q q => by
  cases hx
  cases hy
  exact ⟨z, k, rfl, rfl, h1, h2, hz, q _ H (Same.refl H) (.str _)⟩
theorem pd_repS {z : Str} {k : Int} (ha : PD X δ ω a (.str z)) (hb : PD X δ ω b (.int k)) (h1 : -1000 ≤ k) (h2 : k ≤ 1000) (hz : z.length ≤ 1000) : PD X δ ω (.BinOp a .Mult b pos) (.str ⟨(List.replicate k.toNat z.cps.toList).flatten.toArray⟩) := pd_op op_repS (rd_repS h1 h2 hz) ha hb
theorem pd_catS {y z : Str} (ha : PD X δ ω a (.str y)) (hb : PD X δ ω b (.str z)) (hz : y.length + z.length ≤ 100000) : PD X δ ω (.BinOp a .Add b pos) (.str (y ++ z)) := pd_op op_add_str (fun ps x w H t hx hy Q q => by
  cases hx
  cases hy
  exact ⟨y, z, rfl, rfl, Nat.le_trans hz (by rw [sizeLine_eq]; decide), q _ H (Same.refl H) (.str _)⟩) ha hb
theorem pn_cat (ha : PLt X δ ω a ds) (hb : PLt X δ ω b dt) (hz : ds.length + dt.length ≤ 10000) : PN X δ ω (.BinOp a .Add b pos) (ds ++ dt) := fun σ H rl Q k =>
  we (pe_op op_cat pe_w pe_w) (ha σ H rl _ fun q vs H1 s1 h1 d1 => hb σ H1 (rl.mono s1) _ fun r us H2 s2 h2 d2 =>
    ⟨q, r, vs, us, rfl, rfl, s2 q _ h1, h2, by rw [dpa_len d1, dpa_len d2, sizeLine_eq]; omega, fun p hp => k p _ _ ((s1.trans s2).trans (same_new hp)) ((s1.trans s2).free hp) upd_same (dpam (hid_new hp (same_new hp)) (dpa_app (dpam (hid_same s2) d1) d2))⟩)
theorem pn_rep {k : Int} (ha : PLt X δ ω a ds) (hb : PD X δ ω b (.int k)) (h1 : -1000 ≤ k) (h2 : k ≤ 1000) (hz : ds.length ≤ 1000) : PN X δ ω (.BinOp a .Mult b pos) (List.replicate k.toNat ds).flatten := fun σ H rl Q q =>
  we (pe_op op_rep pe_w pe_w) (ha σ H rl _ fun l vs H1 s1 h3 d1 => hb σ H1 (rl.mono s1) _ fun y H2 s2 d2 => by
    cases d2
    refine ⟨l, k, vs, rfl, rfl, s2 l _ h3, by omega, by omega, ?_, fun p hp => q p _ _ ((s1.trans s2).trans (same_new hp)) ((s1.trans s2).free hp) upd_same (dpam (hid_new hp (same_new hp)) (dpam (hid_same s2) (dpa_rep d1 _)))⟩
    have a1 : vs.length * k.toNat ≤ 1000 * 1000 := Nat.mul_le_mul (by rw [dpa_len d1]; exact hz) (by omega)
    rw [sizeLine_eq]
    omega)
theorem pn_rep1 {k : Int} (ha : PLt X δ ω a [d]) (hb : PD X δ ω b (.int k)) (h1 : -1000 ≤ k) (h2 : k ≤ 1000) : PN X δ ω (.BinOp a .Mult b pos) (List.replicate k.toNat d) := by
  have h := pn_rep (pos := pos) ha hb h1 h2 (by simp)
  rw [flat_one] at h
  exact h
/-! ### slices -/
def cutD (xs : List PyData) (lo hi : Option Int) : List PyData := (xs.drop (HT.sIx xs.length 0 lo)).take (HT.sIx xs.length xs.length hi - HT.sIx xs.length 0 lo)
theorem cut_dp {K : PySem.W.Frag} {H : Hp} {vs : List V} (h : DpAll K H vs ds) (lo hi : Option Int) : DpAll K H (cutV vs lo hi) (cutD ds lo hi) := by
  unfold cutV cutD
  rw [dpa_len h]
  exact dpa_take _ (dpa_drop _ h)
/-- a part of a slice -/
def PO1 (X : Cx) (δ : De) (ω : Om) : Option Expr → Option Int → Prop
  | none, o => o = none
  | some e, o => ∃ i, o = some i ∧ PD X δ ω e (.int i)
def wpo (X : Cx) : Option Expr → TO
  | none => tNoPart
  | some e => tPart (wpe X e)
theorem po_w {o : Option Expr} : PO X o (wpo X o) := by
  cases o with
  | none => exact po_none
  | some e => exact po_some pe_w
theorem po_run {o : Option Expr} {i : Option Int} (h : PO1 X δ ω o i) : ∀ σ H, Rl X.K H σ δ ω → ∀ Q : Option Int → Hp → Prop, (∀ H', Same H H' → Q i H') → wpo X o σ H Q := fun σ H rl Q k => by
  cases o with
  | none =>
    have e : i = none := h
    subst e
    exact k H (Same.refl H)
  | some e =>
    obtain ⟨j, e1, h1⟩ := h
    subst e1
    exact h1 σ H rl _ fun v H1 s1 d1 => by
      cases d1
      exact ⟨j, rfl, k H1 s1⟩
theorem pd_slT {lo hi : Option Expr} {i j : Option Int} {p2 : Pos} (ha : PD X δ ω a (.tuple ds)) (hl : PO1 X δ ω lo i) (hh : PO1 X δ ω hi j) : PD X δ ω (.Subscript a (.Slice lo hi none p2) pos) (.tuple (cutD ds i j)) := fun σ H rl Q k =>
  we (pe_slice sl_tupA pe_w po_w po_w) (ha σ H rl _ fun v H1 s1 d1 => po_run hl σ H1 (rl.mono s1) _ fun H2 s2 => po_run hh σ H2 (rl.mono (s1.trans s2)) _ fun H3 s3 => by
    have s13 := (s1.trans s2).trans s3
    have d3 := dpm (hid_same (s2.trans s3)) d1
    cases d3 with
    | tup h1 h2 =>
      rename_i l vs
      refine ⟨l, vs, rfl, same_sqt hid_sub h1, fun z => ?_, fun _ p hp => k _ _ (s13.trans (same_new hp)) (.tup (SqT.of (hid_of (new_out (there_mono rl.ro.there s13) hp) upd_same)) (dpam (hid_same (same_new hp)) (cut_dp h2 i j)))⟩
      have e : cutD ds i j = ds := by
        unfold cutD
        rw [← dpa_len h2, z.1, z.2, List.drop_zero, Nat.sub_zero, dpa_len h2, List.take_length]
      rw [e] at k
      exact k _ H3 s13 (.tup h1 h2))
theorem pn_slL {lo hi : Option Expr} {i j : Option Int} {p2 : Pos} (ha : PL X δ ω a ds) (hl : PO1 X δ ω lo i) (hh : PO1 X δ ω hi j) : PN X δ ω (.Subscript a (.Slice lo hi none p2) pos) (cutD ds i j) := fun σ H rl Q k =>
  we (pe_slice sl_list pe_w po_w po_w) (ha σ H rl _ fun l vs H1 s1 h1 d1 => po_run hl σ H1 (rl.mono s1) _ fun H2 s2 => po_run hh σ H2 (rl.mono (s1.trans s2)) _ fun H3 s3 =>
    ⟨l, vs, rfl, (s2.trans s3).seq h1, fun p hp => k p _ _ (((s1.trans s2).trans s3).trans (same_new hp)) (((s1.trans s2).trans s3).free hp) upd_same (dpam (hid_new hp (same_new hp)) (cut_dp (dpam (hid_same (s2.trans s3)) d1) i j))⟩)
/-! ### join -/
theorem dpa_strs {K : PySem.W.Frag} {H : Hp} : ∀ {ys : List Str} {vs : List V}, DpAll K H vs (ys.map .str) → vs = ys.map V.str
  | [], _, h => by
    cases h
    rfl
  | b :: bs, _, h => by
    cases h with
    | cons x y =>
      cases x
      rw [List.map_cons, dpa_strs y]
theorem pd_join {z : Str} {ys : List Str} {apos : Pos} (ha : PD X δ ω a (.str z)) (hb : PL X δ ω b (ys.map .str)) (hz : (ys.map (·.length)).sum + ys.length * z.length ≤ 16777216) (hs : starEach [b] X.env = [(false, eval b X.env)] := by rfl)
    (hbase : attributeBase a "join" X.env (eval a X.env) = eval a X.env := by rfl) (hline : (apos.endLine == pos.line) = true := by rfl) : PD X δ ω (.Call (.Attribute a "join" apos) [b] [] pos) (.str (Txt.join z ys)) := fun σ H rl Q k =>
  we (pe_join pe_w pe_w hs hbase hline) (ha σ H rl _ fun v H1 s1 d1 => by
    cases d1
    refine ⟨⟨_, rfl⟩, hb σ H1 (rl.mono s1) _ fun l vs H2 s2 h2 d2 => ?_⟩
    have e := dpa_strs d2
    subst e
    exact ⟨z, l, ys, rfl, rfl, .inl h2, hz, k _ H2 (s1.trans s2) (.str _)⟩)
end
end FP

namespace FP
open PySem PySem.Spec PyProof.Rows L2
/-! ### the law -/
def spL (K : PySem.W.Frag) (T : List (Addr × Str)) : Sp := fun vs H Q _ => ∃ (a : Addr) (ns : List Int), vs = [.ref a] ∧ SqL K H a (ns.map V.int) ∧ ns.length ≤ 63 ∧ (∀ z ∈ ns, Builtin.Int.intBits z ≤ 1048576) ∧ LamX.Tabs T H ∧ ∀ H', Q (.bl true) H'
theorem dpa_ints {K : PySem.W.Frag} {H : Hp} : ∀ ns : List Int, DpAll K H (ns.map V.int) (ns.map .int)
  | [] => .nil
  | n :: ns => .cons (.int n) (dpa_ints ns)
def FinT : Out → Prop
  | .rt (.im d) _ => d = .bool true
  | _ => False
theorem law_ok {P : Program} {w : World} {K : PySem.W.Frag} {mg : Str → Option Value} {base : Heap} {x qual y : Str} {params : Arguments} {body : List Stmt} {scope : Scope} {dV kV doc pm cdv ct oc : Value} {an od : Option Addr} {osl : Array (Option Value)} {f : Addr} {N : List Str} {k : Nat} {T : List (Addr × Str)}
    (lk : K.lookup f = some ⟨oc, od, .func (PySem.W.fnOf x qual params body scope dV kV doc pm an cdv ct), osl⟩) (hcd : PySem.W.codeIn K cdv qual = true) (S : FnScope N [y] scope)
    (hbody : ∀ (A : Around) (outer : List Env) (s : Shared) (H : Hp) (E : XK) (ns : List Int), Room k (A.deeper (envOfC qual scope s.heap.objs.size f cdv)) → ns.length ≤ 63 → (∀ z ∈ ns, Builtin.Int.intBits z ≤ 1048576) →
      SD (cxOf (L2N.CX P w) P w K mg base N qual scope f cdv A outer s H E) (WOf E) T body (startD N [.list (ns.map .int)]) ⟨[], []⟩ FinT) :
    FnOk P w K mg base (L2N.CX P w) (k + 1) f (PySem.W.fnOf x qual params body scope dV kV doc pm an cdv ct) [y] (spL K T) := by
  refine fn_of lk hcd S (fun vs H Q E h => ?_) (fun A outer s H vs Q E hr h => ?_)
  · obtain ⟨a, ns, rfl, _⟩ := h
    rfl
  · obtain ⟨a, ns, rfl, h1, h2, h3, h4, h5⟩ := h
    refine ⟨_, pss_w, hbody A outer s H E ns hr h2 h3 _ _ _ (start_rl (vs := [.ref a]) (.cons (.lst (by rw [hid_nil]; exact h1) (dpa_ints ns)) .nil) (fun _ z => nomatch z)) h4 ?_⟩
    refine ⟨fun _ _ _ _ z => False.elim z, fun r' ω' v H' z st l dv => ?_, fun _ _ _ _ z => False.elim z, fun _ _ _ _ z => False.elim z, fun _ _ _ _ z => False.elim z⟩
    cases r' with
    | im d =>
      have z : d = .bool true := z
      subst z
      cases dv
      exact h5 H'
    | ad a => exact False.elim z

/-! ### told: a lambda handed to a def that calls it -/
def TT0 : (XK → Hp → VK → Prop) → Hp → VK → Prop := fun tl H Q => tl (fun _ _ _ => False) H Q
theorem told0 {X : Cx} {Ng : List Str} {x a q : Str} {sg : Scope} {g : Addr} {cdg : Value} {p1 p2 p3 p8 : Pos} {hd : ExceptHandler} {hs : List ExceptHandler} (h0 : ∀ f : Addr, (L2.start Ng [V.ref f])[0]? = some (some (V.ref f))) :
    LamX.GivesTo X Ng x sg g cdg [.Try [.Return (some (.Call (.Name a p1) [] [] p2)) p3] (hd :: hs) [] [] p8] a q TT0 := by
  intro f c' s H Q tl act hc h
  refine ⟨_, pss_one (ps_try_thru0 (X := (cxOf C8.CX0 X.prog X.w X.K X.mg X.base Ng x sg g cdg X.A X.stack s H C8.E0).nox) (pss_one (ps_ret (pos := p3) (act (fun _ _ _ _ => False) [] (fun _ _ => False) (fun _ _ _ => False) p1 p2 LamX.takes0 (fun _ _ _ _ z => z))))), ?_⟩
  exact ⟨h0 f, hc, h⟩
/-- what the told rule asks of the maker's def -/
structure LamT (X : Cx) (T : List (Addr × Str)) : Prop where
  ex : ∃ c P, LamX.TabB X.base X.mg c P ∧ X.env.code = .ref c ∧ (P, X.env.qual ++ "<lambda>") ∈ T ∧ ∀ p ∈ T, p.1 = P → p.2 = X.env.qual ++ "<lambda>"
/-- the def that calls what it gets -/
structure Told (K : PySem.W.Frag) (mg : Str → Option Value) (x : Str) (st : Stmt) : Prop where
  ex : ∃ g fd, FunD K x x (defArgs st) (defBody st) (defScope st) [] [] g fd ∧ mg x = some (.ref g)
theorem extN_ke {T : List (Addr × Str)} (hT : T ≠ []) {H H' : Hp} (e : LamX.ExtN H H') : Ke T H H' := fun b o h p => e b o h (p.resolve_left hT)
theorem rl_ext {K : PySem.W.Frag} {T : List (Addr × Str)} {H H' : Hp} {σ : L2.St} {δ : De} {ω : Om} (e : LamX.ExtN H H') (hps : ω.ps = []) (rl : Rl K H σ δ ω) : Rl K H' σ δ ω := by
  have hh : LamX.ExtN (hid (ads ω) H) (hid (ads ω) H') := fun b o z n => hid_of (hid_out z).1 (e b o (hid_out z).2 n)
  have hk : Ke [(0, Str.ofString "")] (hid (ads ω) H) (hid (ads ω) H') := fun b o z p => hh b o z (p.resolve_left (by simp))
  have hsd : ∀ {r : Sd} {v : V}, SdV K (hid (ads ω) H) r v → SdV K (hid (ads ω) H') r v := fun {r v} z => by
    cases r with
    | im d => exact dp_ke hk d v z
    | ad a => exact z
  refine ⟨rl.len, fun i r h => ?_, fun a o h => ?_, rl.ro.nd, fun a h => ?_⟩
  · obtain ⟨v, h1, h2⟩ := rl.sl i r h
    exact ⟨v, h1, hsd h2⟩
  · have g := rl.ro.ob a o h
    exact odv_keep (fun w => hsd w) (fun u nt g1 => e a _ g1 nt) g
  · rw [hps] at h
    cases h
section
variable {X : Cx} {W : WX} {T : List (Addr × Str)} {δ : De} {ω : Om} {d : PyData} {pos p : Pos} {k : Nat} {R : Out → Prop}
theorem ex_told0 {x a : Str} {st : Stmt} {Ng : List Str} {p1 p2 p3 p8 lpos : Pos} {hd : ExceptHandler} {hs : List ExceptHandler} {params : Arguments} {body : Expr} {scope : Scope} (G : Told X.K X.mg x st) (L : LamT X T) (hT : T ≠ []) (hps : ω.ps = []) (hr : Room (k + 2) X.A)
    (hst : defBody st = [.Try [.Return (some (.Call (.Name a p1) [] [] p2)) p3] (hd :: hs) [] [] p8]) (S : FnScope Ng [a] (defScope st)) (hNg : Ng[0]? = some a) (hva : Vis (defScope st) a) (h0 : ∀ f : Addr, (L2.start Ng [V.ref f])[0]? = some (some (V.ref f)))
    (hbn : ∀ (kV doc pm : Value) (an : Option Addr) (cdv ct : Value) (us : List Value), us.length = [a].length → bindArgs (PySem.W.fnOf x x (defArgs st) (defBody st) (defScope st) .none kV doc pm an cdv ct) ⟨us, []⟩ = pure ([a].zip us))
    (hL : LamX.lamSB X.env.scope scope = true) (hdef : defaultsOf params X.env = ([], [])) (hbind : ∀ (q : Str) (cl : List (Str × Addr)) (pm cv ctv : Value), bindArgs (PySem.W.kla_fn "<lambda>" q params body scope cl pm cv ctv) ⟨[], []⟩ = pure [])
    (hb : ∀ (A : Around) (outer : List Env) (s : Shared) (H : Hp) (E : XK) (f c' : Addr), Room k (A.deeper (LamX.lamEnv X scope s.heap.objs.size f c')) → PD (LamX.lamCx X A outer s H E scope f c') δ ω body d) (hR : R (.rt (.im d) ω))
    (hg : Gl X x := by rfl) (hdb : (x == ("__debug__" : Str)) = false := by decide) (hd1 : (a == ("__debug__" : Str)) = false := by decide) (hcd1 : (a == ("__classdict__" : Str)) = false := by decide) : EX X W T (.Call (.Name x p) [.Lambda params body scope lpos] [] pos) δ ω R := fun σ H rl t Q q _ => by
  obtain ⟨g, fd, F, hm⟩ := G.ex
  obtain ⟨c, P, TB, hcode, hmT, hu⟩ := L.ex
  obtain ⟨oc, od, dV, kV, doc, pm, an, cdv, ct, osl, rfl, lk, hcd, hD, hK⟩ := F.ex
  have edV : dV = .none := by
    rcases hD with ⟨_, e⟩ | ⟨e, _⟩
    · exact e
    · exact absurd rfl e
  subst edV
  have hG : LamX.GivesTo X Ng x (defScope st) g cdv (defBody st) a (X.env.qual ++ "<lambda>") TT0 := by
    rw [hst]
    exact told0 h0
  refine we (LamX.pe_lamcall (T := T) (TT := TT0) (t := fun E σ H Q => ∀ (A : Around) (outer : List Env) (s : Shared) (H0 : Hp) (f c' : Addr), Room k (A.deeper (LamX.lamEnv X scope s.heap.objs.size f c')) → wpe (LamX.lamCx X A outer s H0 E scope f c') body σ H Q)
    hg hm F.kp lk hcd (F.bindsN hbn) S hNg hva hG TB hcode hmT hu hr (LamX.lamS_by hL) hdef hbind (fun A outer s H0 E f c' hr' => ⟨fun pins s' σ' H' Q' I h => pe_w.run pins s' σ' H' Q' I (h A outer s H0 f c' hr')⟩) hdb hd1 hcd1) ?_
  refine ⟨t, fun H1 eN T1 => ?_⟩
  show ∀ (A : Around) (outer : List Env) (s : Shared) (H0 : Hp) (f c' : Addr), Room k (A.deeper (LamX.lamEnv X scope s.heap.objs.size f c')) → wpe (LamX.lamCx X A outer s H0 (fun _ _ _ => False) scope f c') body σ H1 Q
  intro A outer s H0 f c' hr'
  have rl1 : Rl X.K H1 σ δ ω := rl_ext (T := T) eN hps rl
  refine hb A outer s H0 _ f c' hr' σ H1 rl1 Q fun v H2 s2 d2 => q _ ω v H2 hR ⟨fun b o h _ p => s2 b o (eN b o h (p.resolve_left hT)), fun a h => .inl h, rfl, fun _ => T1.ext s2⟩ (rl1.mono s2) d2
end
end FP

namespace FP
open PySem PySem.Spec PyProof.Rows L2
/-! ### raise -/
structure ExcF (K : PySem.W.Frag) (mg : Str → Option Value) (x : Str) (C : Addr) : Prop where
  xP : PySem.W.excIn K C He.veBase "ValueError.__new__" = true
  gP : mg x = some (.ref C)
  kP : PySem.W.keepIn K (.ref C) = true
  bP : PySem.W.subIn K (.ref C) (.type "BaseException") = some true
  tP : PySem.W.typeIn K (.ref C) = some (.type "type")
section
variable {X : Cx} {W : WX} {T : List (Addr × Str)} {δ : De} {ω : Om} {pos p : Pos} {R : Out → Prop} {ss : List Stmt}
theorem sd_raise {x m : Str} {C : Addr} {j : Nat} {p2 pos2 : Pos} (F : ExcF X.K X.mg x C) (tk : L2N.Takes X W) (hR : R (.ex C ω)) (hc : X.calm = true) (hg : Gl X x := by rfl) (hdb : (x == ("__debug__" : Str)) = false := by decide) :
    SD X W T (.Raise (some (.Call (.Name x p) [.Constant (.str m) j p2] [] pos)) none pos2 :: ss) δ ω R :=
  sd_cons fun σ H D rl t k => ws (L2N.ps_raise hc tk (L2N.pmk_own PySem.F.excBase_ValueError F.xP F.gP F.kP (raises_own F.bP F.tP) hg hdb)) (k.ex C ω σ H hR .refl rl.ro)
/-- a call as a statement: it may raise -/
theorem sd_callX {a : Expr} {es : List Expr} {x : Str} {k : Nat} {ds : List PyData} {fr : List PyData → Rs → Prop} {rr : Rs} {pos2 : Pos} (G : DefOk X.prog X.w X.K X.mg X.base k x fr) (hr : Room k X.A) (tk : L2N.Takes X W) (ha : PDs X δ ω (a :: es) ds) (hf : fr ds rr)
    (h1 : ∀ d, rr = .ok d → SD X W T ss δ ω R) (h2 : ∀ C, rr = .er C → R (.ex C ω)) (hg : Gl X x := by rfl)
    (hdb : (x == ("__debug__" : Str)) = false := by decide) (he : starEach (a :: es) X.env = (false, eval a X.env) :: starEach es X.env := by rfl) (hpl : (backTo pos (starEach es X.env)).any (·.1) = false := by rfl)
    (hs : swapsWith (.Call (.Name x p) (a :: es) [] pos) none pos2.line X.env = pure false := by rfl) : SD X W T (.Expr (.Call (.Name x p) (a :: es) [] pos) pos2 :: ss) δ ω R :=
  sd_exprX (ex_call G hr tk ha hf (by
    cases rr with
    | ok d => exact h1 d rfl
    | er C => exact h2 C rfl) hg hdb he hpl) hs
end
end FP

namespace FP
open PySem PySem.Spec PyProof.Rows L2
/-! ### data that may be compared -/
def Shp (n : Nat) (d : PyData) : Prop := d.canLay0 = true ∧ d.depth ≤ n
theorem shp_all {n : Nat} : ∀ {ds : List PyData}, (∀ x ∈ ds, Shp n x) → PyData.canLayAll0 ds = true ∧ PyData.depthAll ds ≤ n
  | [], _ => ⟨rfl, Nat.zero_le _⟩
  | x :: xs, h => by
    obtain ⟨a, b⟩ := shp_all (ds := xs) fun y hy => h y (List.mem_cons_of_mem _ hy)
    obtain ⟨c, d⟩ := h x List.mem_cons_self
    constructor
    · show (x.canLay0 && PyData.canLayAll0 xs) = true
      rw [c, a]
      rfl
    · show max x.depth (PyData.depthAll xs) ≤ n
      omega
theorem Shp.tup {n : Nat} {ds : List PyData} (h : ∀ x ∈ ds, Shp n x) : Shp (n + 1) (.tuple ds) := ⟨(shp_all h).1, by
  show PyData.depthAll ds + 1 ≤ n + 1
  have := (shp_all h).2
  omega⟩
theorem Shp.lst {n : Nat} {ds : List PyData} (h : ∀ x ∈ ds, Shp n x) : Shp (n + 1) (.list ds) := ⟨(shp_all h).1, by
  show PyData.depthAll ds + 1 ≤ n + 1
  have := (shp_all h).2
  omega⟩
theorem Shp.int {n : Nat} (i : Int) : Shp n (.int i) := ⟨rfl, Nat.zero_le _⟩
theorem Shp.non {n : Nat} : Shp n .none := ⟨rfl, Nat.zero_le _⟩
theorem Shp.bl {n : Nat} (b : Bool) : Shp n (.bool b) := ⟨rfl, Nat.zero_le _⟩
theorem Shp.str {n : Nat} {z : Str} (h : PyData.strOk z = true) : Shp n (.str z) := ⟨h, Nat.zero_le _⟩
theorem Shp.ok {n : Nat} {d : PyData} (h : Shp n d) (hn : n ≤ 64 := by decide) : SeqAt.shaped d = true := by
  unfold SeqAt.shaped
  rw [h.1, decide_eq_true (Nat.le_trans h.2 hn)]
  rfl
theorem Shp.refl {n : Nat} {d : PyData} (h : Shp n d) : PyData.eqv d d = true := SeqAt.eqv_refl d h.1
end FP

namespace FP
open PySem PySem.Spec PyProof.Rows L2
/-! ### expressions that make lambdas -/
def PX (X : Cx) (T : List (Addr × Str)) (δ : De) (ω : Om) (e : Expr) (d : PyData) : Prop := ∀ σ H, Rl X.K H σ δ ω → LamX.Tabs T H → ∀ Q : VK, (∀ v H', Stp T ω ω H H' → Rl X.K H' σ δ ω → Dp X.K (hid (ads ω) H') v d → Q v H') → wpe X e σ H Q
def PXt (X : Cx) (T : List (Addr × Str)) (δ : De) (ω : Om) (e : Expr) (k : Bool) : Prop := ∀ σ H, Rl X.K H σ δ ω → LamX.Tabs T H → ∀ Q : Bool → Hp → Prop, (∀ H', Stp T ω ω H H' → Rl X.K H' σ δ ω → Q k H') → wpt X e σ H Q
def PXw (X : Cx) (T : List (Addr × Str)) (δ : De) (ω : Om) (e : Expr) (k : Bool) : Prop := ∀ σ H, Rl X.K H σ δ ω → LamX.Tabs T H → ∀ Q : Bool → Hp → Prop, (∀ H', Stp T ω ω H H' → Rl X.K H' σ δ ω → Q k H') → wpw X e σ H Q
def PXs (X : Cx) (T : List (Addr × Str)) (δ : De) (ω : Om) (es : List Expr) (ds : List PyData) : Prop := ∀ σ H, Rl X.K H σ δ ω → LamX.Tabs T H → ∀ Q : List V → Hp → Prop, (∀ vs H', Stp T ω ω H H' → Rl X.K H' σ δ ω → DpAll X.K (hid (ads ω) H') vs ds → Q vs H') → wpa X es σ H Q
section
variable {X : Cx} {W : WX} {T : List (Addr × Str)} {δ : De} {ω : Om} {a b c e : Expr} {es r : List Expr} {d da db dz : PyData} {ds : List PyData} {pos p : Pos} {k x y : Bool} {R : Out → Prop} {ss sa sb : List Stmt}
theorem PD.px (h : PD X δ ω e d) : PX X T δ ω e d := fun σ H rl t Q q => h σ H rl Q fun v H' s dv => q v H' (.of s) (rl.mono s) dv
theorem PTd.xt (h : PTd X δ ω e k) : PXt X T δ ω e k := fun σ H rl t Q q => h σ H rl Q fun H' s => q H' (.of s) (rl.mono s)
theorem PXw.xt (h : PXw X T δ ω e k) : PXt X T δ ω e k := fun σ H rl t Q q => wt (PW.pt pw_w) (h σ H rl t Q q)
theorem xt_cmp {op : CmpOp} {r : R2} (ho : OpR X (compareOp op) r) (hr : RD X.K r da db (.bool k)) (ha : PX X T δ ω a da) (hb : PX X T δ ω b db) (hm : behindInMarks op b = false) : PXt X T δ ω (.Compare a [op] [b] pos) k := fun σ H rl t Q q =>
  wt (pt_cmpR ho pe_w pe_w hm) (ha σ H rl t _ fun x H1 s1 l1 d1 => hb σ H1 l1 (s1.tab t) _ fun y H2 s2 l2 d2 =>
    hr _ x y H2 l2.ro.there (dp_ke s2.seen da x d1) d2 _ fun z H3 s3 d3 => by
      cases d3
      exact ⟨_, rfl, q H3 ((s1.trans s2).trans (.of s3)) (l2.mono s3)⟩)
theorem xt_not (h : PXt X T δ ω e k) : PXt X T δ ω (.UnaryOp .Not e pos) (!k) := fun σ H rl t Q q => wt (pt_not pt_w) (h σ H rl t _ fun H1 s1 l1 => q H1 s1 l1)
theorem xw_or1 (h : PXt X T δ ω a k) : PXw X T δ ω (.BoolOp .Or [a] pos) k := fun σ H rl t Q q => ww (pw_or1 pt_w) (h σ H rl t Q q)
theorem xw_and1 (h : PXt X T δ ω a k) : PXw X T δ ω (.BoolOp .And [a] pos) k := fun σ H rl t Q q => ww (pw_and1 pt_w) (h σ H rl t Q q)
theorem xw_or (h : PXt X T δ ω a x) (h2 : x = false → PXw X T δ ω (.BoolOp .Or (b :: r) pos) y) : PXw X T δ ω (.BoolOp .Or (a :: b :: r) pos) (x || y) := fun σ H rl t Q q =>
  ww (pw_or pt_w pw_w) (h σ H rl t _ fun H1 s1 l1 => by
    cases x with
    | true => exact iteT (q H1 s1 l1)
    | false => exact iteF (h2 rfl σ H1 l1 (s1.tab t) Q fun H2 s2 l2 => q H2 (s1.trans s2) l2))
theorem xw_and (h : PXt X T δ ω a x) (h2 : x = true → PXw X T δ ω (.BoolOp .And (b :: r) pos) y) : PXw X T δ ω (.BoolOp .And (a :: b :: r) pos) (x && y) := fun σ H rl t Q q =>
  ww (pw_and pt_w pw_w) (h σ H rl t _ fun H1 s1 l1 => by
    cases x with
    | true => exact iteT (h2 rfl σ H1 l1 (s1.tab t) Q fun H2 s2 l2 => q H2 (s1.trans s2) l2)
    | false => exact iteF (q H1 s1 l1))
theorem sd_setx (i : Nat) {x : Str} {pos' : Pos} (he : PX X T δ ω e d) (hk : SD X W T ss (δ.set i (some (.im d))) ω R) (hN : X.N.Nodup) (hi : X.N[i]? = some x := by rfl) (hx : Loc X.env.scope x := by first | exact Or.inl rfl | exact Or.inr rfl) (hs : swapsWith e (some (.Name x pos')) pos.line X.env = pure false := by rfl)
    (hf : X.fn x = true ∨ X.env.scope.names.lookup x = some .local := by first | exact .inl rfl | exact .inr rfl | assumption) : SD X W T (.Assign [.Name x pos'] e pos :: ss) δ ω R :=
  sd_cons (s1_set i (fun σ H rl t Q q _ => he σ H rl t Q fun v H' s l dv => q (.im d) ω v H' hk s l dv) hN hi hx hs hf)
theorem sd_ifx {kk : Bool} (h : PXt X T δ ω c kk) (h1 : kk = true → SD X W T sa δ ω (Nxt X W T ss R)) (h2 : kk = false → SD X W T sb δ ω (Nxt X W T ss R)) : SD X W T (.If c sa sb pos :: ss) δ ω R :=
  sd_cons fun σ H D rl t k => ws (ps_if pt_w pss_w pss_w) (h σ H rl t _ fun H' s l => by
    cases kk with
    | true => exact iteT (h1 rfl σ H' D l (s.tab t) (k.step s))
    | false => exact iteF (h2 rfl σ H' D l (s.tab t) (k.step s)))
theorem sd_ifxF (h : PXt X T δ ω c false) (h2 : SD X W T ss δ ω R) : SD X W T (.If c sa [] pos :: ss) δ ω R := sd_ifx h (fun z => by cases z) fun _ => sd_nil h2
theorem pxs_nil : PXs X T δ ω [] [] := fun σ H rl t Q k => wa pa_nil (k [] H .refl rl .nil)
theorem pxs_cons (ha : PX X T δ ω e d) (hr : PXs X T δ ω es ds) (hs : starEach (e :: es) X.env = (false, eval e X.env) :: starEach es X.env := by rfl) : PXs X T δ ω (e :: es) (d :: ds) := fun σ H rl t Q k =>
  wa (pa_cons pe_w pa_w hs) (ha σ H rl t _ fun v H1 s1 l1 d1 => hr σ H1 l1 (s1.tab t) _ fun vs H2 s2 l2 d2 => k (v :: vs) H2 (s1.trans s2) l2 (.cons (dp_ke s2.seen d v d1) d2))
end
section
variable {X : Cx} {T : List (Addr × Str)} {δ : De} {ω : Om} {d : PyData} {pos p : Pos} {k : Nat}
theorem px_told0 {x a : Str} {st : Stmt} {Ng : List Str} {p1 p2 p3 p8 lpos : Pos} {hd : ExceptHandler} {hs : List ExceptHandler} {params : Arguments} {body : Expr} {scope : Scope} (G : Told X.K X.mg x st) (L : LamT X T) (hT : T ≠ []) (hps : ω.ps = []) (hr : Room (k + 2) X.A)
    (hst : defBody st = [.Try [.Return (some (.Call (.Name a p1) [] [] p2)) p3] (hd :: hs) [] [] p8]) (S : FnScope Ng [a] (defScope st)) (hNg : Ng[0]? = some a) (hva : Vis (defScope st) a) (h0 : ∀ f : Addr, (L2.start Ng [V.ref f])[0]? = some (some (V.ref f)))
    (hbn : ∀ (kV doc pm : Value) (an : Option Addr) (cdv ct : Value) (us : List Value), us.length = [a].length → bindArgs (PySem.W.fnOf x x (defArgs st) (defBody st) (defScope st) .none kV doc pm an cdv ct) ⟨us, []⟩ = pure ([a].zip us))
    (hb : ∀ (A : Around) (outer : List Env) (s : Shared) (H : Hp) (E : XK) (f c' : Addr), Room k (A.deeper (LamX.lamEnv X scope s.heap.objs.size f c')) → PD (LamX.lamCx X A outer s H E scope f c') δ ω body d)
    (hL : LamX.LamS X.env.scope scope) (hdef : defaultsOf params X.env = ([], []) := by rfl) (hbind : ∀ (q : Str) (cl : List (Str × Addr)) (pm cv ctv : Value), bindArgs (PySem.W.kla_fn "<lambda>" q params body scope cl pm cv ctv) ⟨[], []⟩ = pure [] := by intros; rfl)
    (hg : Gl X x := by rfl) (hdb : (x == ("__debug__" : Str)) = false := by decide) (hd1 : (a == ("__debug__" : Str)) = false := by decide) (hcd1 : (a == ("__classdict__" : Str)) = false := by decide) : PX X T δ ω (.Call (.Name x p) [.Lambda params body scope lpos] [] pos) d := fun σ H rl t Q q => by
  obtain ⟨g, fd, F, hm⟩ := G.ex
  obtain ⟨c, P, TB, hcode, hmT, hu⟩ := L.ex
  obtain ⟨oc, od, dV, kV, doc, pm, an, cdv, ct, osl, rfl, lk, hcd, hD, hK⟩ := F.ex
  have edV : dV = .none := by
    rcases hD with ⟨_, e⟩ | ⟨e, _⟩
    · exact e
    · exact absurd rfl e
  subst edV
  have hG : LamX.GivesTo X Ng x (defScope st) g cdv (defBody st) a (X.env.qual ++ "<lambda>") TT0 := by
    rw [hst]
    exact told0 h0
  refine we (LamX.pe_lamcall (T := T) (TT := TT0) (t := fun E σ H Q => ∀ (A : Around) (outer : List Env) (s : Shared) (H0 : Hp) (f c' : Addr), Room k (A.deeper (LamX.lamEnv X scope s.heap.objs.size f c')) → wpe (LamX.lamCx X A outer s H0 E scope f c') body σ H Q)
    hg hm F.kp lk hcd (F.bindsN hbn) S hNg hva hG TB hcode hmT hu hr hL hdef hbind (fun A outer s H0 E f c' hr' => ⟨fun pins s' σ' H' Q' I h => pe_w.run pins s' σ' H' Q' I (h A outer s H0 f c' hr')⟩) hdb hd1 hcd1) ?_
  refine ⟨t, fun H1 eN T1 => ?_⟩
  show ∀ (A : Around) (outer : List Env) (s : Shared) (H0 : Hp) (f c' : Addr), Room k (A.deeper (LamX.lamEnv X scope s.heap.objs.size f c')) → wpe (LamX.lamCx X A outer s H0 (fun _ _ _ => False) scope f c') body σ H1 Q
  intro A outer s H0 f c' hr'
  have rl1 : Rl X.K H1 σ δ ω := rl_ext (T := T) eN hps rl
  refine hb A outer s H0 _ f c' hr' σ H1 rl1 Q fun v H2 s2 d2 => q v H2 ⟨fun b o h _ p => s2 b o (eN b o h (p.resolve_left hT)), fun a h => .inl h, rfl, fun _ => T1.ext s2⟩ (rl1.mono s2) d2
end
end FP

namespace FP
open PySem PySem.Spec PyProof.Rows L2
/-! ### the law's end -/
theorem law_at {l : PySem.W.OpenLaw} {w : World} {K : PySem.W.Frag} {mg : Str → Option Value} {h : Heap} {fa : List He.Fa} {fn : List He.DefD} {ts : List He.Tab} {ex : PySem.W.Frag → Bool} {params : Arguments} {body : List Stmt} {scope : Scope} {f : Addr} {N : List Str} {k : Nat} {x : Str}
    (KX : K.In h) (G : h.Ns mainGlobals mg) (hfa : mg "law" = some (.ref f)) (c : He.SaysX fa fn ts [("law", none)] ex w h K) (hd : (⟨("law", none), "law", "law", params, body, scope, [], []⟩ : He.DefD) ∈ fn) (hg : He.Fa.glo "law" ∈ fa) (S : FnScope N [x] scope)
    (hb : ∀ (kV doc pm : Value) (an : Option Addr) (cdv ct : Value) (us : List Value), us.length = [x].length → bindArgs (PySem.W.fnOf "law" "law" params body scope .none kV doc pm an cdv ct) ⟨us, []⟩ = pure ([x].zip us))
    (hbody : ∀ (base : Heap), K.In base → base.Ns mainGlobals mg → ∀ (T : List (Addr × Str)) (cdv : Value) (A : Around) (outer : List Env) (s : Shared) (H : Hp) (E : XK) (ns : List Int), T ≠ [] → LamT (cxOf (L2N.CX l.prog w) l.prog w K mg base N "law" scope f cdv A outer s H E) T →
      Room k (A.deeper (envOfC "law" scope s.heap.objs.size f cdv)) → ns.length ≤ 63 → (∀ z ∈ ns, Builtin.Int.intBits z ≤ 1048576) →
      SD (cxOf (L2N.CX l.prog w) l.prog w K mg base N "law" scope f cdv A outer s H E) (WOf E) T body (startD N [.list (ns.map .int)]) ⟨[], []⟩ FinT) :
    LamX.LawAtS l w K (L2N.CX l.prog w) (k + 1) 63 x mg f h := by
  have cd := c.t.d
  obtain ⟨fd, F⟩ := cd.defs hd
  have e := hfa.symm.trans (He.glo_ok KX G (cd.facts hg))
  cases e
  obtain ⟨oc, od, dV, kV, doc, pm, an, cdv, ct, osl, rfl, lk, hcd, hD, hK⟩ := F.ex
  have edV : dV = .none := by
    rcases hD with ⟨_, e⟩ | ⟨e, _⟩
    · exact e
    · exact absurd rfl e
  subst edV
  obtain ⟨cc, rfl⟩ := He.codeIn_ref hcd
  have ec : He.codeOf K ("law", none) = cc := He.codeOf_eq lk rfl
  have mem : (("law", none) : He.Defn) ∈ ([("law", none)] : List He.Defn) := List.mem_singleton.mpr rfl
  have hbA := FunD.bindsA (ps := [x]) F hb
  refine ⟨_, [He.cT K ("law", none)], spL K [((He.cT K ("law", none)).2, (Str.ofString "law" ++ ".<locals>.") ++ "<lambda>")], fun p hp => ?_, fun p hp => ?_, fun p hp => ?_, fun s u => hbA s [u] rfl, fun H a ns h1 h2 h3 h4 => ?_, fun base hB hN hTB => ?_⟩
  · rw [List.mem_singleton.mp hp]
    exact c.empty _ mem
  · rw [List.mem_singleton.mp hp]
    exact c.out _ mem
  · rw [List.mem_singleton.mp hp]
    exact PySem.W.codeHd_of_K KX (c.hd _ mem)
  · refine ⟨a, ns, rfl, h4, h1, h2, fun p hp => ?_, fun _ => rfl⟩
    rw [List.mem_singleton.mp hp]
    exact LamX.TabS.nil (h3 _ (List.mem_singleton.mpr rfl))
  · refine law_ok lk hcd S fun A outer s H E ns hr h1 h2 => hbody base hB hN _ (.ref cc) A outer s H E ns (by simp) ⟨cc, (He.cT K ("law", none)).2, ?_, rfl, List.mem_singleton.mpr rfl, fun p hp _ => by rw [List.mem_singleton.mp hp]; rfl⟩ hr h1 h2
    have z := hTB _ (List.mem_singleton.mpr rfl)
    have e1 : (He.cT K ("law", none)).1 = cc := ec
    rw [← e1]
    exact z
theorem cx_none {P : Program} {w : World} {H : Hp} {s : Shared} {e : Value} {s' : Shared} (h : L2N.CX P w [] H s (fun _ _ _ => False) e s') : False := by
  obtain ⟨_, _, _, _, _, _, _, _, _, _, _, _, z⟩ := h
  exact z.elim
theorem exc_of {K : PySem.W.Frag} {mg : Str → Option Value} {h : Heap} (KX : K.In h) (G : h.Ns mainGlobals mg) {x : Str} (c1 : (He.Fa.glo x).ok K = true) (c2 : (He.Fa.exc x).ok K = true) : ExcF K mg x (He.ga K x) := by
  obtain ⟨a, b, c, d⟩ := He.exc_ok c2
  exact ⟨a, He.glo_ok KX G c1, b, c, d⟩
theorem gld_int {K : PySem.W.Frag} {mg : Str → Option Value} {h : Heap} (KX : K.In h) (G : h.Ns mainGlobals mg) {x : Str} {i : Int} (c : (He.Fa.int x i).ok K = true) : GlD K mg x (.int i) := by
  obtain ⟨t, e⟩ := He.int_ok KX G c
  exact ⟨.int i, _, e, ⟨t, rfl⟩, fun _ => .int i⟩
end FP

namespace FP
open PySem PySem.Spec PyProof.Rows L2 HotX L2H
/-! ### while an exception is handled: a list is walked to its end -/
section
variable {prog : Program} {w : World} {A : Around} {E : Value → Shared → Prop} {s : Shared}
theorem next_end_hot {it l p : Addr} {i : Nat} {items : Array Value} {Q : Option Value → Shared → Prop} (hot : HotAt A p s.heap) (hp : p ≠ it) (hi : s.heap.IsListIter it l i) (hl : s.heap.IsList l items) (hx : items[i]? = none)
    (hQ : ∀ h', (∀ b o, b ≠ it → s.heap.get? b = some o → h'.get? b = some o) → Q none { s with heap := h' }) : wpAny (model prog w) A (pyNext (.ref it)) Q E s := by
  obtain ⟨oi, gi, ci, di⟩ := id hi
  obtain ⟨ol, gl, _, nl, dl⟩ := hl
  obtain ⟨hh, oe, ve, ge, de, ce⟩ := hot
  unfold pyNext
  refine wpAny_bind (wpAny_attempt (wpAny_callSpecial?_slot (name := Str.ofString "__next__") hi.typeIs slot_listiter_next (wpAny_call_entry slot_listiter_next hi.typeIs entry_listiter_next ?_ (args_listiter_next _))))
  show wpAny _ _ (field (.ref it) 0 >>= _) _ _ s
  refine wpAny_bind (wpAny_field gi di (x := .ref l) rfl ?_)
  show wpAny _ _ (if (Value.ref l == Value.none) = true then _ else _) _ _ s
  rw [if_neg (c := (Value.ref l == Value.none) = true) Bool.false_ne_true]
  show wpAny _ _ (field (.ref it) 1 >>= _) _ _ s
  refine wpAny_bind (wpAny_field gi di (x := .int i 0) rfl ?_)
  show wpAny _ _ (seqItems? (.ref l) >>= _) _ _ _
  refine wpAny_bind (wpAny_seqItems gl dl ?_)
  simp only [Int.toNat_natCast, hx]
  refine wpAny_bind (wpAny_rule (wpAny_bind (wpAny_setField gi di (by simp) ?_)))
  show wpAny _ _ (newExc (.type "StopIteration") [] >>= fun e => raiseNew e) _ _ _
  have ge1 : (s.heap.update it (Obj.mapFields (·.setIfInBounds 0 Value.none))).get? p = some oe := (Heap.get?_update_other _ _ (Ne.symm hp)).trans ge
  have old : ∀ b o, b ≠ it → s.heap.get? b = some o → (s.heap.update it (Obj.mapFields (·.setIfInBounds 0 Value.none))).get? b = some o := fun b o n z => (Heap.get?_update_other _ _ (Ne.symm n)).trans z
  refine wpAny_bind ?_
  simp only [newExc, newTuple]
  refine wpAny_bind (wpAny_newObj_type (wpAny_bind (m := firstArgMember _ _) (wpAny_of_eq (a := Value.none) (by first | rfl | (simp only [firstArgMember]; rfl)) (wpAny_newObj_type ?_ (by size_fits)))) (by size_fits))
  refine raiseNew_hot ⟨hh, oe, ve, Heap.get?_push_of_some _ (Heap.get?_push_of_some _ ge1), de, ce⟩ (Nat.ne_of_lt (Heap.lt_size (Heap.get?_push_of_some _ ge1))) (Heap.get?_push_size _ rfl) rfl (by first | (simp; done) | (simp; omega) | (simp only [Array.size_append]; simp; omega)) ?_
  refine wpAny_bind (wpAny_isInstance (T := "StopIteration") (b := true) ⟨_, Heap.get?_update_self _ (Heap.get?_push_size _ rfl) rfl, rfl⟩ isSubtype_stop (wpAny_pure (hQ _ fun b o n z => ?_)))
  rw [Heap.get?_update_other _ _ (Nat.ne_of_gt (Heap.lt_size (Heap.get?_push_of_some _ (old b o n z))))]
  exact Heap.get?_push_of_some _ (Heap.get?_push_of_some _ (old b o n z))
end
end FP

namespace FP
open PySem PySem.Spec PyProof.Rows L2 HotX L2H
/-- a list that is walked while p is handled -/
theorem walk_hot {prog : Program} {w : World} {A : Around} {it l p : Addr} {items : Array Value} (hl : l ≠ it) (hp : p ≠ it) :
    WalksS prog w A it [it, l, p] [it] (fun a b => b = a) items.size (fun i v => items[i]? = some v) (fun i s => s.heap.IsListIter it l i ∧ s.heap.IsList l items ∧ HotAt A p s.heap) where
  sub := fun b hb => by
    rw [List.mem_singleton.mp hb]
    exact List.mem_cons_self
  grefl := fun _ => rfl
  gtrans := fun _ _ _ a b => b.trans a
  frame := fun i s h' tk st _ k => by
    obtain ⟨s1, s2, hh, oe, ve, ge, de, ce⟩ := st
    exact ⟨s1.at fun o e => k it (by simp) o e, s2.at fun o e => k l (by simp) o e, hh, oe, ve, k p (by simp) _ ge, de, ce⟩
  item := fun i s Q E hi st q => by
    obtain ⟨s1, s2, hh, oe, ve, ge, de, ce⟩ := st
    refine wpAny_pyNext_list_item s1 s2 (x := items[i]) (by simp [hi]) fun h' t sb => q _ _ (by simp [hi]) ⟨t, s2.extBut sb.extBut hl, hh, oe, ve, (sb.2 p hp).trans ge, de, ce⟩ ⟨fun b o hb e => (sb.2 b fun z => hb (by simp [z])).trans e, rfl, rfl, rfl, Nat.le_refl _⟩
  done := fun s Q E st q => by
    obtain ⟨s1, s2, h⟩ := st
    exact next_end_hot h hp s1 s2 (by simp) fun h' k => q _ ⟨fun b o hb e => k b o (fun z => hb (by simp [z])) e, rfl, rfl, rfl, Nat.le_refl _⟩
  self := fun _ _ _ _ st h => wpAny_pyIter_listiter st.1 h
theorem preSum_take {f : Nat → Int} {ns : List Int} (h : ∀ i, i < ns.length → f i = ns.getD i 0) : ∀ j, j ≤ ns.length → preSum f j = (ns.take j).sum
  | 0, _ => by simp [preSum]
  | j + 1, hj => by
    have e : ns.take (j + 1) = ns.take j ++ [ns.getD j 0] := by
      rw [List.take_add_one]
      simp [List.getElem?_eq_getElem (show j < ns.length by omega)]
    rw [preSum, preSum_take h j (by omega), h j (by omega), e, List.sum_append]
    simp
/-- sum(xs) of a list of whole numbers, while an exception is handled -/
theorem cr_sumH {X : Cx} (hc : HotC X) : CallR X (.builtin "sum") (rSum X.K) := by
  intro pins s σ H vs us Q I r h
  obtain ⟨a, ns, rfl, hs, q⟩ := h
  obtain ⟨its, rv, hl, _⟩ := I.list hs
  obtain ⟨p, hh, oe, ve, ge, de, ce⟩ := hc.at I
  rw [Vals.ref1 r]
  have lt : a < s.heap.objs.size := by
    obtain ⟨_, e, _⟩ := hl.isList
    exact Heap.lt_size e
  have ltp : p < s.heap.objs.size := Heap.lt_size ge
  have len : its.length = ns.length := by
    rw [← rv.length, List.length_map]
  refine call_sum_walkAnyS (wpAny_pyIter_list hl.isList ?_)
  refine ⟨_, _, _, _, _, _, _, fun i => ns.getD i 0, rfl, walk_hot (l := a) (p := p) (items := its.toArray) (Nat.ne_of_lt lt) (Nat.ne_of_lt ltp), ⟨⟨_, Heap.get?_push_size _ rfl, rfl, rfl⟩, hl.isList.push _, hh, oe, ve, Heap.get?_push_of_some _ ge, de, ce⟩, fun b hb => ?_, fun i v hv => ?_, fun s' t' m => ?_⟩
  · rw [Heap.size_push]
    rcases List.mem_cons.mp hb with z | hb
    · rw [z]
      exact Nat.lt_succ_self _
    · rcases List.mem_cons.mp hb with z | hb
      · rw [z]
        exact Nat.lt_succ_of_lt lt
      · rw [List.mem_singleton.mp hb]
        exact Nat.lt_succ_of_lt ltp
  · have hi : i < ns.length := by
      have := (Array.getElem?_eq_some_iff.mp hv).1
      simp at this
      omega
    have e1 : (ns.map V.int)[i]? = some (V.int (ns.getD i 0)) := by
      rw [List.getElem?_map, List.getElem?_eq_getElem hi, List.getD_eq_getElem?_getD, List.getElem?_eq_getElem hi]
      rfl
    obtain ⟨u, hu, ru⟩ := rv.get e1
    have e2 : some v = some u := by
      rw [← hv, ← hu]
      simp
    cases e2
    exact ru
  · have e := preSum_take (f := fun i => ns.getD i 0) (ns := ns) (fun _ _ => rfl) ns.length (Nat.le_refl _)
    have e2 : its.toArray.size = ns.length := by simp [len]
    rw [e2, e, List.take_length]
    obtain ⟨m1, m2, m3, m4, m5⟩ := m
    obtain ⟨h', g', d', k', o'⟩ := s'
    cases m2
    cases m3
    cases m4
    exact ⟨.int _, H, I.kept (h' := h') (t' := k') fun b o z => m1 b o (fun n => by
      rw [List.mem_singleton.mp n] at z
      exact absurd (Heap.lt_size z) (Nat.lt_irrefl _)) (Heap.get?_push_of_some _ z), ⟨_, rfl⟩, q⟩
end FP

namespace FP
open PySem PySem.Spec PyProof.Rows L2 HotX L2H
/-- [elt for name in a list], while an exception is handled; what comes out lies on no heap -/
def tLh (K : PySem.W.Frag) (j : Nat) (tl te : TE) : TE := fun σ H Q => tl σ H fun v G => ∃ (a : Addr) (xs ys : List V), v = .ref a ∧ SqL K G a xs ∧ ys.length = xs.length ∧ xs.length ≤ 1000 ∧
  (∀ (i : Nat) (x y : V), xs[i]? = some x → ys[i]? = some y → ∀ G1, Same G G1 → ∀ R : VK, (∀ G2, Same G1 G2 → R y G2) → te (σ.set j (some x)) G1 R) ∧
  ∀ D G1, G D = none → Same G G1 → G1 D = some (.lst ys) → Q (.ref D) G1
section
variable {X : Cx}
theorem pe_lcH {elt l : Expr} {scope : Scope} {y : Str} {py pos : Pos} {j : Nat} {tl te : TE} (hc : HotC X) (hN : X.N.Nodup) (hl : PE X l tl) (ok : BlkOk X.N X.env.scope scope [(y, j)])
    (hg : ∀ (s : Shared) (H : Hp) (C : Addr) (cl : List (Str × Addr)) (fp : List Addr), PG (X.blk s H scope (compEnvC scope cl C X.env) fp) (.Name y py) (gName j))
    (he : ∀ (s : Shared) (H : Hp) (C : Addr) (cl : List (Str × Addr)) (fp : List Addr), PE (X.blk s H scope (compEnvC scope cl C X.env) fp) elt te)
    (hs : ∀ x, foldedSetIterable l X.env x = pure x := by intro _; rfl) : PE X (.ListComp elt [⟨.Name y py, l, [], 0⟩] scope pos) (tLh X.K j tl te) := by
  refine ⟨fun pins s0 σ H Q I h => ?_⟩
  have clo : ∀ z ∈ scope.names, z.2 = .free → ∃ c, X.env.cells.lookup z.1 = some c := fun z hz e => I.ok.has _ ((ok.free z hz e).elim .inl .inr)
  rw [eval_ListComp]
  refine wpAny_comprehension_free (use := none) rfl hs (closure_ok clo) ok.kind (fun z hz e => by rw [ok.uniq z hz, e]) (thn (hl.run pins s0 σ H _ I h) fun lv sa hx => ?_)
  obtain ⟨v, G, Ia, rv, a, xs, ys, ev, hsq, hlen, hsm, hstep, hend⟩ := hx
  subst ev
  obtain rfl : lv = Value.ref a := rv
  obtain ⟨its, rits, pl, _⟩ := Ia.list hsq
  obtain ⟨pp, hot1, hpn⟩ := hc
  have PP := Ia.pin pp (List.mem_append_left _ hpn)
  obtain ⟨hh, ve, de, ce⟩ := hot1
  -- the iterator, then the new list
  refine wpAny_pyIter_list pl.isList (wpAny_newObj_type (newEnv_comp ?_) (by show 0 ≤ sizeLine; decide))
  generalize eI : sa.heap.objs.size = it
  have fI : FpOk X pins G it := Ia.fpOk (Nat.le_of_eq eI) (Ia.hok.fresh (Nat.le_of_eq eI))
  generalize eb : ({ sa with heap := sa.heap.push { cls := .type "list_iterator", data := .fields #[.ref a, .int 0 0] } } : Shared) = sb
  have hb : sb.heap = sa.heap.push { cls := .type "list_iterator", data := .fields #[.ref a, .int 0 0] } := by rw [← eb]
  have Ib : Inv X pins σ G sb := by
    rw [← eb]
    exact Ia.kept (t' := sa.toks) fun b o e => Heap.get?_push_of_some _ e
  have turn0 : sb.heap.IsListIter it a 0 := by
    rw [hb, ← eI]
    exact ⟨_, Heap.get?_push_size _ rfl, rfl, rfl⟩
  have szI : it < sb.heap.objs.size := by
    obtain ⟨_, e, _⟩ := turn0
    exact Heap.lt_size e
  generalize eD : sb.heap.objs.size = D
  have nD : G D = none := Ib.hok.fresh (Nat.le_of_eq eD)
  have ItD : it ≠ D := by
    rw [← eD]
    exact Nat.ne_of_lt szI
  generalize ec : ({ sb with heap := sb.heap.push { cls := .type "list", data := .seq ([] : List Value).toArray } } : Shared) = sc
  have hcH : sc.heap = sb.heap.push { cls := .type "list", data := .seq ([] : List Value).toArray } := by rw [← ec]
  have Ic : Inv X pins σ (upd G D (.lst [])) sc := by
    rw [← ec]
    refine Ib.laid (t' := sb.toks) (fun b o e => Heap.get?_push_of_some _ e) (Nat.le_of_eq eD) ⟨Nat.zero_le _, [], 0, .nil, ?_⟩
    rw [← eD]
    exact Heap.get?_push_size _ rfl
  have fIc : FpOk X pins (upd G D (.lst [])) it := ⟨by rw [upd_ne ItD]; exact fI.1, fI.2⟩
  have szc : it < sc.heap.objs.size := by
    rw [hcH, Heap.size_push]
    exact Nat.lt_succ_of_lt szI
  have all1 : ∀ b ∈ [it], FpOk X pins (upd G D (.lst [])) b ∧ b < sc.heap.objs.size := fun b hb1 => by
    rw [List.mem_singleton.mp hb1]
    exact ⟨fIc, szc⟩
  have Id := block_start Ic ok hN all1
  have pg := hg sc (upd G D (.lst [])) sc.heap.objs.size (cellsFrom (sc.heap.objs.size + 1) scope.names (cloFrom X.env.cells scope.names [])) [it]
  have pe := he sc (upd G D (.lst [])) sc.heap.objs.size (cellsFrom (sc.heap.objs.size + 1) scope.names (cloFrom X.env.cells scope.names [])) [it]
  have PPc := Ic.pin pp (List.mem_append_left _ hpn)
  have nPit : pp.1 ≠ it := fI.2.2.2.2.2 pp (List.mem_append_left _ hpn)
  have nPstk : pp.1 ∉ frs X.stack := fun z => (List.mem_cons.mp (Ic.stkSub pp.1 z)).elim PPc.2.2.1 PPc.2.2.2.1
  show codeAny _ _ (.compStart (.ListComp elt [⟨.Name y py, l, [], 0⟩] scope pos) 0 (.ref it) (.ref D) (compEnvC scope (cellsFrom (sc.heap.objs.size + 1) scope.names (cloFrom X.env.cells scope.names [])) sc.heap.objs.size X.env)) (compPost (model X.prog X.w) X.A X.xe none _ (.ref D) sc.heap.objs.size) { sc with heap := pushCells (sc.heap.push { cls := .type "dict", data := .dict #[] }) scope.names }
  generalize eE : compEnvC scope (cellsFrom (sc.heap.objs.size + 1) scope.names (cloFrom X.env.cells scope.names [])) sc.heap.objs.size X.env = ce1 at Id pg pe ⊢
  have eL : ce1.locals = sc.heap.objs.size := by
    subst eE
    rfl
  generalize ed : ({ sc with heap := pushCells (sc.heap.push { cls := .type "dict", data := .dict #[] }) scope.names } : Shared) = sd at Id ⊢
  have turnD : sd.heap.IsListIter it a 0 := turn0.at fun o e => by
    rw [← ed]
    refine pushCells_keeps _ _ _ _ (Heap.get?_push_of_some _ ?_)
    rw [hcH]
    exact Heap.get?_push_of_some _ e
  -- what holds at the i-th turn
  have hotIn : ∀ {σ' : L2.St} {H' : Hp} {s' : Shared} {pins' : List (Addr × Obj)}, Inv (X.blk sc (upd G D (.lst [])) scope ce1 [it]) pins' σ' H' s' → HotAt X.A pp.1 s'.heap := fun {σ' H' s' pins'} J =>
    ⟨hh, pp.2, ve, J.base.keep pp.1 pp.2 PPc.1 PPc.2.1 nPstk (fun z => nPit (List.mem_singleton.mp z)), de, ce⟩
  have free1 : ∀ {σ' : L2.St} {H' : Hp} {s' : Shared}, Inv (X.blk sc (upd G D (.lst [])) scope ce1 [it]) [] σ' H' s' → H' it = none → FpOk (X.blk sc (upd G D (.lst [])) scope ce1 [it]) [] H' it := fun {σ' H' s'} J n =>
    ⟨n, (J.ok.exf it List.mem_cons_self).1, J.ok.exfs it List.mem_cons_self, .inl List.mem_cons_self, (J.ok.exf it List.mem_cons_self).2, fun q hq => nomatch (show q ∈ ([] : List (Addr × Obj)) from hq)⟩
  have sqIn : ∀ {H' : Hp}, (∀ b o, b ≠ D → G b = some o → H' b = some o) → SqL X.K H' a xs := fun {H'} k => by
    have s1 : Same G (upd H' D (.lst [])) := fun b o e => by
      by_cases z : b = D
      · rw [z, nD] at e
        cases e
      · rw [upd_ne z]
        exact k b o z e
    rcases hsq with (g | ⟨o, g⟩) | g
    · exact .inl (.inl (k a _ (fun z => by rw [z, nD] at g; cases g) g))
    · exact .inl (.inr ⟨o, k a _ (fun z => by rw [z, nD] at g; cases g) g⟩)
    · exact .inr g
  have loop : codeAny (model X.prog X.w) X.A (.compLoop (.ListComp elt [⟨.Name y py, l, [], 0⟩] scope pos) 0 (.ref it) (.ref D) ce1) (compPost (model X.prog X.w) X.A X.xe none (EP X pins σ Q) (.ref D) sc.heap.objs.size) sd := by
    refine compLoop_any (fun m s' => ∃ i H', m = xs.length - i ∧ i ≤ xs.length ∧ Inv (X.blk sc (upd G D (.lst [])) scope ce1 [it]) [] (wipe σ [j]) H' s' ∧ s'.heap.IsListIter it a i ∧ H' it = none ∧ H' D = some (.lst (ys.take i)) ∧ ∀ b o, b ≠ D → G b = some o → H' b = some o) ?_ xs.length
      ⟨0, _, by omega, Nat.zero_le _, Id, turnD, fIc.1, by rw [List.take_zero]; exact upd_same, fun b o n e => by rw [upd_ne n]; exact e⟩
    rintro m s5 ⟨i, H5, em, hi, I5, t5, n5, d5, k5⟩
    obtain ⟨its5, r5, pl5, _⟩ := I5.list (sqIn k5)
    have F5 := free1 I5 n5
    by_cases hlt : i < xs.length
    · have ex : xs[i]? = some xs[i] := List.getElem?_eq_getElem hlt
      have ey : ys[i]? = some ys[i] := List.getElem?_eq_getElem (by omega)
      obtain ⟨u, hu, ru⟩ := r5.get ex
      refine wpAny_pyNext_list_item t5 pl5.isList (x := u) (by simpa using hu) fun h6 t6 sb6 => ?_
      have I6 : Inv (X.blk sc (upd G D (.lst [])) scope ce1 [it]) [] (wipe σ [j]) H5 { s5 with heap := h6 } := I5.turned (t' := s5.toks) (fun b o n e => (sb6.2 b n).trans e) F5.1 F5.2.1 F5.2.2.2.1 F5.2.2.2.2.1 F5.2.2.2.2.2
      obtain ⟨o6, e6, c6, q6⟩ := id t6
      refine go_of (s := { s5 with heap := h6 }) e6 c6 q6 (by decide) ?_
      have I7 := I6.pinned (fp := [it]) (fun b hb1 => by rw [List.mem_singleton.mp hb1]; exact free1 I6 n5) (fun b hb1 => by
        rw [List.mem_singleton.mp hb1]
        exact ⟨o6, e6, fun v z => by rw [q6] at z; cases z⟩)
      refine thnF (pg.run _ _ _ H5 xs[i] u (fun σ8 H8 => σ8 = σ.set j (some xs[i]) ∧ H8 = H5) I7 ru ⟨by show ((σ.set j none).set j (some xs[i])) = _; rw [List.set_set], rfl⟩) fun _ s8 w8 => ?_
      obtain ⟨σ8, H8, I8, w8, w9⟩ := w8
      subst w8
      subst w9
      refine wpAny_tests_nil ?_
      simp only [if_true]
      -- the element; D hidden away
      have s1 : ∃ G1, Same G G1 ∧ True := ⟨G, Same.refl G, trivial⟩
      refine thnF (pe.run _ s8 _ H8 (fun z H9 => z = ys[i] ∧ H9 D = some (.lst (ys.take i)) ∧ ∀ b o, H8 b = some o → H9 b = some o) I8 ?_) fun uz s9 w => ?_
      · refine hstep i xs[i] ys[i] ex ey H8 (fun b o e => k5 b o (fun z => by rw [z, nD] at e; cases e) e) _ fun G2 s2 => ⟨rfl, s2 D _ d5, fun b o e => s2 b o e⟩
      · obtain ⟨z, H9, I9, r9, z9, d9, k9⟩ := w
        subst z9
        refine app_ok (X := X.blk sc (upd G D (.lst [])) scope ce1 [it]) I9 d9 (by rw [List.length_take]; exact Nat.lt_of_le_of_lt (Nat.min_le_left _ _) (Nat.lt_of_lt_of_le hlt (Nat.le_trans hsm (by rw [sizeLine_eq]; decide)))) r9 fun s11 I11 => ?_
        have P11 := I11.pin (it, o6) (List.mem_append_right _ (List.mem_append_right _ (mem_pinsAt List.mem_cons_self e6)))
        refine ⟨xs.length - (i + 1), by omega, i + 1, _, rfl, hlt, (I11.unpinned (pins := [])).weak (by show (σ.set j none).length = (σ.set j (some xs[i])).length; rw [List.length_set, List.length_set]) (fun q v e => ?_), ⟨o6, P11.1, c6, q6⟩, P11.2.1, ?_, fun b o n e => ?_⟩
        · have e : (σ.set j none)[q]? = some (some v) := e
          by_cases hq : j = q
          · subst hq
            by_cases hz : j < σ.length
            · rw [List.getElem?_set_self hz] at e
              cases e
            · rw [List.getElem?_eq_none (by rw [List.length_set]; omega)] at e
              cases e
          · rw [List.getElem?_set_ne hq] at e ⊢
            exact e
        · rw [upd_same, List.take_add_one, ey]
          rfl
        · rw [upd_ne n]
          exact k9 b o (k5 b o n e)
    · have ei : i = xs.length := by omega
      subst ei
      refine next_end_hot (hotIn I5) nPit t5 pl5.isList (by have := r5.length; simp; omega) fun h6 k6 => ?_
      have I6 : Inv (X.blk sc (upd G D (.lst [])) scope ce1 [it]) [] (wipe σ [j]) H5 { s5 with heap := h6 } := I5.turned (t' := s5.toks) (fun b o n e => k6 b o n e) F5.1 F5.2.1 F5.2.2.2.1 F5.2.2.2.2.1 F5.2.2.2.2.2
      have I7 : Inv X pins σ H5 { s5 with heap := h6 } := Ic.call' (ch := [it]) I6.os I6.base I6.hok I6.bare fun b hb1 => by
        rw [List.mem_singleton.mp hb1]
        exact ⟨fIc.2.2.2.1, fIc.2.1, fIc.2.2.2.2.1, fIc.2.2.2.2.2⟩
      have nC : H5 sc.heap.objs.size = none := by
        have z : H5 ce1.locals = none := I6.free
        rw [eL] at z
        exact z
      obtain ⟨mm, hn, _⟩ := I6.loc
      have hn : ({ s5 with heap := h6 } : Shared).heap.Ns ce1.locals mm := hn
      rw [eL] at hn
      obtain ⟨f0, f1, f2, f3, f4, f5⟩ := Ic.fpOk (H' := H5) (Nat.le_refl sc.heap.objs.size) nC
      refine ⟨mm, hn, fun h'' sb2 => ⟨.ref D, H5, I7.turned (t' := s5.toks) (fun b o n e => (sb2.2 b n).trans e) f0 f1 f3 f4 f5, rfl, ?_⟩⟩
      rw [← hlen, List.take_length] at d5
      exact hend D H5 nD (fun b o e => k5 b o (fun z => by rw [z, nD] at e; cases e) e) d5
  exact codeAny_compStart_list loop (wpAny_pyIter_listiter turnD loop)
end
end FP

namespace FP
open PySem PySem.Spec PyProof.Rows L2 HotX L2H
/-! ### isinstance of the exception that is handled -/
theorem call_isP {X : Cx} {q : Addr × Obj} {D : Addr} (hq : q ∈ X.pn) (C : ExcC X.K D) (z1 : q.2.cls = .ref D) (z2 : q.2.dict = none) (hf : ∃ vs, q.2.data = .fields vs) : CallR X (.builtin "isinstance") (rIsE X.K D q.1) := by
  intro pins s σ H xs us Q I r h
  obtain ⟨c, cv, b, rfl, hcv, e, k⟩ := h
  cases r with
  | cons r1 r2 =>
    cases r2 with
    | cons r3 r4 =>
      cases r4
      cases r1
      have e3 := hcv _ r3
      subst e3
      have got := (I.pin q (List.mem_append_left _ hq)).1
      obtain ⟨vs, hv⟩ := hf
      have J : PySem.W.InstAt s.heap q.1 q.2 D none := by
        obtain ⟨qa, oc, od, oda, osl⟩ := q
        dsimp only at z1 z2 hv got ⊢
        subst z1 z2 hv
        exact ⟨got, rfl, rfl, trivial⟩
      exact PySem.W.kia_one (PySem.W.handS_kitx_exc C.hg C.hk C.hs C.hd C.ha C.hn C.ht C.hm) I.kIn J e (fun z => nomatch z) fun t => ⟨.bl b, H, I.kept (t' := t) fun _ _ z => z, rfl, k⟩
/-- what the head says of a class whose instances are asked -/
def excB (K : PySem.W.Frag) (D : Addr) : Bool :=
  He.eqO (PySem.W.findIn K (.ref D) "__getattribute__") (some (some (.builtin "BaseException.__getattribute__"))) && (He.eqO (PySem.W.findIn K (.ref D) "__getattr__") (some none) && (decide (PySem.W.subIn K (.ref D) (.type "BaseException") = some true) && (PySem.W.hasDictIn K D &&
  (He.eqO (PySem.W.findIn K (.ref D) "__class__") (some (some (.builtin "object.__class__"))) && (He.eqO (PySem.W.specialIn K (.builtin "object.__class__") "__get__") (some (some (.builtin "getset_descriptor.__get__"))) && (decide (PySem.W.takesIn K (.builtin "object.__class__") = some true) && decide (PySem.W.mroIn K D (.type "object") = some true)))))))
theorem excB_ok {K : PySem.W.Frag} {D : Addr} (h : excB K D = true) : ExcC K D := by
  obtain ⟨h1, h⟩ := He.ba h
  obtain ⟨h2, h⟩ := He.ba h
  obtain ⟨h3, h⟩ := He.ba h
  obtain ⟨h4, h⟩ := He.ba h
  obtain ⟨h5, h⟩ := He.ba h
  obtain ⟨h6, h⟩ := He.ba h
  obtain ⟨h7, h⟩ := He.ba h
  exact ⟨He.eqO_ok h1, He.eqO_ok h2, of_decide_eq_true h3, h4, He.eqO_ok h5, He.eqO_ok h6, of_decide_eq_true h7, of_decide_eq_true h⟩
/-- what a word about exceptions of class D finds: the classes asked, the answers -/
def wordB (K : PySem.W.Frag) (D : Str) (cs : List (Str × Bool)) : Bool :=
  excB K (He.ga K D) && (cs.all (fun c => decide (PySem.W.kitOne K (.ref (He.ga K D)) (.ref (He.ga K c.1)) = some c.2)) && decide (PySem.W.kitOne K (.ref (He.ga K D)) (.type "ValueError") = some true))
theorem wordB_ok {K : PySem.W.Frag} {D : Str} {cs : List (Str × Bool)} (h : wordB K D cs = true) : ExcC K (He.ga K D) ∧ (∀ c ∈ cs, PySem.W.kitOne K (.ref (He.ga K D)) (.ref (He.ga K c.1)) = some c.2) ∧ PySem.W.kitOne K (.ref (He.ga K D)) (.type "ValueError") = some true := by
  obtain ⟨h1, h⟩ := He.ba h
  obtain ⟨h2, h3⟩ := He.ba h
  exact ⟨excB_ok h1, fun c hc => of_decide_eq_true (List.all_eq_true.mp h2 c hc), of_decide_eq_true h3⟩
/-- the pinned exception of class D -/
structure Pin (X : Cx) (q : Addr × Obj) (D : Addr) : Prop where
  m : q ∈ X.pn
  C : ExcC X.K D
  z1 : q.2.cls = .ref D
  z2 : q.2.dict = none
  hf : ∃ vs, q.2.data = .fields vs
section
variable {X : Cx} {δ : De} {ω : Om} {a b c e : Expr} {es : List Expr} {d : PyData} {ds : List PyData} {pos p p1 p2 : Pos} {q : Addr × Obj} {D : Addr} {k : Bool}
theorem pd_isP (i : Nat) {y x : Str} {cv : V} {u : Value} (Z : Pin X q D) (hn : PE X (.Name x p2) (tC cv)) (hu : ∀ v, RelV cv v → v = u) (hk : PySem.W.kitOne X.K (.ref D) u = some k) (hm : X.mg "isinstance" = none) (hd : δ[i]? = some (some (.ad q.1)) := by rfl) (hN : X.N[i]? = some y := by rfl)
    (hv : Vis X.env.scope y := by first | exact Or.inl rfl | exact Or.inr (Or.inl rfl) | exact Or.inr (Or.inr rfl)) (h1 : (y == ("__debug__" : Str)) = false := by decide) (h2 : (y == ("__classdict__" : Str)) = false := by decide) (hg : Gl X "isinstance" := by rfl)
    (he : starEach [.Name y p1, .Name x p2] X.env = (false, eval (.Name y p1) X.env) :: starEach [.Name x p2] X.env := by rfl) (he2 : starEach [.Name x p2] X.env = (false, eval (.Name x p2) X.env) :: starEach [] X.env := by rfl) (hpl : (backTo pos (starEach [.Name x p2] X.env)).any (·.1) = false := by rfl) :
    PD X δ ω (.Call (.Name "isinstance" p) [.Name y p1, .Name x p2] [] pos) (.bool k) := fun σ H rl Q r => by
  obtain ⟨v, e1, e2⟩ := rl.sl i _ hd
  have e2 : v = .ref q.1 := e2
  subst e2
  exact we (pe_callB (call_isP Z.m Z.C Z.z1 Z.z2 Z.hf) hg hm (by decide +kernel) (pa_cons (pe_var hN hv h1 h2) (pa_cons hn pa_nil he2) he) (he := he) (hpl := hpl)) ⟨_, e1, cv, u, k, rfl, hu, hk, r _ H (Same.refl H) (.bl _)⟩
theorem pd_intB (hm : X.mg "int" = none) (ha : PD X δ ω a (.bool k)) (hg : Gl X "int" := by rfl) (he : starEach [a] X.env = (false, eval a X.env) :: starEach [] X.env := by rfl) : PD X δ ω (.Call (.Name "int" p) [a] [] pos) (.int (if k then 1 else 0)) :=
  pd_callTy call_int1 (fun ps vs H _ h Q r => by
    cases h with
    | cons h1 h2 =>
      cases h2
      cases h1
      exact .inr ⟨k, rfl, r _ H (Same.refl H) (.int _)⟩) hm (by decide +kernel) (pds_cons ha pds_nil he) hg (by decide) (by decide) he (by rfl)
/-- sum([elt for y in l]), of truths, while an exception is handled -/
theorem pd_sumH {elt l : Expr} {scope : Scope} {y : Str} {py lpos : Pos} {j : Nat} {bs : List Bool} (hc : HotC X) (hN : X.N.Nodup) (hl : PL X δ ω l (bs.map .bool)) (hz : bs.length ≤ 1000) (ok : BlkOk X.N X.env.scope scope [(y, j)])
    (hg : ∀ (s : Shared) (H : Hp) (C : Addr) (cl : List (Str × Addr)) (fp : List Addr), PG (X.blk s H scope (compEnvC scope cl C X.env) fp) (.Name y py) (gName j))
    (he : ∀ (b : Bool) (s : Shared) (H : Hp) (C : Addr) (cl : List (Str × Addr)) (fp : List Addr), PD (X.blk s H scope (compEnvC scope cl C X.env) fp) (δ.set j (some (.im (.bool b)))) ω elt (.int (if b then 1 else 0)))
    (hm : X.mg "sum" = none) (hgs : Gl X "sum" := by rfl) (hs : ∀ x, foldedSetIterable l X.env x = pure x := by intro _; rfl)
    (hst : starEach [.ListComp elt [⟨.Name y py, l, [], 0⟩] scope lpos] X.env = (false, eval (.ListComp elt [⟨.Name y py, l, [], 0⟩] scope lpos) X.env) :: starEach [] X.env := by rfl) :
    PD X δ ω (.Call (.Name "sum" p) [.ListComp elt [⟨.Name y py, l, [], 0⟩] scope lpos] [] pos) (.int (bs.map fun b => if b then 1 else 0).sum) := fun σ H rl Q r =>
  we (pe_callB (cr_sumH hc) hgs hm boot_sum (pa_cons (pe_lcH (j := j) hc hN pe_w ok hg (fun s H0 C cl fp => pe_blk s H0 C cl fp) hs) pa_nil hst) (he := hst)) (hl σ H rl _ fun a vs G s1 h1 h2 => by
    have ev : vs = bs.map V.bl := dpa_bl h2
    subst ev
    refine ⟨a, _, bs.map fun b => V.int (if b then 1 else 0), rfl, h1, by simp, by simpa using hz, fun i x y ex ey G1 s2 R kk s H0 C cl fp => ?_, fun D G1 nD s2 hD => ?_⟩
    · obtain ⟨b, eb, rfl⟩ : ∃ b, bs[i]? = some b ∧ x = V.bl b := by
        rw [List.getElem?_map] at ex
        cases e : bs[i]? with
        | none =>
          rw [e] at ex
          cases ex
        | some b =>
          rw [e] at ex
          cases ex
          exact ⟨b, rfl, rfl⟩
      rw [List.getElem?_map, eb] at ey
      cases ey
      refine he b s H0 C cl fp _ G1 (((rl.mono s1).mono s2).set (x := .im (.bool b)) (.bl b)) R fun v G2 s3 dv => ?_
      cases dv
      exact kk G2 s3
    · refine ⟨D, bs.map fun b => if b then 1 else 0, rfl, SqL.of ?_, r _ G1 (s1.trans s2) (.int _)⟩
      rw [List.map_map]
      exact hD)
/-- l.index(True) of a list of truths -/
theorem pd_idxT {l : Expr} {apos : Pos} {bs : List Bool} {j m : Nat} (hl : PL X δ ω l (bs.map .bool)) (hj : bs[j]? = some true) (hn : ∀ i, i < j → bs[i]? = some false)
    (hbase : attributeBase l "index" X.env (eval l X.env) = eval l X.env := by rfl)
    (hfew : ((backTo pos (starEach [.Constant (.bool true) m p1] X.env)).all (fun x => !x.1) && (backToKw pos (keywordEach [] X.env)).all (fun x => x.1.isSome)
      && decide (([.Constant (.bool true) m p1] : List Expr).length + ([] : List Keyword).length + (if ([] : List Keyword).isEmpty then 0 else 1) < 30)) = true := by rfl)
    (hline : (apos.endLine == pos.line) = true := by rfl) (hs : starEach [.Constant (.bool true) m p1] X.env = (false, eval (.Constant (.bool true) m p1) X.env) :: starEach [] X.env := by rfl) :
    PD X δ ω (.Call (.Attribute l "index" apos) [.Constant (.bool true) m p1] [] pos) (.int (j : Nat)) := fun σ H rl Q r =>
  we (pe_bm PySem.F.plainAttrs_list PySem.F.slot_list_index (by first | rfl | kernel_rfl | decide +kernel) mt_index pe_w (pa_cons pe_bl pa_nil hs) hbase hfew hline hs) (hl σ H rl _ fun a vs G s1 h1 h2 => by
    have ev : vs = bs.map V.bl := dpa_bl h2
    subst ev
    refine ⟨.inl ⟨rfl, _, h1⟩, a, _, _, j, .bl true, rfl, rfl, h1, rfl, ?_, ?_, rfl, fun m z lt e => ?_, r _ G s1 (.int _)⟩
    · rw [List.all_map]
      exact List.all_eq_true.mpr fun _ _ => rfl
    · rw [List.getElem?_map, hj]
      rfl
    · rw [List.getElem?_map, hn m lt] at e
      cases e
      rfl)
end
end FP

namespace FP
open PySem PySem.Spec PyProof.Rows L2 HotX L2H
/-! ### a word about the exception that is handled -/
structure WordOk (P : Program) (w : World) (K : PySem.W.Frag) (mg : Str → Option Value) (base : Heap) (k : Nat) (wd : Str) (fw : Addr → PyData → Prop) : Prop where
  ex : ∃ g, mg wd = some (.ref g) ∧ PySem.W.keepIn K (.ref g) = true ∧ ∀ (A : Around) (outer : List Env) (s : Shared) (H : Hp) (q : Addr × Obj) (C : Addr) (d : PyData) (ps : List Addr) (Q : VK), fw C d → RoomH k A → Hot1 A q → PinOk outer H s q → q.2.cls = .ref C → q.2.dict = none →
    Env0 P w K mg base A outer s H → (∀ a ∈ ps, H a ≠ none) → (∀ v H', Same H H' → Dp K (hid ps H') v d → Q v H') → codeAny (model P w) A (.call (.ref g) ⟨[.ref q.1], []⟩) (CR C8.CX0 outer P w H s Q C8.E0) s
theorem start1 {K : PySem.W.Frag} {H : Hp} {ps : List Addr} {N : List Str} {a : Addr} {n : Nat} (hn : N.length = n + 1) (hp : ∀ a ∈ ps, H a ≠ none) : Rl K H (L2.start N [.ref a]) (some (.ad a) :: List.replicate n none) ⟨ps, []⟩ := by
  refine ⟨?_, fun i r h => ?_, Ro.nil hp⟩
  · unfold L2.start
    simp [hn]
  · cases i with
    | zero =>
      cases h
      exact ⟨.ref a, rfl, rfl⟩
    | succ i =>
      rw [List.getElem?_cons_succ, List.getElem?_replicate] at h
      split at h
      · cases h
      · cases h
/-- such a def, by its body -/
theorem word_ok {P : Program} {w : World} {K : PySem.W.Frag} {mg : Str → Option Value} {base : Heap} {x : Str} {params : Arguments} {body : List Stmt} {scope : Scope} {kws : List (Str × V)} {f : Addr} {fd : FuncData} {N : List Str} {y : Str} {k n : Nat} {fw : Addr → PyData → Prop}
    (F : FunD K x x params body scope [] kws f fd) (hm : mg x = some (.ref f)) (S : FnScope N [y] scope) (hn : N.length = n + 1)
    (hb : ∀ (kV doc pm : Value) (an : Option Addr) (cdv ct : Value) (us : List Value), us.length = [y].length → bindArgs (PySem.W.fnOf x x params body scope .none kV doc pm an cdv ct) ⟨us, []⟩ = pure ([y].zip us))
    (hbody : ∀ (cdv : Value) (A : Around) (outer : List Env) (s : Shared) (H : Hp) (q : Addr × Obj) (C : Addr) (d : PyData) (ps : List Addr), fw C d → Hot1 A q → q.2.cls = .ref C → q.2.dict = none → RoomH k (A.deeper (envOfC x scope s.heap.objs.size f cdv)) →
      SD (cxH C8.CX0 P w K mg base N x scope f cdv A outer s H C8.E0 q) (fun _ _ _ _ => False) [] body (some (.ad q.1) :: List.replicate n none) ⟨ps, []⟩ (Fin (.ok d))) : WordOk P w K mg base (k + 1) x fw := by
  have hbs := FunD.bindsN (ps := [y]) F hb
  have kp := F.kp
  obtain ⟨oc, od, dV, kV, doc, pm, an, cdv, ct, osl, rfl, lk, hcd, hD, hK⟩ := F.ex
  refine ⟨f, hm, kp, fun A outer s H q C d ps Q hf hr hot pin c1 c2 e0 hp hQ => ?_⟩
  have old : ∀ b o, base.get? b = some o → s.heap.get? b = some o := fun b o e => (e0.bs b o e).1
  have inK : K.In s.heap := e0.mod.kin.keeps old
  have bnd := hbs s [.ref q.1] inK rfl
  refine codeAny_call_function hr.depth (inK _ _ lk) rfl S.co S.gen rfl (PySem.W.codeRec_of inK hcd) (bnd _ _ _ _ (wpAny_newFunctionEnv_cells S.kind (fun z hz => ?_) fun env he s1 x1 => ?_))
  · rcases S.par z.1 (List.of_mem_zip hz).1 with t | t
    · exact .inl t
    · exact .inr ⟨t, PySem.W.cellsFrom_some _ _ _ (.inl t)⟩
  subst he
  refine ⟨(e0.mod.nolimit.keeps old).keeps x1.toInCall.keep, codeAny_func ?_⟩
  have I : Inv (cxH C8.CX0 P w K mg base N x scope f cdv A outer s H C8.E0 q) [] (L2.start N [.ref q.1]) H s1 := inv_startH (us := [.ref q.1]) S pin e0 rfl (.cons rfl .nil) x1
  have go := hbody cdv A outer s H q C d ps hf hot c1 c2 (hr.deeper _) (L2.start N [.ref q.1]) H { nx := fun _ H' => Q .non H', rt := Q } (start1 hn hp) (fun _ z => nomatch z) ?_
  · refine wpAny_mono (pss_w.run [] s1 _ H _ I go) (fun fl s2 hs => ?_) fun _ _ z => z
    cases fl with
    | ret u =>
      obtain ⟨v, σ', H', J, rv, z⟩ := hs
      exact ⟨v, H', J.os, J.bare, J.base, J.hok, rv, z⟩
    | next =>
      obtain ⟨σ', H', J, z⟩ := hs
      exact ⟨.non, H', J.os, J.bare, J.base, J.hok, rfl, z⟩
    | brk =>
      obtain ⟨_, _, _, z⟩ := hs
      exact z.elim
    | cont =>
      obtain ⟨_, _, _, z⟩ := hs
      exact z.elim
  · have same : ∀ {ω' : Om} {H' : Hp}, Stp [] ⟨ps, []⟩ ω' H H' → Same H H' := fun st b o e => st.keep b o e (fun z => nomatch z) (.inl rfl)
    refine ⟨fun δ' ω' σ' H' z st l => ?_, fun r' ω' v H' z st l dv => ?_, fun _ _ _ _ z => (nomatch z), fun _ _ _ _ z => False.elim z, fun _ _ _ _ z => False.elim z⟩
    · cases z
      exact hQ .non H' (same st) .non
    · cases r' with
      | im d' =>
        cases z
        exact hQ v H' (same st) (dpm (hid_more fun b hb => List.mem_append_left _ (by rw [st.ps]; exact hb)) dv)
      | ad a => exact False.elim z
/-- the word is called, in the suite -/
theorem pe_word {X : Cx} {q : Addr × Obj} {k i : Nat} {wd n : Str} {fw : Addr → PyData → Prop} {C : Addr} {d : PyData} {p5 p6 p7 : Pos} (G : WordOk X.prog X.w X.K X.mg X.base k wd fw) (hr : RoomH k X.A) (hot : Hot1 X.A q) (hq : q ∈ X.pn) (c1 : q.2.cls = .ref C) (c2 : q.2.dict = none) (hf : fw C d)
    (hg : Gl X wd) (hN : X.N[i]? = some n) (hv : Vis X.env.scope n) (hdb : (wd == ("__debug__" : Str)) = false := by decide) (h1 : (n == ("__debug__" : Str)) = false := by decide) (h2 : (n == ("__classdict__" : Str)) = false := by decide)
    (he : starEach [.Name n p6] X.env = (false, eval (.Name n p6) X.env) :: starEach [] X.env := by rfl) :
    PE X (.Call (.Name wd p5) [.Name n p6] [] p7) (fun σ H Q => σ[i]? = some (some (.ref q.1)) ∧ ∃ ps, (∀ a ∈ ps, H a ≠ none) ∧ ∀ v H', Same H H' → Dp X.K (hid ps H') v d → Q v H') := by
  obtain ⟨g, m, kp, run⟩ := G.ex
  refine ⟨fun pins s σ H Q I h => ?_⟩
  obtain ⟨hs, ps, hp, hQ⟩ := h
  have ha : PA X [.Name n p6] (tCons (fun σ H Q => ∃ v, σ[i]? = some (some v) ∧ Q v H) tNil) := pa_cons (pe_var hN hv h1 h2) pa_nil he
  refine wpAny_Call_Name_kw (ld_glob I hg m (PySem.W.callWith_K (h₀ := X.base) I.ok.mod.kin kp (thn (ha.run p7 pins s σ H (fun vs H1 => vs = [V.ref q.1] ∧ H1 = H) I ⟨_, hs, rfl, rfl⟩) fun us s1 w => ?_) he (by rfl)) hdb)
  obtain ⟨vs, H1, J, rv, ev, eH⟩ := w
  subst ev
  subst eH
  refine ⟨J.kIn, ?_⟩
  rw [Vals.ref1 rv]
  have P1 := J.pin q (List.mem_append_left _ hq)
  have pin : PinOk X.stack H1 s1 q := ⟨P1.1, P1.2.1, fun z => (List.mem_cons.mp (J.stkSub q.1 z)).elim P1.2.2.1 P1.2.2.2.1, P1.2.2.2.2⟩
  refine wpAny_call (codeAny_mono (run X.A X.stack s1 H1 q C d ps Q hf hr hot pin c1 c2 J.env0 hp hQ) fun r s2 z => ?_)
  cases r with
  | error e => exact False.elim z
  | ok fl =>
    cases fl with
    | ret u => exact J.after z
    | next => exact False.elim z
    | brk => exact False.elim z
    | cont => exact False.elim z
end FP

namespace FP
open PySem PySem.Spec PyProof.Rows L2 HotX L2H
/-! ### an expression that answers or raises -/
def PR (X : Cx) (W : WX) (δ : De) (ω : Om) (e : Expr) (r : Rs) : Prop := ∀ σ H, Rl X.K H σ δ ω → ∀ Q : VK, RsQ X.K (ads ω) H Q (fun cls d H' => W cls d σ H') r → wpe X e σ H Q
section
variable {X : Cx} {W : WX} {δ : De} {ω : Om} {a e : Expr} {es : List Expr} {d : PyData} {ds : List PyData} {pos p : Pos} {k : Nat} {x : Str}
theorem PD.pr (h : PD X δ ω e d) : PR X W δ ω e (.ok d) := fun σ H rl Q q => h σ H rl Q q
theorem pr_call {fr : List PyData → Rs → Prop} {rr : Rs} (G : DefOk X.prog X.w X.K X.mg X.base k x fr) (hr : Room k X.A) (tk : L2N.Takes X W) (ha : PDs X δ ω (a :: es) ds) (hf : fr ds rr) (hg : Gl X x := by rfl)
    (hdb : (x == ("__debug__" : Str)) = false := by decide) (he : starEach (a :: es) X.env = (false, eval a X.env) :: starEach es X.env := by rfl) (hpl : (backTo pos (starEach es X.env)).any (·.1) = false := by rfl) : PR X W δ ω (.Call (.Name x p) (a :: es) [] pos) rr := fun σ H rl Q q => by
  obtain ⟨f, fd, ps, F, m, kp, b⟩ := G.ex
  refine we (pe_callS (E := WE W) F hr hg m kp b (fun σ => L2N.passAt tk σ) pa_w hdb he hpl) (ha σ H rl _ fun vs H1 s1 d1 => ⟨ads ω, ds, rr, there_mono rl.ro.there s1, d1, hf, ?_⟩)
  cases rr with
  | ok d => exact fun v H' s' d' => q v H' (s1.trans s') d'
  | er C => exact fun H' s' => q H' (s1.trans s')
end
/-! ### a lambda whose exceptions have no context -/
abbrev lamN (X : Cx) (A : Around) (outer : List Env) (s : Shared) (H : Hp) (E : XK) (scope : Scope) (f c' : Addr) : Cx :=
  (LamX.lamCx X A outer s H E scope f c').tr [] (fun e t => wpAny (model X.prog X.w) (A.deeper (LamX.lamEnv X scope s.heap.objs.size f c')) (leaving (LamX.lamEnv X scope s.heap.objs.size f c') e) (fun _ t' => L2N.CX X.prog X.w outer H s E e t') (fun e' t' => L2N.CX X.prog X.w outer H s E e' t') t)
theorem lamN_takes {X : Cx} {A : Around} {outer : List Env} {s : Shared} {H : Hp} {E : XK} {scope : Scope} {f c' : Addr} : L2N.Takes (lamN X A outer s H E scope f c') (WOf E) := L2N.takes_of rfl rfl rfl rfl
/-- it is called, where what it lets out is taken -/
theorem pe_lamN {X Z : Cx} {pins : List (Addr × Obj)} {σ : L2.St} {H : Hp} {s : Shared} {f c' : Addr} {pm ctv : Value} {params : Arguments} {body : Expr} {scope : Scope} {k i : Nat} {a : Str} {W : WX} {p1 p2 : Pos}
    (hP : Z.prog = X.prog) (hw : Z.w = X.w) (hK : Z.K = X.K) (hm : Z.mg = X.mg) (hB : Z.base = X.base) (h0 : Z.s_0 = s) (hH : Z.H_0 = H) (hex : Z.ex = []) (hfs : Z.fs = frs X.stack)
    (I : Inv X pins σ H s) (L : LamX.LamS X.env.scope scope) (hf : s.heap.get? f = some (PySem.W.kla_obj "<lambda>" (X.env.qual ++ "<lambda>") params body scope (cloFrom X.env.cells scope.names []) pm c' ctv)) (hfn : H f = none) (hfr : f ∉ frs X.stack)
    (hbind : bindArgs (PySem.W.kla_fn "<lambda>" (X.env.qual ++ "<lambda>") params body scope (cloFrom X.env.cells scope.names []) pm (.ref c') ctv) ⟨[], []⟩ = pure []) (tk : L2N.Takes Z W) (hr : Room (k + 1) Z.A)
    (hN : Z.N[i]? = some a) (hv : Vis Z.env.scope a) (hd : (a == ("__debug__" : Str)) = false := by decide) (hcd : (a == ("__classdict__" : Str)) = false := by decide) :
    PE Z (.Call (.Name a p1) [] [] p2) (fun τ G Q => τ[i]? = some (some (.ref f)) ∧ G c' = some (LamX.CodeO c' (X.env.qual ++ "<lambda>")) ∧
      ∀ (A : Around) (outer : List Env) (t : Shared), Room k (A.deeper (LamX.lamEnv X scope t.heap.objs.size f c')) → wpe (lamN X A outer t G (WE W τ) scope f c') body σ G Q) := by
  obtain ⟨zp, zw, zk, zmg, zb, zA, zN, zs, zh, zenv, zo, zst, zex, zfn, zc, zpn, zxe⟩ := Z
  dsimp only at hP hw hK hm hB h0 hH hex
  subst hP hw hK hm hB h0 hH hex
  refine ⟨fun pinsZ sZ τ G Q IZ h => ?_⟩
  obtain ⟨t1, t2, t3⟩ := h
  refine wpAny_Call_Name_kw (thn ((pe_var (pos := p1) (i := i) hN hv hd hcd).run pinsZ sZ τ G (fun v G1 => v = .ref f ∧ G1 = G) IZ ⟨.ref f, t1, rfl, rfl⟩) fun u s1 w => ?_)
  obtain ⟨v, G1, J, rv, ev, eG⟩ := w
  subst ev
  subst eG
  obtain rfl : u = Value.ref f := rv
  have un : Un (frs X.stack) [] zh G1 zs.heap s1.heap := by
    rw [← hfs]
    exact J.base
  have gf := un.keep f _ hf hfn hfr (fun z => nomatch z)
  have rc : codeAny (model X.prog X.w) zA (.call (.ref f) ⟨[], []⟩) (CR (L2N.CX X.prog X.w) zst X.prog X.w G1 s1 Q (WE W τ)) s1 := by
    obtain ⟨⟨oc, vs, tt, g1, g2, g3⟩, _, _⟩ := J.hok c' _ t2
    refine PySem.W.kla_callFunE hr.depth gf rfl L.co L.gen rfl ⟨c', oc, vs, tt, rfl, g1, g2, g3⟩ ?_
    rw [hbind]
    refine wpAny_pure (wpAny_newFunctionEnv (fun y hy => (L.own y hy).2) (fun y hy => (nomatch hy)) (fun h2 n2 b2 => ⟨J.nolimit.fresh _ b2, ?_⟩) L.kind)
    show codeAny _ _ (.expr body (LamX.lamEnv X scope s1.heap.objs.size f c')) _ _
    have J2 := (LamX.lam_start2 (E := WE W τ) (scope := scope) (f := f) (c' := c') (tk := s1.toks + ([] : List (Str × Value)).length) I L J.env0 hr.hd un n2 (fun b o e => b2.extBut b o (Nat.ne_of_lt (Heap.lt_size e)) (Heap.get?_push_of_some _ e))).toTry (fun e t => wpAny (model X.prog X.w) (zA.deeper (LamX.lamEnv X scope s1.heap.objs.size f c')) (leaving (LamX.lamEnv X scope s1.heap.objs.size f c') e) (fun _ t' => L2N.CX X.prog X.w zst G1 s1 (WE W τ) e t') (fun e' t' => L2N.CX X.prog X.w zst G1 s1 (WE W τ) e' t') t)
    refine PySem.W.kla_codeExpr (wpAny_mono (pe_w.run [] _ σ G1 Q J2 (t3 zA zst s1 (hr.deeper _))) (fun v s3 z => ?_) fun e s3 z => z)
    obtain ⟨v1, G3, J3, r3, q3⟩ := z
    exact ⟨v1, G3, J3.os, J3.bare, J3.base, J3.hok, r3, q3⟩
  refine PySem.W.callWith_F0 ⟨_, _, _, _, gf⟩ (wpAny_call (codeAny_mono rc fun r s2 z => ?_))
  · cases r with
    | error e => exact L2N.passAt tk τ pinsZ G1 s1 e s2 J z
    | ok fl =>
      cases fl with
      | ret u => exact J.after z
      | next => exact False.elim z
      | brk => exact False.elim z
      | cont => exact False.elim z
end FP

namespace FP
open PySem PySem.Spec PyProof.Rows L2 HotX L2H
theorem takesF {X : Cx} : L2N.Takes X (fun _ _ _ _ => False) := fun _ _ x => by
  obtain ⟨_, _, _, _, _, _, _, _, _, _, _, _, _, _, _, _, z⟩ := x
  cases z
/-- told: what the lambda answers, or the word about what it raised -/
def ToldD (K : PySem.W.Frag) (CS : Addr) (fw : Addr → PyData → Prop) (d : PyData) : Rs → Prop
  | .ok d' => d' = d
  | .er C => fw C d ∧ PySem.W.exmOne K (.ref C) (.ref CS) = some true
section
variable {X : Cx} {T : List (Addr × Str)} {δ : De} {ω : Om} {d : PyData} {pos p : Pos} {k : Nat}
theorem px_told {x a e n wd : Str} {st : Stmt} {Ng : List Str} {CS : Addr} {fw : Addr → PyData → Prop} {r : Rs} {p1 p2 p3 p4 p5 p6 p7 p8 p9 p10 lpos : Pos} {params : Arguments} {body : Expr} {scope : Scope} (G : Told X.K X.mg x st) (L : LamT X T) (hT : T ≠ []) (hps : ω.ps = []) (hr : Room (k + 2) X.A)
    (WK : WordOk X.prog X.w X.K X.mg X.base (k + 1) wd fw)
    (hst : defBody st = [.Try [.Return (some (.Call (.Name a p1) [] [] p2)) p3] [.ExceptHandler (some (.Name e p4)) (some n) [.Return (some (.Call (.Name wd p5) [.Name n p6] [] p7)) p8] p9] [] [] p10]) (S : FnScope Ng [a] (defScope st)) (hNd : Ng.Nodup) (hNg : Ng[0]? = some a) (hva : Vis (defScope st) a)
    (hN1 : Ng[1]? = some n) (hkn : (defScope st).names.lookup n = some .local) (hge : (defScope st).names.lookup e = some .globalImplicit) (hgw : (defScope st).names.lookup wd = some .globalImplicit) (hme : X.mg e = some (.ref CS))
    (hbn : ∀ (kV doc pm : Value) (an : Option Addr) (cdv ct : Value) (us : List Value), us.length = [a].length → bindArgs (PySem.W.fnOf x x (defArgs st) (defBody st) (defScope st) .none kV doc pm an cdv ct) ⟨us, []⟩ = pure ([a].zip us))
    (hb : ∀ (A : Around) (outer : List Env) (s : Shared) (H : Hp) (E : XK) (f c' : Addr), Room k (A.deeper (LamX.lamEnv X scope s.heap.objs.size f c')) → PR (lamN X A outer s H E scope f c') (WOf E) δ ω body r)
    (hd : ToldD X.K CS fw d r) (hL : LamX.LamS X.env.scope scope) (hdef : defaultsOf params X.env = ([], []) := by rfl) (hbind : ∀ (q : Str) (cl : List (Str × Addr)) (pm cv ctv : Value), bindArgs (PySem.W.kla_fn "<lambda>" q params body scope cl pm cv ctv) ⟨[], []⟩ = pure [] := by intros; rfl)
    (hg : Gl X x := by rfl) (hdb : (x == ("__debug__" : Str)) = false := by decide) (hd1 : (a == ("__debug__" : Str)) = false := by decide) (hcd1 : (a == ("__classdict__" : Str)) = false := by decide) (hde : (e == ("__debug__" : Str)) = false := by decide) (hdw : (wd == ("__debug__" : Str)) = false := by decide)
    (hdn : (n == ("__debug__" : Str)) = false := by decide) (hcn : (n == ("__classdict__" : Str)) = false := by decide) : PX X T δ ω (.Call (.Name x p) [.Lambda params body scope lpos] [] pos) d := fun σ H rl tb Q q => by
  obtain ⟨g, fd, F, hm⟩ := G.ex
  obtain ⟨c, P, TB, hcode, hmT, hu⟩ := L.ex
  have hbs := FunD.bindsN (ps := [a]) F hbn
  have kp := F.kp
  obtain ⟨oc, od, dV, kV, doc, pm, an, cdv, ct, osl, rfl, lk, hcd, hD, hK⟩ := F.ex
  unfold wpe
  intro pins s I
  refine wpAny_Call_Name_kw (ld_glob I hg hm ?_ hdb)
  refine PySem.W.callWith_K (h₀ := X.base) I.ok.mod.kin kp ?_ (by rfl) (by rfl)
  show wpAny _ _ (spliced ((false, eval (.Lambda params body scope lpos) X.env) :: backTo pos (starEach [] X.env))) _ _ s
  refine Calls.spliced_cons (LamX.lam_make2 I TB hcode hmT hu tb hdef (hL.has I.ok) fun f c' pm' ctv H1 s' I1 eN T1 hf hfn hfr hco => Calls.spliced_nil ⟨I1.kIn, ?_⟩)
  have rl1 : Rl X.K H1 σ δ ω := rl_ext (T := T) eN hps rl
  have done : ∀ v H2, Same H1 H2 → Dp X.K (hid (ads ω) H2) v d → Q v H2 := fun v H2 s2 d2 => q v H2 ⟨fun b o h _ p => s2 b o (eN b o h (p.resolve_left hT)), fun a h => .inl h, rfl, fun _ => T1.ext s2⟩ (rl1.mono s2) d2
  refine wpAny_call (codeAny_mono (R := CR C8.CX0 X.stack X.prog X.w H1 s' Q C8.E0) (LamX.run_ofS (N := Ng) (ps := [a]) (us := [.ref f]) (vs := [.ref f]) lk hcd S hr I1.env0 (hbs s' [.ref f] I1.kIn rfl) (.cons rfl .nil) rfl fun hr' => ?_) fun rr s2 z => ?_)
  · rw [hst]
    -- the def's own context
    have tryW := L2N.ps_try_as (X := (cxOf C8.CX0 X.prog X.w X.K X.mg X.base Ng x (defScope st) g cdv X.A X.stack s' H1 C8.E0).nox) (x := e) (n := n) (c := .ref CS) (i := 1) (np := p4) (pos := p10) (pos' := p9) (b₀ := .Return (some (.Call (.Name wd p5) [.Name n p6] [] p7)) p8) (suite := [])
      (body := [.Return (some (.Call (.Name a p1) [] [] p2)) p3]) (Wout := fun _ _ _ _ => False)
      (tb := fun W D τ G => τ[0]? = some (some (.ref f)) ∧ G c' = some (LamX.CodeO c' (X.env.qual ++ "<lambda>")) ∧ ∀ (A : Around) (outer : List Env) (t : Shared), Room k (A.deeper (LamX.lamEnv X scope t.heap.objs.size f c')) → wpe (lamN X A outer t G (WE W τ) scope f c') body σ G D.rt)
      (ts := fun b cls dd D τ G => ∃ C, cls = .ref C ∧ dd = none ∧ fw C d ∧ τ[1]? = some (some (.ref b)) ∧ (∀ a ∈ ads ω, G a ≠ none) ∧ ∀ v G', Same G G' → Dp X.K (hid (ads ω) G') v d → D.rt v G')
      rfl rfl hNd hN1 hkn ⟨hge, hde, .inl hme⟩ takesF
      (fun W pn xe tk _ => pss_one (ps_ret (pe_lamN (X := X) (Z := ((cxOf C8.CX0 X.prog X.w X.K X.mg X.base Ng x (defScope st) g cdv X.A X.stack s' H1 C8.E0).nox).tr pn xe) rfl rfl rfl rfl rfl rfl rfl rfl rfl I1 hL hf hfn hfr (hbind _ _ _ _ _) tk hr' hNg hva hd1 hcd1)))
      (fun b oe cls dd pn hz hfd => ⟨fun pins2 s2 τ G D J h => ?_⟩)
    · refine ⟨_, (pss_one tryW).nox, ?_⟩
      refine ⟨rfl, hco, fun A outer t hr2 => ?_⟩
      refine hb A outer t H1 _ f c' hr2 σ H1 rl1 Q ?_
      cases r with
      | ok d' =>
        cases hd
        exact done
      | er C =>
        intro H2 s2
        exact ⟨true, hd.2, fun _ b nb => ⟨C, rfl, rfl, hd.1, by
          rw [List.getElem?_set_self]
          unfold L2.start
          have := (List.getElem?_eq_some_iff.mp hN1).1
          simp
          omega, there_mono rl1.ro.there s2, fun v G' s3 dv => done v G' (s2.trans s3) dv⟩, fun z => by cases z⟩
    · obtain ⟨C, rfl, rfl, hfw, h1, h2, h3⟩ := h
      obtain ⟨vs, hv⟩ := hfd
      have pw := pe_word (X := ((cxOf C8.CX0 X.prog X.w X.K X.mg X.base Ng x (defScope st) g cdv X.A X.stack s' H1 C8.E0).nox).suite b ((b, oe) :: pn)) (q := (b, oe)) (i := 1) (p5 := p5) (p6 := p6) (p7 := p7) WK ⟨(roomH_of hr').dp, (roomH_of hr').un⟩ ⟨rfl, vs, hv, hz.2.2 vs hv⟩ List.mem_cons_self hz.1 hz.2.1 hfw hgw hN1 (.inl hkn) hdw hdn hcn
      exact (pss_one (ps_ret (pos := p8) pw)).run pins2 s2 τ G D J ⟨h1, ads ω, h2, h3⟩
  · cases rr with
    | error e => exact False.elim z
    | ok fl =>
      cases fl with
      | ret u => exact I1.after z
      | next => exact False.elim z
      | brk => exact False.elim z
      | cont => exact False.elim z
end
end FP

namespace FP
open PySem PySem.Spec PyProof.Rows L2
section
variable {X : Cx} {W : WX} {T : List (Addr × Str)} {δ : De} {ω : Om} {a b c e : Expr} {es : List Expr} {d da db dz : PyData} {ds dt : List PyData} {pos p : Pos} {k : Bool} {x : Str} {R : Out → Prop} {ss : List Stmt}
theorem pd_neg {i : Int} (ha : PD X δ ω a (.int i)) : PD X δ ω (.UnaryOp .USub a pos) (.int (-i)) := fun σ H rl Q q =>
  we (pe_un un_neg pe_w) (ha σ H rl _ fun v H1 s1 d1 => by
    cases d1
    exact ⟨i, rfl, q _ H1 s1 (.int _)⟩)
/-- list of a tuple -/
theorem pn_listT (hm : X.mg "list" = none) (ha : PD X δ ω a (.tuple ds)) (hg : Gl X "list" := by rfl) (he : starEach [a] X.env = (false, eval a X.env) :: starEach [] X.env := by rfl) : PN X δ ω (.Call (.Name "list" p) [a] [] pos) ds := fun σ H rl Q k =>
  we (pe_callTy call_list_of hg hm (by decide +kernel) (pa_cons pe_w pa_nil he) (he := he)) (ha σ H rl _ fun v H1 s1 d1 => by
    cases d1 with
    | tup h1 h2 => exact ⟨_, _, rfl, .inr (same_sqt hid_sub h1), fun l hl => k l _ _ (s1.trans (same_new hl)) (s1.free hl) upd_same (dpam (hid_new hl (same_new hl)) h2)⟩)
/-- is not None -/
theorem rd_notN {K : PySem.W.Frag} (hd : da ≠ .none) : RD K (fun x y H Q => y = .non ∧ Q (.bl (!decide (x = .non))) H) da .none (.bool true) := fun ps x y H _ hx hy Q q => by
  cases hy
  refine ⟨rfl, ?_⟩
  have e : decide (x = .non) = false := decide_eq_false fun z => by
    subst z
    cases hx
    exact hd rfl
  rw [e]
  exact q _ H (Same.refl H) (.bl _)
theorem rd_notN0 {K : PySem.W.Frag} : RD K (fun x y H Q => y = .non ∧ Q (.bl (!decide (x = .non))) H) .none .none (.bool false) := fun ps x y H _ hx hy Q q => by
  cases hx
  cases hy
  exact ⟨rfl, q _ H (Same.refl H) (.bl _)⟩
/-- a list of one's own that is compared -/
theorem pt_neL (hu : X.A.units + 64 < cLine) (h1 : SeqAt.shaped (.list ds) = true) (h2 : SeqAt.shaped db = true) (ha : PL X δ ω a ds) (hb : PD X δ ω b db) : PTd X δ ω (.Compare a [.NotEq] [b] pos) (!PyData.eqv (.list ds) db) := fun σ H rl Q q =>
  wt (pt_cmpR (op_neD hu) pe_w pe_w (nomark _)) (ha σ H rl _ fun p vs H1 s1 h3 d1 => hb σ H1 (rl.mono s1) _ fun y H2 s2 d2 =>
    ⟨.list ds, db, .lst (s2.seq h3) (dpam hid_sub (dpam (hid_same s2) d1)), dpm hid_sub d2, h1, h2, _, rfl, q H2 (s1.trans s2)⟩)
/-- the two lists that were made last, the other way round -/
theorem ads_swap {ps : List Addr} {o1 o2 : Addr × Od} {os : List (Addr × Od)} {H : Hp} : hid (ads ⟨ps, o1 :: o2 :: os⟩) H = hid (ads ⟨ps, o2 :: o1 :: os⟩) H := by
  funext z
  have e : (z ∈ ads ⟨ps, o1 :: o2 :: os⟩) ↔ (z ∈ ads ⟨ps, o2 :: o1 :: os⟩) := by
    show z ∈ ps ++ o1.1 :: o2.1 :: os.map (·.1) ↔ z ∈ ps ++ o2.1 :: o1.1 :: os.map (·.1)
    simp only [List.mem_append, List.mem_cons]
    constructor <;> (rintro (h | h | h | h) <;> simp [h])
  unfold hid
  by_cases h : z ∈ ads ⟨ps, o1 :: o2 :: os⟩
  · rw [if_pos h, if_pos (e.mp h)]
  · rw [if_neg h, if_neg (fun g => h (e.mpr g))]
theorem sd_swap {ps : List Addr} {o1 o2 : Addr × Od} {os : List (Addr × Od)} (h : SD X W T ss δ ⟨ps, o2 :: o1 :: os⟩ R) : SD X W T ss δ ⟨ps, o1 :: o2 :: os⟩ R := fun σ H D rl t k => by
  have mem : ∀ z : Addr, z ∈ osA ⟨ps, o2 :: o1 :: os⟩ → z ∈ osA ⟨ps, o1 :: o2 :: os⟩ := fun z hz => by
    have hz : z ∈ o2.1 :: o1.1 :: os.map (·.1) := hz
    show z ∈ o1.1 :: o2.1 :: os.map (·.1)
    simp only [List.mem_cons] at hz ⊢
    rcases hz with h | h | h <;> simp [h]
  have mem2 : ∀ z : Addr, z ∈ osA ⟨ps, o1 :: o2 :: os⟩ → z ∈ osA ⟨ps, o2 :: o1 :: os⟩ := fun z hz => by
    have hz : z ∈ o1.1 :: o2.1 :: os.map (·.1) := hz
    show z ∈ o2.1 :: o1.1 :: os.map (·.1)
    simp only [List.mem_cons] at hz ⊢
    rcases hz with h | h | h <;> simp [h]
  have st0 : Stp T ⟨ps, o1 :: o2 :: os⟩ ⟨ps, o2 :: o1 :: os⟩ H H := ⟨fun b o e _ _ => e, fun z hz => .inl (mem z hz), rfl, fun t => t⟩
  refine h σ H D ⟨rl.len, fun i r hi => ?_, fun z o hz => ?_, ?_, rl.ro.th⟩ t (k.step st0)
  · obtain ⟨v, h1, h2⟩ := rl.sl i r hi
    rw [ads_swap] at h2
    exact ⟨v, h1, h2⟩
  · have g := rl.ro.ob z o (by
      have hz : (z, o) ∈ o2 :: o1 :: os := hz
      show (z, o) ∈ o1 :: o2 :: os
      simp only [List.mem_cons] at hz ⊢
      rcases hz with h | h | h <;> simp [h])
    rw [ads_swap] at g
    exact g
  · have nd : (o1.1 :: o2.1 :: os.map (·.1)).Nodup := rl.ro.nd
    show (o2.1 :: o1.1 :: os.map (·.1)).Nodup
    exact (List.Perm.swap o2.1 o1.1 _).nodup nd
/-! ### lists of what is told -/
theorem app_step {K : PySem.W.Frag} {H : Hp} {σ : L2.St} {D : Addr} {xs : List PyData} {vs : List V} {y : V} (rl : Rl K H σ δ (omD ω D (.lst (xs.map .im)))) (e3 : H D = some (.lst vs)) (e4 : Paired (SdV K (hid (ads (omD ω D (.lst (xs.map .im)))) H)) (xs.map .im) vs)
    (d1 : Dp K (hid (ads (omD ω D (.lst (xs.map .im)))) H) y d) : Stp T (omD ω D (.lst (xs.map .im))) (omD ω D (.lst ((xs ++ [d]).map .im))) H (upd H D (.lst (vs ++ [y]))) ∧ Rl K (upd H D (.lst (vs ++ [y]))) σ δ (omD ω D (.lst ((xs ++ [d]).map .im))) := by
  have hh : Same (hid (ads (omD ω D (.lst (xs.map .im)))) H) (hid (ads (omD ω D (.lst ((xs ++ [d]).map .im)))) (upd H D (.lst (vs ++ [y])))) := hid_upd
  refine ⟨⟨fun b o h n _ => ?_, fun a h => .inl h, rfl, fun t => ?_⟩, ⟨rl.len, fun j r h => ?_, fun z o h => ?_, rl.ro.nd, fun z h hz => ?_⟩⟩
  · have nb : b ≠ D := fun z => n (by rw [z]; exact List.mem_cons_self)
    rw [upd_ne nb]
    exact h
  · intro q hq
    obtain ⟨ps, a1, a2, a3⟩ := t q hq
    refine ⟨ps, by rw [upd_ne (ne_of a1 e3 (by intro z; cases z))]; exact a1, a2, fun p' cv hc => ?_⟩
    obtain ⟨c0, b1, b2⟩ := a3 p' cv hc
    exact ⟨c0, b1, by rw [upd_ne (ne_of b2 e3 (by intro z; unfold LamX.CodeO at z; cases z))]; exact b2⟩
  · obtain ⟨v, h1, h2⟩ := rl.sl j r h
    exact ⟨v, h1, sdv_mono hh h2⟩
  · rcases List.mem_cons.mp h with q | q
    · cases q
      exact ⟨vs ++ [y], upd_same, im_dpa (dpa_app (dpam hh (dpa_im e4)) (.cons (dpm hh d1) .nil))⟩
    · have nd2 : (D :: ω.os.map (·.1)).Nodup := rl.ro.nd
      have na : z ≠ D := fun zz => (List.nodup_cons.mp nd2).1 (List.mem_map.mpr ⟨(z, o), q, zz⟩)
      have g := rl.ro.ob z o (List.mem_cons_of_mem _ q)
      exact odv_keep (fun w => sdv_mono hh w) (fun u _ g1 => by rw [upd_ne na]; exact g1) g
  · have hn := rl.ro.th z h
    by_cases za : z = D
    · rw [za, upd_same] at hz
      cases hz
    · rw [upd_ne za] at hz
      exact hn hz
theorem sd_appx (i : Nat) {p1 apos cpos : Pos} {D : Addr} {xs : List PyData} (he : PX X T δ (omD ω D (.lst (xs.map .im))) e d) (hk : SD X W T ss δ (omD ω D (.lst ((xs ++ [d]).map .im))) R) (hz : xs.length < 10000)
    (hd : δ[i]? = some (some (.ad D)) := by rfl) (hN : X.N[i]? = some x := by rfl) (hv : Vis X.env.scope x := by first | exact Or.inl rfl | exact Or.inr (Or.inl rfl) | exact Or.inr (Or.inr rfl))
    (h1 : (x == ("__debug__" : Str)) = false := by decide) (h2 : (x == ("__classdict__" : Str)) = false := by decide)
    (hs : swapsWith (.Call (.Attribute (.Name x p1) "append" apos) [e] [] cpos) none pos.line X.env = pure false := by rfl)
    (hbase : attributeBase (.Name x p1) "append" X.env (eval (.Name x p1) X.env) = eval (.Name x p1) X.env := by rfl)
    (hfew : ((backTo cpos (starEach [e] X.env)).all (fun x => !x.1) && (backToKw cpos (keywordEach [] X.env)).all (fun x => x.1.isSome)
      && decide (([e] : List Expr).length + ([] : List Keyword).length + (if ([] : List Keyword).isEmpty then 0 else 1) < 30)) = true := by rfl)
    (hline : (apos.endLine == cpos.line) = true := by rfl) (hst : starEach [e] X.env = (false, eval e X.env) :: starEach [] X.env := by rfl) :
    SD X W T (.Expr (.Call (.Attribute (.Name x p1) "append" apos) [e] [] cpos) pos :: ss) δ (omD ω D (.lst (xs.map .im))) R :=
  sd_cons fun σ H Dd rl t k => by
    obtain ⟨v, e1, e2⟩ := rl.sl i _ hd
    have e2 : v = .ref D := e2
    subst e2
    obtain ⟨vs, e3, e4⟩ := rl.ro.ob D _ List.mem_cons_self
    refine ws (ps_expr (pe_bm PySem.F.plainAttrs_list PySem.F.slot_list_append PySem.F.type_list_append mt_append (pe_var hN hv h1 h2) (pa_cons pe_w pa_nil hst) hbase hfew hline hst) hs) ⟨_, e1, .inl ⟨rfl, vs, SqL.of e3⟩, he σ H rl t _ fun y H1 s1 l1 d1 => ?_⟩
    obtain ⟨us, f3, f4⟩ := l1.ro.ob D _ List.mem_cons_self
    obtain ⟨g1, g2⟩ := app_step (T := T) l1 f3 f4 d1
    exact ⟨D, us, y, rfl, rfl, f3, by rw [dpa_len (dpa_im f4)]; exact Nat.lt_of_lt_of_le hz (by rw [sizeLine_eq]; decide), k.nx δ _ σ _ hk (s1.trans g1) g2⟩
/-- x = [..], a new list of what is told -/
theorem sd_ownx (i : Nat) {pos' lpos : Pos} (he : PXs X T δ ω es ds) (hk : ∀ D, SD X W T ss (δ.set i (some (.ad D))) (omD ω D (.lst (ds.map .im))) R) (hz : ds.length ≤ 1000) (hN : X.N.Nodup) (hi : X.N[i]? = some x := by rfl) (hx : Loc X.env.scope x := by first | exact Or.inl rfl | exact Or.inr rfl)
    (hs : swapsWith (.List es lpos) (some (.Name x pos')) pos.line X.env = pure false := by rfl) (hf : X.fn x = true ∨ X.env.scope.names.lookup x = some .local := by first | exact .inl rfl | exact .inr rfl | assumption) : SD X W T (.Assign [.Name x pos'] (.List es lpos) pos :: ss) δ ω R :=
  sd_cons fun σ H D rl t k => ws (ps_set hN hi hx (pe_lst pa_w) hs hf) (he σ H rl t _ fun vs H1 s1 l1 d1 => ⟨Nat.le_of_lt (small1000 (by rw [dpa_len d1]; exact hz)), fun q hq => by
    have l2 : Rl X.K (upd H1 q (.lst vs)) σ δ (omD ω q (.lst (ds.map .im))) := l1.omD hq (same_new hq) upd_same (dpam (hid_in hq (same_new hq)) d1)
    refine k.nx _ _ _ _ (hk q) (s1.trans ⟨fun b o h _ _ => same_new hq b o h, fun z h => ?_, rfl, fun t => t.ext (same_new hq)⟩) (l2.set (x := .ad q) (v := .ref q) rfl)
    rcases List.mem_cons.mp (show z ∈ q :: ω.os.map (·.1) from h) with w | w
    · exact .inr fun o ho => by
        rw [w, hq] at ho
        cases ho
    · exact .inl w⟩)
end
end FP

namespace FP
open PySem PySem.Spec PyProof.Rows L2
section
variable {X : Cx} {W : WX} {T : List (Addr × Str)} {δ : De} {ω : Om} {iter : Expr} {pos : Pos} {R : Out → Prop} {ss sa : List Stmt}
/-- for a, b, .. in ..: tuples -/
theorem sd_forU (is : List Nat) {n kk : Nat} {ts : List Expr} {p' : Pos} {items : List (List PyData)} (inv : Nat → De → Om → Prop) (hw : PWk X δ ω (.Tuple ts kk p') iter (items.map .tuple)) (h0 : inv 0 δ ω)
    (hb : ∀ i ds δ' ω', items[i]? = some ds → inv i δ' ω' → SD X W T sa (setAll δ' is ds) ω' (Turn1 inv i (Nxt X W T ss R) R))
    (hd : ∀ δ' ω', inv items.length δ' ω' → SD X W T ss δ' ω' R) (hn : ∀ ds ∈ items, ds.length = n) (hi : is.length = n) (hg : PG X (.Tuple ts kk p') (gTup X.K n (gAll is))) (hp : PassesOwn (model X.prog X.w) X.A X.env X.xe) (hc : X.calm = true) (hs : ∀ x, foldedSetIterable iter X.env x = pure x := by intro _; rfl) : SD X W T (.For (.Tuple ts kk p') iter sa [] pos :: ss) δ ω R := by
  obtain ⟨wi, h1, h2⟩ := hw
  refine sd_cons fun σ H D rl t k => ws (ps_for hp hc h1 hg pss_w hs) (h2 σ H rl _ fun J H1 s1 w => ?_)
  refine ⟨fun i m σ' H' => ∃ δ' ω', m = items.length - i ∧ i ≤ items.length ∧ inv i δ' ω' ∧ Stp T ω ω' H1 H' ∧ Rl X.K H' σ' δ' ω', ⟨items.length, δ, ω, by omega, Nat.zero_le _, h0, .refl, rl.mono s1⟩, ?_⟩
  rintro i m σ' H' ⟨δ', ω', em, hi2, iv, st, rl'⟩
  obtain ⟨go, stop, yld⟩ := w T H' (fun b o z p => (hid_out (st.seen b o z p)).2)
  rw [List.length_map] at go stop yld
  have k1 := k.step (Stp.of s1 : Stp T ω ω H H1)
  by_cases hlt : i < items.length
  · refine .inr ⟨go i hlt, fun σ2 H2 => ∃ δ2 ω2, inv (i + 1) δ2 ω2 ∧ Stp T ω ω2 H1 H2 ∧ Rl X.K H2 σ2 δ2 ω2, fun σ2 H2 ⟨δ2, ω2, a1, a2, a3⟩ => ⟨items.length - (i + 1), by omega, δ2, ω2, rfl, hlt, a1, a2, a3⟩, fun x H2 hy => ?_⟩
    obtain ⟨e2, d, ed, dx⟩ := yld i x H2 hlt hy
    subst e2
    have eds : items[i]? = some items[i] := List.getElem?_eq_getElem hlt
    rw [List.getElem?_map, eds] at ed
    cases ed
    have dx2 := dp_ke st.seen _ x dx
    have k2 := k1.step st
    cases dx2 with
    | tup g1 g2 =>
      refine ⟨_, _, rfl, same_sqt hid_sub g1, by rw [dpa_len g2]; exact hn _ (List.getElem_mem hlt), gAll_ok rl' g2 (hi.trans (hn _ (List.getElem_mem hlt)).symm) fun σ3 l3 => ?_⟩
      refine hb i _ δ' ω' eds iv _ _ _ l3 (st.tab (t.ext s1)) ?_
      exact ⟨fun δ2 ω2 σ2 H2 z q l => ⟨δ2, ω2, z, st.trans q, l⟩, fun r ω2 v H2 z q l dv => k2.rt r ω2 v H2 z q l dv, fun C ω2 σ2 H2 z q l => k2.ex C ω2 σ2 H2 z q l, fun δ2 ω2 σ2 H2 z q l => k2.nx δ2 ω2 σ2 H2 z q l, fun δ2 ω2 σ2 H2 z q l => ⟨δ2, ω2, z, st.trans q, l⟩⟩
  · have e : i = items.length := by omega
    subst e
    exact .inl ⟨stop, (k1.step st).nx δ' ω' σ' H' (hd δ' ω' iv) .refl rl'⟩
end
end FP

namespace FP
open PySem PySem.Spec PyProof.Rows L2
/-! ### match: a tuple of data, patterns of a word and names -/
@[irreducible] def wpm (X : Cx) (cs : List MatchCase) (x : V) (first : Bool) : TS := fun D σ H => ∀ pins s u, Inv X pins σ H s → RelV x u → wpAny (model X.prog X.w) X.A (matchCases cs X.env u first) (SP X pins D) X.xe s
/-- the cases, asked of data -/
def MC (X : Cx) (W : WX) (T : List (Addr × Str)) (cs : List MatchCase) (d : PyData) (δ : De) (ω : Om) (R : Out → Prop) : Prop :=
  ∀ (first : Bool) (x : V) σ H D, Rl X.K H σ δ ω → LamX.Tabs T H → Dp X.K (hid (ads ω) H) x d → Kt X W T ω H D R → wpm X cs x first D σ H
/-- patterns that are names alone -/
def capN : List Pattern → Option (List Str)
  | [] => some []
  | .MatchAs none (some n) _ :: ps => (capN ps).map (n :: ·)
  | _ => none
theorem each_caps {M : Model} {A : Around} {E : Value → Shared → Prop} {env : Env} : ∀ {ps : List Pattern} {ns : List Str} {us : List Value} {s : Shared} {Q : Option (List (Str × Value)) → Shared → Prop}, capN ps = some ns → us.length = ns.length → Q (some (ns.zip us)) s → wpAny M A (matchEach ps env us) Q E s
  | [], ns, us, s, Q, h, hl, q => by
    cases h
    exact wpAny_matchEach_nil q
  | p :: ps, ns, us, s, Q, h, hl, q => by
    unfold capN at h
    split at h
    · rename_i h2
      cases h2
    · rename_i n pp ps' heq
      cases heq
      cases e : capN ps with
      | none =>
        rw [e] at h
        cases h
      | some ns' =>
        rw [e] at h
        cases h
        match us, hl with
        | u :: us', hl => exact wpAny_matchEach_cons (wpAny_matchPattern_Capture (each_caps e (Nat.succ.inj hl) q))
    · cases h
section
variable {X : Cx} {W : WX} {T : List (Addr × Str)} {δ : De} {ω : Om} {e : Expr} {d : PyData} {ds : List PyData} {pos p1 p2 p3 : Pos} {R : Out → Prop} {ss body : List Stmt} {cs : List MatchCase} {ps : List Pattern} {z : Str} {k : Nat}
theorem sd_match (he : PD X δ ω e d) (hm : MC X W T cs d δ ω (Nxt X W T ss R)) : SD X W T (.Match e cs pos :: ss) δ ω R := by
  refine sd_cons fun σ H D rl t kt => ?_
  have h1 := he σ H rl (fun v H1 => wpm X cs v true D σ H1) fun v H1 s1 d1 => hm true v σ H1 D (rl.mono s1) (t.ext s1) d1 (kt.step (.of s1))
  unfold wps
  intro pins s I
  refine wpAny_Match (wpAny_mono (pe_w.run pins s σ H _ I h1) (fun u s1 w => ?_) fun _ _ x => x)
  obtain ⟨v, H1, J, rv, q⟩ := w
  unfold wpm at q
  exact q pins s1 u J rv
theorem mc_nil (h : R (.nx δ ω)) : MC X W T [] d δ ω R := fun first x σ H D rl t dx kt => by
  unfold wpm
  exact fun pins s u I r => wpAny_matchCases_nil ⟨σ, H, I, kt.nx δ ω σ H h .refl rl⟩
/-- another number of things -/
theorem mc_len (hn : ds.length ≠ ps.length) (hz : ds.length ≤ 100000) (hr : MC X W T cs (.tuple ds) δ ω R) (hstar : ps.findIdx? (·.isStar) = none := by rfl) (hwild : (ps.all fun p => p.isWildcard || (p.isStar && p.names.isEmpty)) = false := by rfl) :
    MC X W T (⟨.MatchSequence ps p1, none, body⟩ :: cs) (.tuple ds) δ ω R := fun first x σ H D rl t dx kt => by
  have h2 := hr false x σ H D rl t dx kt
  unfold wpm at h2 ⊢
  intro pins s u I r
  cases dx with
  | tup g1 g2 =>
    obtain rfl : u = Value.ref _ := r
    obtain ⟨its, rv, it, _⟩ := I.tuple (same_sqt hid_sub g1)
    have len : its.length = ds.length := by rw [← rv.length, dpa_len g2]
    exact wpAny_matchCases_cons (matchSeq_tuple_miss it (by rw [List.size_toArray, len]; omega) (by rw [List.size_toArray, len]; exact hn) (h2 pins _ _ (I.kept (t' := s.toks + 1 + 1) fun _ _ z => z) rfl) hstar hwild)
theorem seq_word {E : Value → Shared → Prop} {pins : List (Addr × Obj)} {σ : L2.St} {H : Hp} {s : Shared} {a : Addr} {vs : List V} {y : Str} {Q : Option (List (Str × Value)) → Shared → Prop} (hc : X.calm = true) (I : Inv X pins σ H s) (g : SqT X.K H a (.str y :: vs)) (hl : vs.length = ps.length) (hz : vs.length < 100000)
    (hq : ∀ us s1, Inv X pins σ H s1 → Vals vs us → if y = z then wpAny (model X.prog X.w) X.A (matchEach ps X.env us) (fun r s2 => Q r s2) X.xe s1 else Q none s1) (hstar : (.MatchValue (.Constant (.str z) k p2) p3 :: ps : List Pattern).findIdx? (·.isStar) = none) :
    wpAny (model X.prog X.w) X.A (matchPattern (.MatchSequence (.MatchValue (.Constant (.str z) k p2) p3 :: ps) p1) X.env (.ref a)) Q X.xe s := by
  obtain ⟨its, rv, it, _⟩ := I.tuple g
  have len : its.length = (vs.length + 1) := by rw [← rv.length]; rfl
  cases rv with
  | cons r0 rr =>
    rename_i u0 us
    have lus : us.length = vs.length := by rw [← rr.length]
    refine matchSeq_tuple_hit it (by rw [List.size_toArray]; simp only [List.length_cons]; omega) (by rw [List.size_toArray]; simp only [List.length_cons]; omega) ?_ hstar rfl
    have J : Inv X pins σ H { s with toks := s.toks + 1 + 1 } := I.kept (t' := s.toks + 1 + 1) fun _ _ z => z
    have e1 : (u0 :: us).toArray.size = (.MatchValue (.Constant (.str z) k p2) p3 :: ps : List Pattern).length := by
      rw [List.size_toArray]
      simp only [List.length_cons]
      omega
    rw [← e1]
    refine unpackItems_tuple (I.ok.hd hc) (s := { s with toks := s.toks + 1 + 1 }) it fun h' ext => ?_
    have J2 : Inv X pins σ H { s with heap := h', toks := s.toks + 1 + 1 } := I.kept (t' := s.toks + 1 + 1) fun b o e => ext b o (Nat.ne_of_lt (Heap.lt_size e)) e
    show wpAny _ _ (matchEach (.MatchValue (.Constant (.str z) k p2) p3 :: ps) X.env (u0 :: us)) _ _ _
    refine wpAny_matchEach_cons (wpAny_matchPattern_Value (wpAny_mono ((pe_str (X := X) (x := z) (j := k) (pos := p2)).run pins _ σ H (fun v H1 => v = .str z ∧ H1 = H) J2 ⟨rfl, rfl⟩) (fun u s3 w => ?_) fun _ _ x => x))
    obtain ⟨v, H1, J3, rz, ev, eH⟩ := w
    subst ev
    subst eH
    refine wpAny_mono (op_eq (X := X) pins s3 σ H1 (.str y) (.str z) u0 u (fun v H2 => v = .bl (decide (y = z)) ∧ H2 = H1) J3 r0 rz ⟨rfl, ?_, rfl⟩) (fun uc s4 w => ?_) fun _ _ x => x
    · by_cases c : y = z
      · subst c
        simp
      · rw [decide_eq_false c, decide_eq_false (fun q => c (V.str.inj q))]
    · obtain ⟨v, H2, J4, rb, ev, eH⟩ := w
      subst ev
      subst eH
      cases rb
      have q := hq us s4 J4 rr
      by_cases c : y = z
      · rw [decide_eq_true c]
        rw [if_pos c] at q
        refine wpAny_of_eq (a := true) rfl ?_
        simp only [if_true]
        refine wpAny_mono q (fun r s5 w => ?_) fun _ _ x => x
        cases r with
        | none => exact w
        | some more => exact w
      · rw [decide_eq_false c]
        rw [if_neg c] at q
        exact wpAny_of_eq (a := false) rfl q
end
end FP

namespace FP
open PySem PySem.Spec PyProof.Rows L2
/-- the names' slots, all of them locals -/
def capB (N : List Str) (sc : Scope) : List Str → List Nat → Bool
  | [], [] => true
  | n :: ns, i :: is => decide (N[i]? = some n) && (decide (sc.names.lookup n = some .local) && capB N sc ns is)
  | _, _ => false
theorem assign_caps {X : Cx} {pins : List (Addr × Obj)} {H : Hp} {Q : L2.St → Hp → Prop} {M : Model} {A : Around} {E : Value → Shared → Prop} (hN : X.N.Nodup) : ∀ {ns : List Str} {is : List Nat} {us : List Value} {vs : List V} {σ : L2.St} {s : Shared}, capB X.N X.env.scope ns is = true → Inv X pins σ H s → Vals vs us → us.length = ns.length → gAll is vs σ H Q →
    wpAny M A (assignInOrder ((ns.zip us).map fun x => bindName X.env x.1) ((ns.zip us).map (·.2))) (fun _ s' => ∃ σ' H', Inv X pins σ' H' s' ∧ Q σ' H') E s
  | [], [], [], _, σ, s, _, I, .nil, _, g => wpAny_assignInOrder_none ⟨σ, H, I, g.2⟩
  | n :: ns, i :: is, u :: us, _, σ, s, hb, I, .cons r rr, hl, g => by
    obtain ⟨h1, h2⟩ := He.ba hb
    obtain ⟨h2, h3⟩ := He.ba h2
    obtain ⟨v, w, e, g⟩ := g
    cases e
    refine wpAny_assignInOrder_more (wpAny_bindName (store_ok I hN (of_decide_eq_true h1) (.inl (of_decide_eq_true h2)) r (fun s1 J => ?_) (.inr (of_decide_eq_true h2))))
    exact assign_caps hN h3 J rr (Nat.succ.inj hl) g
  | n :: ns, [], _, _, _, _, hb, _, _, _, _ => by cases hb
  | [], i :: is, _, _, _, _, hb, _, _, _, _ => by cases hb
  | [], [], u :: us, _, _, _, _, _, _, hl, _ => by cases hl
  | n :: ns, i :: is, [], _, _, _, _, _, _, hl, _ => by cases hl
section
variable {X : Cx} {W : WX} {T : List (Addr × Str)} {δ : De} {ω : Om} {d : PyData} {ds : List PyData} {p1 p2 p3 : Pos} {R : Out → Prop} {body : List Stmt} {cs : List MatchCase} {ps : List Pattern} {y z : Str} {k : Nat}
/-- another word -/
theorem mc_word (hc : X.calm = true) (hn : y ≠ z) (hl : ds.length = ps.length) (hz : ds.length < 100000) (hr : MC X W T cs (.tuple (.str y :: ds)) δ ω R) (hstar : (.MatchValue (.Constant (.str z) k p2) p3 :: ps : List Pattern).findIdx? (·.isStar) = none := by rfl) :
    MC X W T (⟨.MatchSequence (.MatchValue (.Constant (.str z) k p2) p3 :: ps) p1, none, body⟩ :: cs) (.tuple (.str y :: ds)) δ ω R := fun first x σ H D rl t dx kt => by
  have h2 := hr false x σ H D rl t dx kt
  unfold wpm at h2 ⊢
  intro pins s u I r
  cases dx with
  | tup g1 g2 =>
    obtain rfl : u = Value.ref _ := r
    cases g2 with
    | cons b1 b2 =>
      cases b1
      refine wpAny_matchCases_cons (seq_word (E := X.xe) (y := y) (z := z) hc I (same_sqt hid_sub g1) (by rw [dpa_len b2]; exact hl) (by rw [dpa_len b2]; exact hz) (fun us s1 J rv => ?_) hstar)
      rw [if_neg hn]
      exact h2 pins s1 _ J rfl
/-- this word: the names are set -/
theorem mc_hit (is : List Nat) {ns : List Str} (hc : X.calm = true) (hN : X.N.Nodup) (hl : ds.length = ps.length) (hz : ds.length < 100000) (hi : is.length = ds.length) (hcap : capN ps = some ns) (hat : capB X.N X.env.scope ns is = true) (hb : SD X W T body (setAll δ is ds) ω R)
    (hstar : (.MatchValue (.Constant (.str z) k p2) p3 :: ps : List Pattern).findIdx? (·.isStar) = none := by rfl) :
    MC X W T (⟨.MatchSequence (.MatchValue (.Constant (.str z) k p2) p3 :: ps) p1, none, body⟩ :: cs) (.tuple (.str z :: ds)) δ ω R := fun first x σ H D rl t dx kt => by
  have lns : ∀ {ps : List Pattern} {ns : List Str}, capN ps = some ns → ns.length = ps.length := by
    intro ps
    induction ps with
    | nil =>
      intro ns h
      cases h
      rfl
    | cons p ps ih =>
      intro ns h
      unfold capN at h
      split at h
      · rename_i h2
        cases h2
      · rename_i n pp ps' heq
        cases heq
        cases e : capN ps with
        | none =>
          rw [e] at h
          cases h
        | some ns' =>
          rw [e] at h
          cases h
          rw [List.length_cons, List.length_cons, ih e]
      · cases h
  unfold wpm
  intro pins s u I r
  cases dx with
  | tup g1 g2 =>
    obtain rfl : u = Value.ref _ := r
    cases g2 with
    | cons b1 b2 =>
      cases b1
      refine wpAny_matchCases_cons (seq_word (E := X.xe) (y := z) (z := z) hc I (same_sqt hid_sub g1) (by rw [dpa_len b2]; exact hl) (by rw [dpa_len b2]; exact hz) (fun us s1 J rv => ?_) hstar)
      rw [if_pos rfl]
      have lus : us.length = ns.length := by rw [← rv.length, dpa_len b2, hl, lns hcap]
      refine each_caps hcap lus ?_
      refine wpAny_mono (assign_caps hN hat J rv lus (gAll_ok (Q := fun σ' H' => H' = H ∧ Rl X.K H σ' (setAll δ is ds) ω) rl b2 hi fun σ' l => ⟨rfl, l⟩)) (fun _ s2 w => ?_) fun _ _ x => x
      obtain ⟨σ', H', J2, eH, l2⟩ := w
      subst eH
      exact pss_w.run pins s2 σ' H' D J2 (hb σ' H' D l2 t kt)
end
end FP

namespace FP
open PySem PySem.Spec PyProof.Rows L2
/-! ### objects with fields of data -/
abbrev Fs := List (Str × PyData)
def imF (fs : Fs) : List (Str × Sd) := fs.map fun p => (p.1, .im p.2)
def putD (f : Str) (d : PyData) : Fs → Fs
  | [] => [(f, d)]
  | (g, x) :: r => if g = f then (g, d) :: r else (g, x) :: putD f d r
/-- fields as they lie -/
inductive FV (K : PySem.W.Frag) (H : Hp) : Fs → List (Str × V) → Prop
  | nil : FV K H [] []
  | cons {g : Str} {d : PyData} {v : V} {fs : Fs} {vs : List (Str × V)} (h : Dp K H v d) (r : FV K H fs vs) : FV K H ((g, d) :: fs) ((g, v) :: vs)
theorem fv_mono {K : PySem.W.Frag} {H H' : Hp} (e : Same H H') : ∀ {fs : Fs} {vs : List (Str × V)}, FV K H fs vs → FV K H' fs vs
  | _, _, .nil => .nil
  | _, _, .cons h r => .cons (dpm e h) (fv_mono e r)
theorem fv_ke {T : List (Addr × Str)} {K : PySem.W.Frag} {H H' : Hp} (e : Ke T H H') : ∀ {fs : Fs} {vs : List (Str × V)}, FV K H fs vs → FV K H' fs vs
  | _, _, .nil => .nil
  | _, _, .cons h r => .cons (dp_ke e _ _ h) (fv_ke e r)
theorem fv_of {K : PySem.W.Frag} {H : Hp} : ∀ {fs : Fs} {vs : List (Str × V)}, Paired (fun (p : Str × Sd) (q : Str × V) => p.1 = q.1 ∧ SdV K H p.2 q.2) (imF fs) vs → FV K H fs vs
  | [], _, h => by
    cases h
    exact .nil
  | (g, d) :: fs, _, h => by
    cases h with
    | cons a b =>
      rename_i q vs
      obtain ⟨g', v⟩ := q
      obtain ⟨e, a⟩ := a
      cases e
      exact .cons a (fv_of b)
theorem of_fv {K : PySem.W.Frag} {H : Hp} : ∀ {fs : Fs} {vs : List (Str × V)}, FV K H fs vs → Paired (fun (p : Str × Sd) (q : Str × V) => p.1 = q.1 ∧ SdV K H p.2 q.2) (imF fs) vs
  | _, _, .nil => .nil
  | _, _, .cons h r => .cons ⟨rfl, h⟩ (of_fv r)
theorem fv_put {K : PySem.W.Frag} {H : Hp} {f : Str} {d : PyData} {y : V} (h : Dp K H y d) : ∀ {fs : Fs} {vs : List (Str × V)}, FV K H fs vs → FV K H (putD f d fs) (putF f y vs)
  | _, _, .nil => .cons h .nil
  | (g, _) :: _, _, .cons a r => by
    unfold putD putF
    by_cases e : g = f
    · rw [if_pos e, if_pos e]
      exact .cons h r
    · rw [if_neg e, if_neg e]
      exact .cons a (fv_put h r)
theorem fv_get {K : PySem.W.Frag} {H : Hp} {f : Str} {d : PyData} : ∀ {fs : Fs} {vs : List (Str × V)}, FV K H fs vs → fs.lookup f = some d → ∃ v, vs.lookup f = some v ∧ Dp K H v d
  | _, _, .nil, h => by cases h
  | (g, x) :: fs, (_, v) :: vs, .cons a r, h => by
    rw [List.lookup_cons] at h ⊢
    cases e : f == g with
    | true =>
      rw [e] at h
      cases h
      exact ⟨v, rfl, a⟩
    | false =>
      rw [e] at h
      exact fv_get r h
theorem fv_none {K : PySem.W.Frag} {H : Hp} {f : Str} : ∀ {fs : Fs} {vs : List (Str × V)}, FV K H fs vs → fs.lookup f = none → vs.lookup f = none
  | _, _, .nil, _ => rfl
  | (g, x) :: fs, (_, v) :: vs, .cons a r, h => by
    rw [List.lookup_cons] at h ⊢
    cases e : f == g with
    | true =>
      rw [e] at h
      cases h
    | false =>
      rw [e] at h
      exact fv_none r h
theorem fv_len {K : PySem.W.Frag} {H : Hp} : ∀ {fs : Fs} {vs : List (Str × V)}, FV K H fs vs → vs.length = fs.length
  | _, _, .nil => rfl
  | _, _, .cons _ r => by rw [List.length_cons, List.length_cons, fv_len r]
/-- an object of one's own is written -/
theorem own_step {T : List (Addr × Str)} {K : PySem.W.Frag} {H : Hp} {σ : L2.St} {δ : De} {ω : Om} {D : Addr} {o o' : Od} {u0 u : HO} (rl : Rl K H σ δ (omD ω D o)) (e0 : H D = some u0) (nt : ∀ ps, u0 ≠ .tbl ps) (nc : ∀ c q, u0 ≠ LamX.CodeO c q)
    (new : OdV K (hid (ads (omD ω D o')) (upd H D u)) (upd H D u) D o') : Stp T (omD ω D o) (omD ω D o') H (upd H D u) ∧ Rl K (upd H D u) σ δ (omD ω D o') := by
  have hh : Same (hid (ads (omD ω D o)) H) (hid (ads (omD ω D o')) (upd H D u)) := hid_upd
  refine ⟨⟨fun b x h n _ => ?_, fun a h => .inl h, rfl, fun t => ?_⟩, ⟨rl.len, fun j r h => ?_, fun z x h => ?_, rl.ro.nd, fun z h hz => ?_⟩⟩
  · have nb : b ≠ D := fun z => n (by rw [z]; exact List.mem_cons_self)
    rw [upd_ne nb]
    exact h
  · intro q hq
    obtain ⟨ps, a1, a2, a3⟩ := t q hq
    refine ⟨ps, by rw [upd_ne (fun z => nt ps (by rw [z, e0] at a1; exact Option.some.inj a1))]; exact a1, a2, fun p' cv hc => ?_⟩
    obtain ⟨c0, b1, b2⟩ := a3 p' cv hc
    exact ⟨c0, b1, by rw [upd_ne (fun z => nc _ _ (by rw [z, e0] at b2; exact Option.some.inj b2))]; exact b2⟩
  · obtain ⟨v, h1, h2⟩ := rl.sl j r h
    exact ⟨v, h1, sdv_mono hh h2⟩
  · rcases List.mem_cons.mp h with q | q
    · cases q
      exact new
    · have nd2 : (D :: ω.os.map (·.1)).Nodup := rl.ro.nd
      have na : z ≠ D := fun zz => (List.nodup_cons.mp nd2).1 (List.mem_map.mpr ⟨(z, x), q, zz⟩)
      have g := rl.ro.ob z x (List.mem_cons_of_mem _ q)
      exact odv_keep (fun w => sdv_mono hh w) (fun u _ g1 => by rw [upd_ne na]; exact g1) g
  · have hn := rl.ro.th z h
    by_cases za : z = D
    · rw [za, upd_same] at hz
      cases hz
    · rw [upd_ne za] at hz
      exact hn hz
theorem fld_step {T : List (Addr × Str)} {K : PySem.W.Frag} {H : Hp} {σ : L2.St} {δ : De} {ω : Om} {a C dx : Addr} {fs : Fs} {vs : List (Str × V)} {f : Str} {y : V} {d : PyData} (rl : Rl K H σ δ (omD ω a (.ins C (imF fs)))) (e0 : H a = some (.ins C dx vs)) (fv : FV K (hid (ads (omD ω a (.ins C (imF fs)))) H) fs vs)
    (dy : Dp K (hid (ads (omD ω a (.ins C (imF fs)))) H) y d) : Stp T (omD ω a (.ins C (imF fs))) (omD ω a (.ins C (imF (putD f d fs)))) H (upd H a (.ins C dx (putF f y vs))) ∧ Rl K (upd H a (.ins C dx (putF f y vs))) σ δ (omD ω a (.ins C (imF (putD f d fs)))) :=
  own_step rl e0 (fun _ z => by cases z) (fun _ _ z => by unfold LamX.CodeO at z; cases z) ⟨dx, _, upd_same, of_fv (fv_put (dpm hid_upd dy) (fv_mono hid_upd fv))⟩
section
variable {X : Cx} {W : WX} {T : List (Addr × Str)} {δ : De} {ω : Om} {e : Expr} {d : PyData} {ds : List PyData} {pos p p1 : Pos} {R : Out → Prop} {ss : List Stmt} {a C : Addr} {fs : Fs} {f x : Str}
theorem rl_ins {H : Hp} {σ : L2.St} (rl : Rl X.K H σ δ ω) (hm : (a, Od.ins C (imF fs)) ∈ ω.os) : ∃ dx vs, H a = some (.ins C dx vs) ∧ FV X.K (hid (ads ω) H) fs vs := by
  obtain ⟨dx, vs, h1, h2⟩ := rl.ro.ob a _ hm
  exact ⟨dx, vs, h1, fv_of h2⟩
/-- x.f -/
theorem pd_fld (i : Nat) (Cl : Cls X.K C) (Na : NoAttr X.K C f) (hm : (a, Od.ins C (imF fs)) ∈ ω.os) (hl : fs.lookup f = some d) (hd : δ[i]? = some (some (.ad a)) := by rfl) (hN : X.N[i]? = some x := by rfl) (hv : Vis X.env.scope x := by first | exact Or.inl rfl | exact Or.inr (Or.inl rfl) | exact Or.inr (Or.inr rfl))
    (h1 : (x == ("__debug__" : Str)) = false := by decide) (h2 : (x == ("__classdict__" : Str)) = false := by decide) (hb : attributeBase (.Name x p1) f X.env (eval (.Name x p1) X.env) = eval (.Name x p1) X.env := by rfl) : PD X δ ω (.Attribute (.Name x p1) f pos) d := fun σ H rl Q q => by
  obtain ⟨v, e1, e2⟩ := rl.sl i _ hd
  have e2 : v = .ref a := e2
  subst e2
  obtain ⟨dx, vs, g1, g2⟩ := rl_ins rl hm
  obtain ⟨y, g3, g4⟩ := fv_get g2 hl
  exact we (pe_fld (pe_var hN hv h1 h2) hb) ⟨_, e1, a, C, dx, vs, y, rfl, g1, Cl, Na, g3, q y H (Same.refl H) g4⟩
/-- x.f = e -/
theorem sd_fld (i : Nat) {pos' : Pos} (Cl : Cls X.K C) (Na : NoAttr X.K C f) (he : PD X δ (omD ω a (.ins C (imF fs))) e d) (hk : SD X W T ss δ (omD ω a (.ins C (imF (putD f d fs)))) R) (hz : fs.length < 1000) (hd : δ[i]? = some (some (.ad a)) := by rfl) (hN : X.N[i]? = some x := by rfl)
    (hv : Vis X.env.scope x := by first | exact Or.inl rfl | exact Or.inr (Or.inl rfl) | exact Or.inr (Or.inr rfl)) (h1 : (x == ("__debug__" : Str)) = false := by decide) (h2 : (x == ("__classdict__" : Str)) = false := by decide)
    (hs : swapsWith e (some (.Attribute (.Name x p1) f pos')) pos.line X.env = pure false := by rfl) : SD X W T (.Assign [.Attribute (.Name x p1) f pos'] e pos :: ss) δ (omD ω a (.ins C (imF fs))) R :=
  sd_cons fun σ H D rl t k => ws (ps_fld (pe_var hN hv h1 h2) pe_w hs) (he σ H rl _ fun y H1 s1 d1 => by
    have rl1 := rl.mono s1
    obtain ⟨v, e1, e2⟩ := rl1.sl i _ hd
    have e2 : v = .ref a := e2
    subst e2
    obtain ⟨dx, vs, g1, g2⟩ := rl_ins rl1 List.mem_cons_self
    obtain ⟨st, l2⟩ := fld_step (T := T) (f := f) rl1 g1 g2 d1
    exact ⟨_, e1, a, C, dx, vs, rfl, g1, Cl, Na, by rw [fv_len g2]; exact hz, k.nx δ _ σ _ hk ((Stp.of s1).trans st) l2⟩)
/-- x.f += e, whole numbers -/
theorem sd_fldadd (i : Nat) {tpos : Pos} {m n : Int} (Cl : Cls X.K C) (Na : NoAttr X.K C f) (hl : fs.lookup f = some (.int m)) (he : PD X δ (omD ω a (.ins C (imF fs))) e (.int n)) (hk : SD X W T ss δ (omD ω a (.ins C (imF (putD f (.int (m + n)) fs)))) R) (hz : fs.length < 1000) (hd : δ[i]? = some (some (.ad a)) := by rfl) (hN : X.N[i]? = some x := by rfl)
    (hv : Vis X.env.scope x := by first | exact Or.inl rfl | exact Or.inr (Or.inl rfl) | exact Or.inr (Or.inr rfl)) (h1 : (x == ("__debug__" : Str)) = false := by decide) (h2 : (x == ("__classdict__" : Str)) = false := by decide) :
    SD X W T (.AugAssign (.Attribute (.Name x p1) f tpos) .Add e pos :: ss) δ (omD ω a (.ins C (imF fs))) R :=
  sd_cons fun σ H D rl t k => ws (ps_fldaug (pe_var hN hv h1 h2) pe_w in_add) (by
    obtain ⟨v, e1, e2⟩ := rl.sl i _ hd
    have e2 : v = .ref a := e2
    subst e2
    obtain ⟨dx, vs, g1, g2⟩ := rl_ins rl List.mem_cons_self
    obtain ⟨y, g3, g4⟩ := fv_get g2 hl
    cases g4
    refine ⟨_, e1, a, C, dx, vs, _, rfl, g1, Cl, Na, g3, he σ H rl _ fun z H1 s1 d1 => ?_⟩
    cases d1
    have rl1 := rl.mono s1
    obtain ⟨dx1, vs1, k1, k2⟩ := rl_ins rl1 List.mem_cons_self
    obtain ⟨st, l2⟩ := fld_step (T := T) (f := f) rl1 k1 k2 (.int (m + n))
    exact ⟨m, n, rfl, rfl, dx1, vs1, k1, by rw [fv_len k2]; exact hz, k.nx δ _ σ _ hk ((Stp.of s1).trans st) l2⟩)
end
end FP

namespace FP
open PySem PySem.Spec PyProof.Rows L2
/-! ### x.f, x.g, .. = a tuple -/
def gFld (K : PySem.W.Frag) (i : Nat) (C : Addr) (f : Str) : TG := fun v σ H Q => ∃ a dx fs, σ[i]? = some (some (.ref a)) ∧ H a = some (.ins C dx fs) ∧ Cls K C ∧ NoAttr K C f ∧ fs.length < 1000 ∧ Q σ (upd H a (.ins C dx (putF f v fs)))
def gFlds (K : PySem.W.Frag) (i : Nat) (C : Addr) : List Str → TGs
  | [] => gNil
  | f :: fs => gCons (gFld K i C f) (gFlds K i C fs)
def putAll : List Str → List PyData → Fs → Fs
  | f :: ns, d :: ds, fs => putAll ns ds (putD f d fs)
  | _, _, fs => fs
theorem putD_len (f : Str) (d : PyData) : ∀ fs : Fs, (putD f d fs).length ≤ fs.length + 1
  | [] => Nat.le_refl _
  | (g, x) :: r => by
    unfold putD
    by_cases e : g = f
    · rw [if_pos e]
      simp
    · rw [if_neg e]
      have := putD_len f d r
      simp
      omega
section
variable {X : Cx} {W : WX} {T : List (Addr × Str)} {δ : De} {ω : Om} {e : Expr} {d : PyData} {ds : List PyData} {pos p p1 : Pos} {R : Out → Prop} {ss : List Stmt} {a C : Addr} {fs : Fs} {f x : Str}
theorem pg_fld (i : Nat) (hN : X.N[i]? = some x) (hv : Vis X.env.scope x) (h1 : (x == ("__debug__" : Str)) = false := by decide) (h2 : (x == ("__classdict__" : Str)) = false := by decide) : PG X (.Attribute (.Name x p1) f pos) (gFld X.K i C f) := by
  refine ⟨fun pins s σ H v u Q I r h => ?_⟩
  obtain ⟨a, dx, fs, g1, g2, g3, g4, g5, q⟩ := h
  rw [assign_Attribute]
  refine wpAny_bind (wpAny_holding (wpAny_mono ((pe_var (pos := p1) hN hv h1 h2).run pins s σ H (fun w H1 => w = .ref a ∧ H1 = H) I ⟨_, g1, rfl, rfl⟩) (fun uo s1 w => ?_) fun _ _ x => x))
  obtain ⟨w, H1, J, rw', ew, eH⟩ := w
  subst ew
  subst eH
  obtain rfl : uo = Value.ref a := rw'
  refine wpAny_bind (wpAny_standAt (wpAny_bind (wpAny_holding (setattr_ok J g2 g3 g4 g5 r fun s2 J2 => ?_))))
  exact wpAny_release ⟨σ, _, J2, q⟩
theorem gFlds_ok {Q : L2.St → Hp → Prop} {i : Nat} (Cl : Cls X.K C) (hd : δ[i]? = some (some (.ad a))) : ∀ {ns : List Str} {ds : List PyData} {vs : List V} {fs : Fs} {σ : L2.St} {H : Hp}, (∀ f ∈ ns, NoAttr X.K C f) → fs.length + ns.length < 1000 → ns.length = ds.length → Rl X.K H σ δ (omD ω a (.ins C (imF fs))) → DpAll X.K (hid (ads (omD ω a (.ins C (imF fs)))) H) vs ds →
    (∀ H', Stp T (omD ω a (.ins C (imF fs))) (omD ω a (.ins C (imF (putAll ns ds fs)))) H H' → Rl X.K H' σ δ (omD ω a (.ins C (imF (putAll ns ds fs)))) → Q σ H') → gFlds X.K i C ns vs σ H Q
  | [], [], _, fs, σ, H, _, _, _, rl, .nil, k => ⟨rfl, k H .refl rl⟩
  | f :: ns, d :: ds, v :: vs, fs, σ, H, na, hz, hl, rl, .cons b1 b2, k => by
    obtain ⟨w, e1, e2⟩ := rl.sl i _ hd
    have e2 : w = .ref a := e2
    subst e2
    obtain ⟨dx, us, g1, g2⟩ := rl_ins rl List.mem_cons_self
    obtain ⟨st, l2⟩ := fld_step (T := T) (f := f) rl g1 g2 b1
    have hz' : fs.length + (ns.length + 1) < 1000 := hz
    have pl := putD_len f d fs
    refine ⟨v, vs, rfl, a, dx, us, e1, g1, Cl, na f List.mem_cons_self, by rw [fv_len g2]; omega, ?_⟩
    exact gFlds_ok Cl hd (fun g hg => na g (List.mem_cons_of_mem _ hg)) (by omega) (Nat.succ.inj hl) l2 (dpam hid_upd b2) fun H' s' l' => k H' (st.trans s') l'
  | [], _ :: _, _, _, _, _, _, _, hl, _, _, _ => by cases hl
  | _ :: _, [], _, _, _, _, _, _, hl, _, _, _ => by cases hl
theorem sd_unpF (i : Nat) (ns : List Str) {ts : List Expr} {n kk : Nat} {p' : Pos} (Cl : Cls X.K C) (na : ∀ f ∈ ns, NoAttr X.K C f) (he : PD X δ (omD ω a (.ins C (imF fs))) e (.tuple ds)) (hg : PG X (.Tuple ts kk p') (gTup X.K n (gFlds X.K i C ns))) (hn : ds.length = n) (hi : ns.length = n) (hz : fs.length + ns.length < 1000)
    (hk : SD X W T ss δ (omD ω a (.ins C (imF (putAll ns ds fs)))) R) (hd : δ[i]? = some (some (.ad a)) := by rfl) (hs : swapsWithSole [.Tuple ts kk p'] e pos.line X.env = pure false := by rfl) (hw : swappedStores [.Tuple ts kk p'] e X.env = pure none := by rfl) : SD X W T (.Assign [.Tuple ts kk p'] e pos :: ss) δ (omD ω a (.ins C (imF fs))) R :=
  sd_cons fun σ H D rl t k => ws (ps_asg pe_w hg hs hw) (he σ H rl _ fun v H1 s1 dv => by
    cases dv with
    | tup h1 h2 => exact ⟨_, _, rfl, same_sqt hid_sub h1, by rw [dpa_len h2]; exact hn, gFlds_ok (T := T) Cl hd na hz (hi.trans hn.symm) (rl.mono s1) h2 fun H' st l => k.nx δ _ σ H' hk ((Stp.of s1).trans st) l⟩)
end
/-! ### methods -/
theorem hid_cons_in {a : Addr} {ps : List Addr} {H : Hp} (h : a ∈ ps) : hid (a :: ps) H = hid ps H := by
  funext b
  unfold hid
  by_cases e : b ∈ ps
  · rw [if_pos e, if_pos (List.mem_cons_of_mem _ e)]
  · rw [if_neg e, if_neg (fun z => (List.mem_cons.mp z).elim (fun q => e (by rw [q]; exact h)) e)]
theorem hid_self {a C : Addr} {ps : List Addr} {o : Od} {H : Hp} : hid (ads ⟨ps, [(a, o)]⟩) H = hid (a :: ps) H := by
  funext b
  unfold hid
  have e : b ∈ ads ⟨ps, [(a, o)]⟩ ↔ b ∈ a :: ps := by
    show b ∈ ps ++ [a] ↔ b ∈ a :: ps
    simp [or_comm]
  by_cases h : b ∈ a :: ps
  · rw [if_pos h, if_pos (e.mpr h)]
  · rw [if_neg h, if_neg (fun z => h (e.mp z))]
/-- self and what is handed to a method -/
structure MIn (K : PySem.W.Frag) (C : Addr) (vs : List V) (H : Hp) (ps : List Addr) (a : Addr) (fs : Fs) (ds : List PyData) : Prop where
  ex : ∃ dx fvs vs', vs = .ref a :: vs' ∧ (∀ b ∈ ps, H b ≠ none) ∧ H a = some (.ins C dx fvs) ∧ FV K (hid (a :: ps) H) fs fvs ∧ DpAll K (hid (a :: ps) H) vs' ds
/-- one that only reads -/
def spR (K : PySem.W.Frag) (C : Addr) (fr : Fs → List PyData → PyData → Prop) : Sp := fun vs H Q _ => ∃ ps a fs ds d, MIn K C vs H ps a fs ds ∧ fr fs ds d ∧ ∀ v H', Same H H' → Dp K (hid (a :: ps) H') v d → Q v H'
/-- one that writes self, or raises -/
def spW (K : PySem.W.Frag) (C : Addr) (fr : Fs → List PyData → Rs → Fs → Prop) : Sp := fun vs H Q E => ∃ ps a fs ds r fs', MIn K C vs H ps a fs ds ∧ fr fs ds r fs' ∧ ∀ H' dx fvs, (∀ b o, b ≠ a → H b = some o → H' b = some o) → H' a = some (.ins C dx fvs) → FV K (hid (a :: ps) H') fs' fvs →
  (match r with | .ok d => ∀ v, Dp K (hid (a :: ps) H') v d → Q v H' | .er Z => E (.ref Z) none H')
structure RdOk (P : Program) (w : World) (K : PySem.W.Frag) (mg : Str → Option Value) (base : Heap) (k : Nat) (C : Addr) (m : Str) (fr : Fs → List PyData → PyData → Prop) : Prop where
  ex : ∃ f fd ps, FnOk P w K mg base (L2N.CX P w) k f fd ps (spR K C fr) ∧ Meth K C m f ∧ L2.Binds K fd ps []
structure WrOk (P : Program) (w : World) (K : PySem.W.Frag) (mg : Str → Option Value) (base : Heap) (k : Nat) (C : Addr) (m : Str) (fr : Fs → List PyData → Rs → Fs → Prop) : Prop where
  ex : ∃ f fd ps, FnOk P w K mg base (L2N.CX P w) k f fd ps (spW K C fr) ∧ Meth K C m f ∧ L2.Binds K fd ps []
/-- the slots at the start -/
def startM (N : List Str) (a : Addr) (ds : List PyData) : De := some (.ad a) :: (ds.map (fun d => some (.im d)) ++ List.replicate (N.length - (ds.length + 1)) none)
theorem startM_rl {K : PySem.W.Frag} {C : Addr} {vs : List V} {H : Hp} {ps : List Addr} {a : Addr} {fs : Fs} {ds : List PyData} {N : List Str} (h : MIn K C vs H ps a fs ds) : Rl K H (L2.start N vs) (startM N a ds) ⟨ps, [(a, .ins C (imF fs))]⟩ := by
  obtain ⟨dx, fvs, vs', rfl, h1, h2, h3, h4⟩ := h.ex
  have hl := dpa_len h4
  refine ⟨?_, fun i r hi => ?_, fun z o hz => ?_, by show [a].Nodup; simp, h1⟩
  · unfold L2.start startM
    simp [hl]
  · rw [hid_self (C := C)]
    unfold startM at hi
    cases i with
    | zero =>
      cases hi
      exact ⟨.ref a, rfl, rfl⟩
    | succ i =>
      rw [List.getElem?_cons_succ] at hi
      by_cases hlt : i < ds.length
      · rw [List.getElem?_append_left (by rw [List.length_map]; exact hlt), List.getElem?_map, List.getElem?_eq_getElem hlt] at hi
        cases hi
        obtain ⟨v, g1, g2⟩ := dpa_get h4 (List.getElem?_eq_getElem hlt)
        refine ⟨v, ?_, g2⟩
        unfold L2.start
        rw [List.map_cons, List.cons_append, List.getElem?_cons_succ, List.getElem?_append_left (by rw [List.length_map, hl]; exact hlt), List.getElem?_map, g1]
        rfl
      · rw [List.getElem?_append_right (by rw [List.length_map]; omega)] at hi
        obtain ⟨q1, q2⟩ := List.getElem?_eq_some_iff.mp hi
        rw [List.getElem_replicate] at q2
        cases q2
  · rcases List.mem_cons.mp hz with q | q
    · cases q
      rw [hid_self (C := C)]
      exact ⟨dx, fvs, h2, of_fv h3⟩
    · cases q
section
variable {P : Program} {w : World} {K : PySem.W.Frag} {mg : Str → Option Value} {base : Heap} {x qual : Str} {params : Arguments} {body : List Stmt} {scope : Scope} {kws : List (Str × V)} {f C : Addr} {fd : FuncData} {N ps : List Str} {k : Nat}
theorem rd_ok {fr : Fs → List PyData → PyData → Prop} {e : Expr} {pos : Pos} (F : FunD K x qual params body scope [] kws f fd) (hm : Meth K C x f) (S : FnScope N ps scope) (hb : ∀ (kV doc pm : Value) (an : Option Addr) (cdv ct : Value) (us : List Value), us.length = ps.length → bindArgs (PySem.W.fnOf x qual params body scope .none kV doc pm an cdv ct) ⟨us, []⟩ = pure (ps.zip us))
    (len : ∀ fs ds d, fr fs ds d → ds.length + 1 = ps.length) (hbd : body = [.Return (some e) pos])
    (hbody : ∀ (cdv : Value) (A : Around) (outer : List Env) (s : Shared) (H : Hp) (E : XK) (qs : List Addr) (a : Addr) (fs : Fs) (ds : List PyData) (d : PyData), Room k (A.deeper (envOfC qual scope s.heap.objs.size f cdv)) → fr fs ds d →
      PD (cxOf (L2N.CX P w) P w K mg base N qual scope f cdv A outer s H E) (startM N a ds) ⟨qs, [(a, .ins C (imF fs))]⟩ e d) : RdOk P w K mg base (k + 1) C x fr := by
  refine ⟨f, fd, ps, F.ok S (fun vs H Q E h => ?_) (fun cdv A outer s H vs Q E hr h => ?_), hm, F.bindsN hb⟩
  · obtain ⟨qs, a, fs, ds, d, h1, h2, _⟩ := h
    obtain ⟨dx, fvs, vs', rfl, _, _, _, h4⟩ := h1.ex
    rw [List.length_cons, dpa_len h4]
    exact len fs ds d h2
  · obtain ⟨qs, a, fs, ds, d, h1, h2, h3⟩ := h
    subst hbd
    refine ⟨_, pss_one (ps_ret pe_w), hbody cdv A outer s H E qs a fs ds d hr h2 _ _ (startM_rl h1) _ fun v H' s' dv => ?_⟩
    rw [hid_self (C := C)] at dv
    exact h3 v H' s' dv
/-- how such a def may end: self's fields -/
def FinW (C a : Addr) (r : Rs) (fs' : Fs) : Out → Prop
  | .nx _ ω => r = .ok .none ∧ (a, Od.ins C (imF fs')) ∈ ω.os
  | .rt (.im d) ω => r = .ok d ∧ (a, Od.ins C (imF fs')) ∈ ω.os
  | .ex Z ω => r = .er Z ∧ (a, Od.ins C (imF fs')) ∈ ω.os
  | _ => False
theorem wr_ok {fr : Fs → List PyData → Rs → Fs → Prop} (F : FunD K x qual params body scope [] kws f fd) (hm : Meth K C x f) (S : FnScope N ps scope) (hb : ∀ (kV doc pm : Value) (an : Option Addr) (cdv ct : Value) (us : List Value), us.length = ps.length → bindArgs (PySem.W.fnOf x qual params body scope .none kV doc pm an cdv ct) ⟨us, []⟩ = pure (ps.zip us))
    (len : ∀ fs ds r fs', fr fs ds r fs' → ds.length + 1 = ps.length)
    (hbody : ∀ (cdv : Value) (A : Around) (outer : List Env) (s : Shared) (H : Hp) (E : XK) (qs : List Addr) (a : Addr) (fs : Fs) (ds : List PyData) (r : Rs) (fs' : Fs), Room k (A.deeper (envOfC qual scope s.heap.objs.size f cdv)) → fr fs ds r fs' →
      SD (cxOf (L2N.CX P w) P w K mg base N qual scope f cdv A outer s H E) (WOf E) [] body (startM N a ds) ⟨qs, [(a, .ins C (imF fs))]⟩ (FinW C a r fs')) : WrOk P w K mg base (k + 1) C x fr := by
  refine ⟨f, fd, ps, F.ok S (fun vs H Q E h => ?_) (fun cdv A outer s H vs Q E hr h => ?_), hm, F.bindsN hb⟩
  · obtain ⟨qs, a, fs, ds, r, fs', h1, h2, _⟩ := h
    obtain ⟨dx, fvs, vs', rfl, _, _, _, h4⟩ := h1.ex
    rw [List.length_cons, dpa_len h4]
    exact len fs ds r fs' h2
  · obtain ⟨qs, a, fs, ds, r, fs', h1, h2, h3⟩ := h
    refine ⟨_, pss_w, hbody cdv A outer s H E qs a fs ds r fs' hr h2 _ _ _ (startM_rl h1) (fun _ z => nomatch z) ?_⟩
    have kept : ∀ {ω' : Om} {H' : Hp}, Stp [] ⟨qs, [(a, .ins C (imF fs))]⟩ ω' H H' → ∀ b o, b ≠ a → H b = some o → H' b = some o := fun {ω' H'} st b o nb e => st.keep b o e (fun z => nb (List.mem_singleton.mp z)) (.inl rfl)
    have more : ∀ {ω' : Om} {H' : Hp}, Stp [] ⟨qs, [(a, .ins C (imF fs))]⟩ ω' H H' → (a, Od.ins C (imF fs')) ∈ ω'.os → Same (hid (ads ω') H') (hid (a :: qs) H') := fun {ω' H'} st hm => hid_more fun b hb => by
      rcases List.mem_cons.mp hb with q | q
      · subst q
        exact List.mem_append_right _ (List.mem_map.mpr ⟨_, hm, rfl⟩)
      · exact List.mem_append_left _ (by rw [st.ps]; exact q)
    refine ⟨fun δ' ω' σ' H' z st l => ?_, fun r' ω' v H' z st l dv => ?_, fun Z ω' σ' H' z st l => ?_, fun _ _ _ _ z => False.elim z, fun _ _ _ _ z => False.elim z⟩
    · obtain ⟨rfl, hm⟩ := z
      obtain ⟨dx, vs1, g1, g2⟩ := l.ro.ob a _ hm
      exact h3 H' dx vs1 (kept st) g1 (fv_mono (more st hm) (fv_of g2)) .non .non
    · cases r' with
      | im d =>
        obtain ⟨rfl, hm⟩ := z
        obtain ⟨dx, vs1, g1, g2⟩ := l.ob a _ hm
        exact h3 H' dx vs1 (kept st) g1 (fv_mono (more st hm) (fv_of g2)) v (dpm (more st hm) dv)
      | ad a => exact False.elim z
    · obtain ⟨rfl, hm⟩ := z
      obtain ⟨dx, vs1, g1, g2⟩ := l.ob a _ hm
      exact h3 H' dx vs1 (kept st) g1 (fv_mono (more st hm) (fv_of g2))
end
end FP

namespace FP
open PySem PySem.Spec PyProof.Rows L2
/-- an object of one's own was written by another's hand -/
theorem own_step2 {T : List (Addr × Str)} {K : PySem.W.Frag} {H H' : Hp} {σ : L2.St} {δ : De} {ω : Om} {D : Addr} {o o' : Od} {u0 : HO} (rl : Rl K H σ δ (omD ω D o)) (e0 : H D = some u0) (nt : ∀ ps, u0 ≠ .tbl ps) (nc : ∀ c q, u0 ≠ LamX.CodeO c q) (kept : ∀ b x, b ≠ D → H b = some x → H' b = some x)
    (new : OdV K (hid (ads (omD ω D o')) H') H' D o') : Stp T (omD ω D o) (omD ω D o') H H' ∧ Rl K H' σ δ (omD ω D o') := by
  have hh : Same (hid (ads (omD ω D o)) H) (hid (ads (omD ω D o')) H') := fun b x h => by
    obtain ⟨n, e⟩ := hid_out h
    have nb : b ≠ D := fun z => n (ads_omD.mpr (.inl z))
    refine hid_of (fun z => n ?_) (kept b x nb e)
    rcases ads_omD.mp z with q | q
    · exact ads_omD.mpr (.inl q)
    · exact ads_omD.mpr (.inr q)
  refine ⟨⟨fun b x h n _ => ?_, fun a h => .inl h, rfl, fun t => ?_⟩, ⟨rl.len, fun j r h => ?_, fun z x h => ?_, rl.ro.nd, fun z h hz => ?_⟩⟩
  · exact kept b x (fun z => n (by rw [z]; exact List.mem_cons_self)) h
  · intro q hq
    obtain ⟨ps, a1, a2, a3⟩ := t q hq
    refine ⟨ps, kept _ _ (fun z => nt ps (by rw [z, e0] at a1; exact Option.some.inj a1)) a1, a2, fun p' cv hc => ?_⟩
    obtain ⟨c0, b1, b2⟩ := a3 p' cv hc
    exact ⟨c0, b1, kept _ _ (fun z => nc _ _ (by rw [z, e0] at b2; exact Option.some.inj b2)) b2⟩
  · obtain ⟨v, h1, h2⟩ := rl.sl j r h
    exact ⟨v, h1, sdv_mono hh h2⟩
  · rcases List.mem_cons.mp h with q | q
    · cases q
      exact new
    · have nd2 : (D :: ω.os.map (·.1)).Nodup := rl.ro.nd
      have na : z ≠ D := fun zz => (List.nodup_cons.mp nd2).1 (List.mem_map.mpr ⟨(z, x), q, zz⟩)
      have g := rl.ro.ob z x (List.mem_cons_of_mem _ q)
      exact odv_keep (fun w => sdv_mono hh w) (fun u _ g1 => kept _ _ na g1) g
  · have hn := rl.ro.th z h
    by_cases za : z = D
    · have g := odv_some new
      rw [za] at hz
      exact g hz
    · cases e : H z with
      | none => exact hn e
      | some u =>
        rw [kept z u za e] at hz
        cases hz
section
variable {X : Cx} {W : WX} {T : List (Addr × Str)} {δ : De} {ω : Om} {e : Expr} {es : List Expr} {d : PyData} {ds : List PyData} {pos p p1 apos : Pos} {R : Out → Prop} {ss : List Stmt} {a C : Addr} {fs fs' : Fs} {f x m : Str} {k : Nat}
theorem min_of {H : Hp} {σ : L2.St} {vs : List V} (rl : Rl X.K H σ δ ω) (hm : (a, Od.ins C (imF fs)) ∈ ω.os) (hv : DpAll X.K (hid (ads ω) H) vs ds) : MIn X.K C (.ref a :: vs) H (ads ω) a fs ds := by
  obtain ⟨dx, us, g1, g2⟩ := rl_ins rl hm
  have ha : a ∈ ads ω := List.mem_append_right _ (List.mem_map.mpr ⟨_, hm, rfl⟩)
  refine ⟨dx, us, vs, rfl, rl.ro.there, g1, ?_, ?_⟩
  · rw [hid_cons_in ha]
    exact g2
  · rw [hid_cons_in ha]
    exact hv
/-- what x.m(..) is to be evaluated as -/
abbrev MthAs (X : Cx) (o : Expr) (m : Str) (apos pos : Pos) (es : List Expr) (pl : Sem Bool) : Prop :=
  eval (.Call (.Attribute o m apos) es [] pos) X.env = eval o X.env >>= fun ov => standAt apos.atName >>= fun _ => holding [ov] (getMethod ov m pl) >>= fun p =>
    callWith pos p.1 p.2 (backTo pos (starEach es X.env)) (backToKw pos (keywordEach [] X.env))
/-- x.m(), which only reads -/
theorem pd_meth0 (i : Nat) {fr : Fs → List PyData → PyData → Prop} {pl : Sem Bool} (G : RdOk X.prog X.w X.K X.mg X.base k C m fr) (hr : Room k X.A) (Cl : Cls X.K C) (hm : (a, Od.ins C (imF fs)) ∈ ω.os) (hf : fr fs [] d) (hl : fs.lookup m = none) (hd : δ[i]? = some (some (.ad a)) := by rfl) (hN : X.N[i]? = some x := by rfl)
    (hv : Vis X.env.scope x := by first | exact Or.inl rfl | exact Or.inr (Or.inl rfl) | exact Or.inr (Or.inr rfl)) (h1 : (x == ("__debug__" : Str)) = false := by decide) (h2 : (x == ("__classdict__" : Str)) = false := by decide)
    (ht : MthAs X (.Name x p1) m apos pos [] pl := by rfl) : PD X δ ω (.Call (.Attribute (.Name x p1) m apos) [] [] pos) d := fun σ H rl Q q => by
  obtain ⟨g, fd, ps, F, M, b⟩ := G.ex
  obtain ⟨v, e1, e2⟩ := rl.sl i _ hd
  have e2 : v = .ref a := e2
  subst e2
  obtain ⟨dx, us, g1, g2⟩ := rl_ins rl hm
  have ha : a ∈ ads ω := List.mem_append_right _ (List.mem_map.mpr ⟨_, hm, rfl⟩)
  refine we (pe_meth0 (pl := pl) (pe_var hN hv h1 h2) Cl M F hr b .nil passN ht) ⟨_, e1, a, dx, us, rfl, g1, fv_none g2 hl, ?_⟩
  refine ⟨ads ω, a, fs, [], d, min_of rl hm .nil, hf, fun v H' s' dv => q v H' s' ?_⟩
  rw [hid_cons_in ha] at dv
  exact dv
/-- x.m(..) as a statement: x is written, or something is raised -/
theorem sd_meth (i : Nat) {r : Rs} {fr : Fs → List PyData → Rs → Fs → Prop} {pl : Sem Bool} {spos : Pos} (G : WrOk X.prog X.w X.K X.mg X.base k C m fr) (hr : Room k X.A) (tk : L2N.Takes X W) (Cl : Cls X.K C) (ha : PDs X δ (omD ω a (.ins C (imF fs))) (e :: es) ds) (hf : fr fs ds r fs') (hl : fs.lookup m = none)
    (h3 : ∀ d, r = .ok d → SD X W T ss δ (omD ω a (.ins C (imF fs'))) R) (h4 : ∀ Z, r = .er Z → R (.ex Z (omD ω a (.ins C (imF fs'))))) (hd : δ[i]? = some (some (.ad a)) := by rfl) (hN : X.N[i]? = some x := by rfl)
    (hv : Vis X.env.scope x := by first | exact Or.inl rfl | exact Or.inr (Or.inl rfl) | exact Or.inr (Or.inr rfl)) (h1 : (x == ("__debug__" : Str)) = false := by decide) (h2 : (x == ("__classdict__" : Str)) = false := by decide)
    (hst : starEach (e :: es) X.env = (false, eval e X.env) :: starEach es X.env := by rfl) (hpl : (backTo pos (starEach es X.env)).any (·.1) = false := by rfl)
    (ht : MthAs X (.Name x p1) m apos pos (e :: es) pl := by rfl)
    (hs : swapsWith (.Call (.Attribute (.Name x p1) m apos) (e :: es) [] pos) none spos.line X.env = pure false := by rfl) : SD X W T (.Expr (.Call (.Attribute (.Name x p1) m apos) (e :: es) [] pos) spos :: ss) δ (omD ω a (.ins C (imF fs))) R :=
  sd_cons fun σ H D rl t kt => by
    obtain ⟨g, fd, ps, F, M, b⟩ := G.ex
    obtain ⟨v, e1, e2⟩ := rl.sl i _ hd
    have e2 : v = .ref a := e2
    subst e2
    obtain ⟨dx, us, g1, g2⟩ := rl_ins rl List.mem_cons_self
    refine ws (ps_expr (pe_meth (pl := pl) (E := fun cls d H' => ∀ σ, W cls d σ H') (pe_var hN hv h1 h2) Cl M F hr b .nil (L2N.passes_call tk fun cls d σ H h => h σ) pa_w hst hpl ht) hs) ⟨_, e1, a, dx, us, rfl, g1, fv_none g2 hl, ha σ H rl _ fun vs H1 s1 d1 => ?_⟩
    rw [List.append_nil]
    have rl1 := rl.mono s1
    have am : a ∈ ads (omD ω a (.ins C (imF fs))) := ads_omD.mpr (.inl rfl)
    obtain ⟨dx1, us1, k1, k2⟩ := rl_ins rl1 List.mem_cons_self
    refine ⟨ads (omD ω a (.ins C (imF fs))), a, fs, ds, r, fs', min_of rl1 List.mem_cons_self d1, hf, fun H' dx2 us2 kept l1 l2 => ?_⟩
    rw [hid_cons_in am] at l2
    have hs2 : hid (ads (omD ω a (.ins C (imF fs)))) H' = hid (ads (omD ω a (.ins C (imF fs')))) H' := rfl
    obtain ⟨st, l3⟩ := own_step2 (T := T) (o' := .ins C (imF fs')) rl1 k1 (fun _ z => by cases z) (fun _ _ z => by unfold LamX.CodeO at z; cases z) kept ⟨dx2, us2, l1, of_fv l2⟩
    cases r with
    | ok d => exact fun v _ => kt.nx δ _ σ H' (h3 d rfl) ((Stp.of s1).trans st) l3
    | er Z => exact fun σ2 => kt.ex Z _ σ2 H' (h4 Z rfl) ((Stp.of s1).trans st) l3.ro
/-- x.m() as a statement -/
theorem sd_methN (i : Nat) {r : Rs} {fr : Fs → List PyData → Rs → Fs → Prop} {pl : Sem Bool} {spos : Pos} (G : WrOk X.prog X.w X.K X.mg X.base k C m fr) (hr : Room k X.A) (tk : L2N.Takes X W) (Cl : Cls X.K C) (hf : fr fs [] r fs') (hl : fs.lookup m = none)
    (h3 : ∀ d, r = .ok d → SD X W T ss δ (omD ω a (.ins C (imF fs'))) R) (h4 : ∀ Z, r = .er Z → R (.ex Z (omD ω a (.ins C (imF fs'))))) (hd : δ[i]? = some (some (.ad a)) := by rfl) (hN : X.N[i]? = some x := by rfl)
    (hv : Vis X.env.scope x := by first | exact Or.inl rfl | exact Or.inr (Or.inl rfl) | exact Or.inr (Or.inr rfl)) (h1 : (x == ("__debug__" : Str)) = false := by decide) (h2 : (x == ("__classdict__" : Str)) = false := by decide)
    (ht : MthAs X (.Name x p1) m apos pos [] pl := by rfl)
    (hs : swapsWith (.Call (.Attribute (.Name x p1) m apos) [] [] pos) none spos.line X.env = pure false := by rfl) : SD X W T (.Expr (.Call (.Attribute (.Name x p1) m apos) [] [] pos) spos :: ss) δ (omD ω a (.ins C (imF fs))) R :=
  sd_cons fun σ H D rl t kt => by
    obtain ⟨g, fd, ps, F, M, b⟩ := G.ex
    obtain ⟨v, e1, e2⟩ := rl.sl i _ hd
    have e2 : v = .ref a := e2
    subst e2
    obtain ⟨dx, us, g1, g2⟩ := rl_ins rl List.mem_cons_self
    have am : a ∈ ads (omD ω a (.ins C (imF fs))) := ads_omD.mpr (.inl rfl)
    refine ws (ps_expr (pe_meth0 (pl := pl) (E := fun cls d H' => ∀ σ, W cls d σ H') (pe_var hN hv h1 h2) Cl M F hr b .nil (L2N.passes_call tk fun cls d σ H h => h σ) ht) hs) ⟨_, e1, a, dx, us, rfl, g1, fv_none g2 hl, ?_⟩
    refine ⟨ads (omD ω a (.ins C (imF fs))), a, fs, [], r, fs', min_of rl List.mem_cons_self .nil, hf, fun H' dx2 us2 kept l1 l2 => ?_⟩
    rw [hid_cons_in am] at l2
    obtain ⟨st, l3⟩ := own_step2 (T := T) (o' := .ins C (imF fs')) rl g1 (fun _ z => by cases z) (fun _ _ z => by unfold LamX.CodeO at z; cases z) kept ⟨dx2, us2, l1, of_fv l2⟩
    cases r with
    | ok d => exact fun v _ => kt.nx δ _ σ H' (h3 d rfl) st l3
    | er Z => exact fun σ2 => kt.ex Z _ σ2 H' (h4 Z rfl) st l3.ro
/-- y = C(..): a new object -/
theorem sd_make (i : Nat) {y cn : Str} {g : Addr} {fd : FuncData} {ps : List Str} {fr : Fs → List PyData → Rs → Fs → Prop} {py spos : Pos} (M : Mk X.K C g) (F : FnOk X.prog X.w X.K X.mg X.base (L2N.CX X.prog X.w) k g fd ps (spW X.K C fr)) (hb : L2.Binds X.K fd ps []) (hr : Room (k + 1) X.A) (hmC : X.mg cn = some (.ref C))
    (ha : PDs X δ ω (e :: es) ds) (hf : fr [] ds (.ok .none) fs') (hk : ∀ D, SD X W T ss (δ.set i (some (.ad D))) (omD ω D (.ins C (imF fs'))) R) (hN : X.N.Nodup) (hi : X.N[i]? = some y := by rfl) (hx : Loc X.env.scope y := by first | exact Or.inl rfl | exact Or.inr rfl)
    (hg : Gl X cn := by rfl) (hdb : (cn == ("__debug__" : Str)) = false := by decide) (he : starEach (e :: es) X.env = (false, eval e X.env) :: starEach es X.env := by rfl) (hpl : (backTo pos (starEach es X.env)).any (·.1) = false := by rfl)
    (hs : swapsWith (.Call (.Name cn p) (e :: es) [] pos) (some (.Name y py)) spos.line X.env = pure false := by rfl) (hfn : X.fn y = true ∨ X.env.scope.names.lookup y = some .local := by first | exact .inl rfl | exact .inr rfl | assumption) :
    SD X W T (.Assign [.Name y py] (.Call (.Name cn p) (e :: es) [] pos) spos :: ss) δ ω R :=
  sd_cons fun σ H D rl t kt => by
    refine ws (ps_set hN hi hx (pe_make M F hr hg hmC hb .nil passN pa_w hdb he hpl) hs hfn) (ha σ H rl _ fun vs H1 s1 d1 z dx nz ndx ne => ?_)
    rw [List.append_nil]
    have rl1 := rl.mono s1
    have sm : Same H1 (upd (upd H1 dx (.own z)) z (.ins C dx [])) := fun b o h => by
      rw [upd_ne (ne_of_none h nz), upd_ne (ne_of_none h ndx)]
      exact h
    have nin : z ∉ ads ω := new_out rl1.ro.there nz
    refine ⟨ads ω, z, [], ds, .ok .none, fs', ⟨dx, [], vs, rfl, there_mono rl1.ro.there sm, upd_same, .nil, ?_⟩, hf, fun H' dx2 us2 kept l1 l2 v dv => ?_⟩
    · exact dpam (hid_new nz sm) d1
    · cases dv
      refine ⟨rfl, ?_⟩
      have kept1 : Same H1 H' := fun b o h => kept b o (ne_of_none h nz) (sm b o h)
      have l4 : Rl X.K H' σ δ (omD ω z (.ins C (imF fs'))) := by
        refine ⟨rl1.len, fun j r h => ?_, fun b o h => ?_, ?_, there_mono rl1.ro.th kept1⟩
        · obtain ⟨v, q1, q2⟩ := rl1.sl j r h
          exact ⟨v, q1, sdv_mono (hid_in nz kept1) q2⟩
        · rcases List.mem_cons.mp h with q | q
          · cases q
            exact ⟨dx2, us2, l1, of_fv (fv_mono (hid_more fun b hb => List.mem_cons.mpr (ads_omD.mp hb)) l2)⟩
          · exact odv_mono (hid_in nz kept1) kept1 (rl1.ro.ob b o q)
        · show (z :: ω.os.map (·.1)).Nodup
          exact List.nodup_cons.mpr ⟨fun q => nin (List.mem_append_right _ q), rl1.ro.nd⟩
      refine kt.nx _ _ _ H' (hk z) ((Stp.of s1).trans ⟨fun b o h _ _ => kept1 b o h, fun b h => ?_, rfl, fun t => t.ext kept1⟩) (l4.set (x := .ad z) (v := .ref z) rfl)
      rcases List.mem_cons.mp (show b ∈ z :: ω.os.map (·.1) from h) with q | q
      · exact .inr fun o ho => by
          rw [q, nz] at ho
          cases ho
      · exact .inl q
end
end FP

namespace FP
open PySem PySem.Spec PyProof.Rows L2
/-! ### what the module's top left, as data -/
mutual
def kdIs (K : PySem.W.Frag) : PyData → Value → Bool
  | .none, .none => true
  | .bool b, .bool c => decide (b = c)
  | .int i, .int j _ => decide (i = j)
  | .str x, .str y _ => decide (x = y)
  | .tuple ds, .ref a => match K.lookup a with
    | some ⟨.type c, _, .seq its _, _⟩ => decide (c = "tuple") && (decide (its.size ≤ sizeLine) && kdAll K ds its.toList)
    | _ => false
  | _, _ => false
def kdAll (K : PySem.W.Frag) : List PyData → List Value → Bool
  | [], [] => true
  | d :: ds, u :: us => kdIs K d u && kdAll K ds us
  | _, _ => false
end
mutual
theorem kdIs_ok {K : PySem.W.Frag} : ∀ {d : PyData} {u : Value}, kdIs K d u = true → ∃ v, RelV v u ∧ ∀ H, Dp K H v d
  | .none, .none, _ => ⟨.non, rfl, fun _ => .non⟩
  | .bool b, .bool c, h => by
    have e := of_decide_eq_true (show decide (b = c) = true from by unfold kdIs at h; exact h)
    subst e
    exact ⟨.bl b, rfl, fun _ => .bl b⟩
  | .int i, .int j t, h => by
    have e := of_decide_eq_true (show decide (i = j) = true from by unfold kdIs at h; exact h)
    subst e
    exact ⟨.int i, ⟨t, rfl⟩, fun _ => .int i⟩
  | .str x, .str y t, h => by
    have e := of_decide_eq_true (show decide (x = y) = true from by unfold kdIs at h; exact h)
    subst e
    exact ⟨.str x, ⟨t, rfl⟩, fun _ => .str x⟩
  | .tuple ds, .ref a, h => by
    unfold kdIs at h
    cases q : K.lookup a with
    | none =>
      rw [q] at h
      cases h
    | some o =>
      obtain ⟨oc, od, dt, osl⟩ := o
      rw [q] at h
      cases oc with
      | type c =>
        cases dt with
        | seq its n =>
          obtain ⟨h1, h2⟩ := He.ba (show (decide (c = "tuple") && (decide (its.size ≤ sizeLine) && kdAll K ds its.toList)) = true from h)
          obtain ⟨h3, h4⟩ := He.ba h2
          obtain ⟨vs, g1, g2⟩ := kdAll_ok h4
          exact ⟨.ref a, rfl, fun H => .tup (.inr ⟨_, its, n, q, congrArg Value.type (of_decide_eq_true h1), rfl, of_decide_eq_true h3, g1⟩) (g2 H)⟩
        | _ => cases h
      | _ => cases dt <;> cases h
theorem kdAll_ok {K : PySem.W.Frag} : ∀ {ds : List PyData} {us : List Value}, kdAll K ds us = true → ∃ vs, Vals vs us ∧ ∀ H, DpAll K H vs ds
  | [], [], _ => ⟨[], .nil, fun _ => .nil⟩
  | d :: ds, u :: us, h => by
    unfold kdAll at h
    obtain ⟨h1, h2⟩ := He.ba h
    obtain ⟨v, a1, a2⟩ := kdIs_ok h1
    obtain ⟨vs, b1, b2⟩ := kdAll_ok h2
    exact ⟨v :: vs, .cons a1 b1, fun H => .cons (a2 H) (b2 H)⟩
  | [], _ :: _, h => by
    unfold kdAll at h
    cases h
  | _ :: _, [], h => by
    unfold kdAll at h
    cases h
end
/-- the module's name x is this -/
def gldB (K : PySem.W.Frag) (x : Str) (d : PyData) : Bool := match PySem.W.nsIn K mainGlobals x with
  | some (some u) => kdIs K d u
  | _ => false
theorem gldB_ok {K : PySem.W.Frag} {mg : Str → Option Value} {h : Heap} (KX : K.In h) (G : h.Ns mainGlobals mg) {x : Str} {d : PyData} (c : gldB K x d = true) : GlD K mg x d := by
  unfold gldB at c
  cases e : PySem.W.nsIn K mainGlobals x with
  | none =>
    rw [e] at c
    cases c
  | some o =>
    rw [e] at c
    cases o with
    | none => cases c
    | some u =>
      obtain ⟨v, h1, h2⟩ := kdIs_ok c
      exact ⟨v, u, PySem.W.mg_of KX G e, h1, h2⟩
/-- the dict at a has this at z -/
def kvB (K : PySem.W.Frag) (a : Addr) (z : Str) (d : PyData) : Bool := match PySem.W.nsIn K a z with
  | some (some u) => kdIs K d u
  | _ => false
theorem kvB_ok {K : PySem.W.Frag} {a : Addr} {z : Str} {d : PyData} (c : kvB K a z d = true) : ∃ u v, PySem.W.nsIn K a z = some (some u) ∧ RelV v u ∧ ∀ H, Dp K H v d := by
  unfold kvB at c
  cases e : PySem.W.nsIn K a z with
  | none =>
    rw [e] at c
    cases c
  | some o =>
    rw [e] at c
    cases o with
    | none => cases c
    | some u =>
      obtain ⟨v, h1, h2⟩ := kdIs_ok c
      exact ⟨u, v, rfl, h1, h2⟩
def noB (K : PySem.W.Frag) (a : Addr) (z : Str) : Bool := decide (PySem.W.nsIn K a z = some none)
end FP

namespace FP
open PySem PySem.Spec PyProof.Rows L2
/-- a dict of the module -/
structure KTab (w : World) (K : PySem.W.Frag) (mg : Str → Option Value) (n : Str) (A : Addr) : Prop where
  ex : ∃ es c, KDict K w A es c
  mg : mg n = some (.ref A)
section
variable {X : Cx} {W : WX} {T : List (Addr × Str)} {δ : De} {ω : Om} {a b e : Expr} {es : List Expr} {d da db : PyData} {ds : List PyData} {pos p p2 : Pos} {k : Bool} {R : Out → Prop} {ss : List Stmt} {n : Str} {A : Addr} {z : Str}
theorem pd_inKD {r : Option Value} (G : KTab X.w X.K X.mg n A) (ha : PD X δ ω a (.str z)) (hz : PySem.W.nsIn X.K A z = some r) (hk : r.isSome = k) (hg : Gl X n := by rfl) (hd : (n == ("__debug__" : Str)) = false := by decide) (hm : behindInMarks .In (.Name n p2) = false := by rfl) : PD X δ ω (.Compare a [.In] [.Name n p2] pos) (.bool k) := fun σ H rl Q q => by
  obtain ⟨es, c, D⟩ := G.ex
  refine we (pe_cmpR (op_in_kd D) pe_w (pe_glob (v := .ref A) hg G.mg rfl hd) hm) (ha σ H rl _ fun v H1 s1 d1 => ?_)
  cases d1
  refine ⟨z, r, rfl, rfl, hz, ?_⟩
  rw [hk]
  exact q _ H1 s1 (.bl _)
theorem pd_ixKD {u : Value} {v : V} (G : KTab X.w X.K X.mg n A) (hb : PD X δ ω b (.str z)) (hz : PySem.W.nsIn X.K A z = some (some u)) (hv : RelV v u) (hd : ∀ H, Dp X.K H v d) (hg : Gl X n := by rfl) (hdb : (n == ("__debug__" : Str)) = false := by decide) (hs : PlainIx b := by exact fun _ _ => rfl) : PD X δ ω (.Subscript (.Name n p2) b pos) d := fun σ H rl Q q => by
  obtain ⟨es, c, D⟩ := G.ex
  refine we (pe_ix ix_kdict (pe_glob (v := .ref A) hg G.mg rfl hdb) pe_w hs) (hb σ H rl _ fun y H1 s1 d1 => ?_)
  cases d1
  exact ⟨A, z, v, rfl, rfl, ⟨es, c, u, D.at_, D.lit, hz, hv⟩, q v H1 s1 (hd _)⟩
theorem inV_str : ∀ {ys : List Str}, inV (.str z) (ys.map V.str) = ys.any (· == z)
  | [] => rfl
  | y :: ys => by
    show (eqV (.str y) (.str z) || inV (.str z) (ys.map V.str)) = ((y == z) || ys.any (· == z))
    rw [inV_str (ys := ys)]
    rfl
theorem rd_inT {K : PySem.W.Frag} {ys : List Str} : RD K (rIn K false) (.str z) (.tuple (ys.map .str)) (.bool (ys.any (· == z))) := fun ps x y H _ hx hy Q q => by
  cases hx
  cases hy with
  | tup h1 h2 =>
    have ev := dpa_strs h2
    subst ev
    refine ⟨_, _, rfl, .inr (same_sqt hid_sub h1), rfl, ?_, ?_⟩
    · rw [List.all_map]
      exact List.all_eq_true.mpr fun _ _ => rfl
    · have e : (if false = true then !inV (V.str z) (ys.map V.str) else inV (V.str z) (ys.map V.str)) = ys.any (· == z) := inV_str
      rw [e]
      exact q _ H (Same.refl H) (.bl _)
theorem pd_inT {ys : List Str} (ha : PD X δ ω a (.str z)) (hb : PD X δ ω b (.tuple (ys.map .str))) (hm : behindInMarks .In b = false := by rfl) : PD X δ ω (.Compare a [.In] [b] pos) (.bool (ys.any (· == z))) := pd_cmp op_in_seq rd_inT ha hb hm
/-- x, y = a, b: two locals -/
theorem sd_par (i j : Nat) {x y : Str} {px py pt pt2 : Pos} {kt k2 : Nat} (hc : X.calm = true) (hN : X.N.Nodup) (ha : PDs X δ ω [a, b] [da, db]) (hk : SD X W T ss ((δ.set i (some (.im da))).set j (some (.im db))) ω R)
    (hw : swappedStores [.Tuple [.Name x px, .Name y py] kt pt] (.Tuple [a, b] k2 pt2) X.env = pure (some [x, y])) (hij : i ≠ j := by decide) (hi : X.N[i]? = some x := by rfl) (hj : X.N[j]? = some y := by rfl) (hx : X.env.scope.names.lookup x = some .local := by rfl) (hy : X.env.scope.names.lookup y = some .local := by rfl)
    (hs : swapsWithSole [.Tuple [.Name x px, .Name y py] kt pt] (.Tuple [a, b] k2 pt2) pos.line X.env = pure false := by rfl) : SD X W T (.Assign [.Tuple [.Name x px, .Name y py] kt pt] (.Tuple [a, b] k2 pt2) pos :: ss) δ ω R :=
  sd_cons fun σ H D rl t k => ws (ps_par hc hN hi hj hij hx hy pa_w hw hs) (ha σ H rl _ fun vs H1 s1 d1 => by
    cases d1 with
    | cons b1 b2 =>
      cases b2 with
      | cons b3 b4 =>
        cases b4
        exact ⟨_, _, rfl, k.nx _ ω _ H1 hk (.of s1) (((rl.mono s1).set (x := .im da) b1).set (x := .im db) b3)⟩)
end
/-! ### [e for a, (b, c) in zip(xs, ys)] -/
theorem wipe_put {σ : L2.St} {v : Nat} {x : Option V} : ∀ r : List Nat, (wipe (σ.set v x) r).set v none = (wipe σ r).set v none
  | [] => by
    show (σ.set v x).set v none = σ.set v none
    rw [List.set_set]
  | u :: r => by
    show ((wipe (σ.set v x) r).set u none).set v none = ((wipe σ r).set u none).set v none
    by_cases e : u = v
    · subst e
      rw [List.set_set, List.set_set, wipe_put r]
    · rw [List.set_comm _ _ e, wipe_put r, List.set_comm _ _ (Ne.symm e)]
theorem wipe_mem {σ : L2.St} {v : Nat} {x : Option V} : ∀ {r : List Nat}, v ∈ r → wipe (σ.set v x) r = wipe σ r
  | u :: r, h => by
    show (wipe (σ.set v x) r).set u none = (wipe σ r).set u none
    by_cases e : u = v
    · subst e
      exact wipe_put r
    · rw [wipe_mem ((List.mem_cons.mp h).resolve_left (fun z => e z.symm))]
theorem wipe_wipe {σ : L2.St} {vs : List Nat} : ∀ {r : List Nat}, (∀ v ∈ r, v ∈ vs) → wipe (wipe σ r) vs = wipe σ vs
  | [], _ => rfl
  | u :: r, h => by
    show wipe ((wipe σ r).set u none) vs = wipe σ vs
    rw [wipe_mem (h u List.mem_cons_self), wipe_wipe fun v hv => h v (List.mem_cons_of_mem _ hv)]
def wipeD (δ : De) : List Nat → De
  | [] => δ
  | v :: vs => (wipeD δ vs).set v none
theorem rl_wipe {K : PySem.W.Frag} {H : Hp} {σ : L2.St} {δ : De} {ω : Om} (rl : Rl K H σ δ ω) : ∀ vs : List Nat, Rl K H (wipe σ vs) (wipeD δ vs) ω
  | [] => rl
  | v :: vs => (rl_wipe rl vs).forget
abbrev gZ (K : PySem.W.Frag) (j1 j2 j3 : Nat) : TG := gTup K 2 (gCons (gName j1) (gCons (gTup K 2 (gCons (gName j2) (gCons (gName j3) gNil))) gNil))
section
variable {X : Cx} {δ : De} {ω : Om} {a b elt : Expr} {pos p : Pos} {xs ys zs : List PyData}
theorem pn_lcz {scope : Scope} {n1 n2 n3 : Str} {j1 j2 j3 : Nat} {es : List Expr} {kk : Nat} {tp zp : Pos} (ls : List (PyData × PyData)) (hc : X.calm = true) (hN : X.N.Nodup) (hm : X.mg "zip" = none) (ha : PD X δ ω a (.tuple xs)) (hb : PD X δ ω b (.tuple (ls.map fun q => .tuple [q.1, q.2]))) (hl : xs.length = ls.length) (hlz : zs.length = xs.length) (hz : xs.length ≤ 1000)
    (ok : BlkOk X.N X.env.scope scope [(n1, j1), (n2, j2), (n3, j3)]) (hg : ∀ (s : Shared) (H : Hp) (C : Addr) (cl : List (Str × Addr)) (fp : List Addr), PG (X.blk s H scope (compEnvC scope cl C X.env) fp) (.Tuple es kk tp) (gZ X.K j1 j2 j3))
    (he : ∀ (i : Nat) (x l m z : PyData), xs[i]? = some x → ls[i]? = some (l, m) → zs[i]? = some z → ∀ D o (s : Shared) (H : Hp) (C : Addr) (cl : List (Str × Addr)) (fp : List Addr), PD (X.blk s H scope (compEnvC scope cl C X.env) fp) (((wipeD δ [j1, j2, j3]).set j1 (some (.im x))).set j2 (some (.im l)) |>.set j3 (some (.im m))) (omD ω D o) elt z)
    (hgz : Gl X "zip" := by rfl) (hs1 : starEach [a, b] X.env = (false, eval a X.env) :: starEach [b] X.env := by rfl) (hs2 : starEach [b] X.env = (false, eval b X.env) :: starEach [] X.env := by rfl) (hpl : (backTo zp (starEach [b] X.env)).any (·.1) = false := by rfl)
    (hs : ∀ x, foldedSetIterable (.Call (.Name "zip" p) [a, b] [] zp) X.env x = pure x := by intro _; rfl) : PN X δ ω (.ListComp elt [⟨.Tuple es kk tp, .Call (.Name "zip" p) [a, b] [] zp, [], 0⟩] scope pos) zs := fun σ H rl Q k => by
  refine we (pe_lc (own := [(n1, j1), (n2, j2), (n3, j3)]) hc hN (RZ.pi_zipA hgz hm (pa_cons pe_w (pa_cons pe_w pa_nil hs2) hs1) hs1 hpl) ok hg (fun _ _ _ _ _ => pts_nil) (fun s H0 C cl fp => pe_blk s H0 C cl fp) hs) ?_
  refine ha σ H rl _ fun va H0 s0 da => hb σ H0 (rl.mono s0) _ fun vb H1 s1 db => ?_
  have da1 := dpm (hid_same s1) da
  have rl1 := rl.mono (s0.trans s1)
  cases da1 with
  | tup a1 a2 =>
    cases db with
    | tup b1 b2 =>
      rename_i qa va qb vb
      have la := dpa_len a2
      have lb : vb.length = ls.length := by rw [dpa_len b2, List.length_map]
      refine ⟨qa, qb, va, vb, rfl, .inr ⟨same_sqt hid_sub a1, same_sqt hid_sub b1, fun D hD => ?_⟩⟩
      refine ⟨fun i m H2 => m = xs.length - i ∧ i ≤ xs.length ∧ Same H1 H2 ∧ ∃ vs, H2 D = some (.lst vs) ∧ DpAll X.K (hid (ads (omD ω D (.lst ((zs.take i).map .im)))) H2) vs (zs.take i), ⟨xs.length, by omega, Nat.zero_le _, same_new hD, [], upd_same, by rw [List.take_zero]; exact .nil⟩, ?_⟩
      rintro i m H2 ⟨em, hi, s2, vs, hv, dv⟩
      have sa := same_sqt s2 (same_sqt hid_sub a1)
      have sb := same_sqt s2 (same_sqt hid_sub b1)
      by_cases hlt : i < xs.length
      · have ex : xs[i]? = some xs[i] := List.getElem?_eq_getElem hlt
        have el : ls[i]? = some ls[i] := List.getElem?_eq_getElem (by omega)
        have ez : zs[i]? = some zs[i] := List.getElem?_eq_getElem (by omega)
        obtain ⟨u, eu, du⟩ := dpa_get a2 ex
        obtain ⟨w, ew, dw⟩ := dpa_get b2 (show (ls.map fun q => PyData.tuple [q.1, q.2])[i]? = some (.tuple [ls[i].1, ls[i].2]) by rw [List.getElem?_map, el]; rfl)
        refine .inr ⟨⟨va, vb, u, w, sa, sb, eu, ew⟩, fun H3 => Same H1 H3 ∧ ∃ vs, H3 D = some (.lst vs) ∧ DpAll X.K (hid (ads (omD ω D (.lst ((zs.take (i + 1)).map .im)))) H3) vs (zs.take (i + 1)), fun H3 ⟨s3, h3⟩ => ⟨xs.length - (i + 1), by omega, rfl, hlt, s3, h3⟩, fun x H3 hy => ?_⟩
        obtain ⟨Tt, u', w', rfl, hT, rfl, q1, q2⟩ := hy
        have eu' := (q1 va sa).symm.trans eu
        have ew' := (q2 vb sb).symm.trans ew
        cases eu'
        cases ew'
        cases dw with
        | tup c1 c2 =>
          cases c2 with
          | cons c3 c4 =>
            cases c4 with
            | cons c5 c6 =>
              cases c6
              rename_i qw w1 w2
              have st : Same H2 (upd H2 Tt (.tup [u, .ref qw])) := same_new hT
              refine ⟨Tt, [u, .ref qw], rfl, SqT.of upd_same, rfl, ?_⟩
              refine ⟨u, _, rfl, ?_⟩
              refine ⟨.ref qw, [], rfl, ?_⟩
              refine ⟨qw, [w1, w2], rfl, same_sqt st (same_sqt s2 (same_sqt hid_sub c1)), rfl, ?_⟩
              refine ⟨w1, _, rfl, ?_⟩
              refine ⟨w2, [], rfl, ?_⟩
              refine ⟨rfl, rfl, ?_⟩
              refine ⟨?_, ?_⟩
              · rw [wipe_mem (by simp), wipe_mem (by simp), wipe_mem (by simp), wipe_wipe (fun v h => h)]
              · have rl3 := rl1.omD hD s2 hv dv
                have rl4 := rl_wipe (rl3.mono st) [j1, j2, j3]
                have up := (hid_in (ω := ω) (o := .lst ((zs.take i).map .im)) hD s2)
                have up2 : Same (hid (ads ω) H1) (hid (ads (omD ω D (.lst ((zs.take i).map .im)))) (upd H2 Tt (.tup [u, .ref qw]))) := up.trans (hid_same st)
                have rl5 := ((rl4.set (i := j1) (x := .im xs[i]) (v := u) (dpm up2 du)).set (i := j2) (x := .im ls[i].1) (v := w1) (dpm up2 c3)).set (i := j3) (x := .im ls[i].2) (v := w2) (dpm up2 c5)
                intro s H0 C cl fp
                refine he i xs[i] ls[i].1 ls[i].2 zs[i] ex el ez D _ s H0 C cl fp _ _ rl5 _ fun v H4 s4 d4 => ⟨vs, (st.trans s4) D _ hv, ?_, same_upd_new hD (s2.trans (st.trans s4)), vs ++ [v], upd_same, ?_⟩
                · rw [dpa_len dv, List.length_take]
                  refine Nat.lt_of_le_of_lt (Nat.min_le_left _ _) (Nat.lt_of_lt_of_le hlt (Nat.le_trans hz ?_))
                  rw [sizeLine_eq]
                  decide
                · rw [List.take_add_one, ez]
                  exact dpa_app (dpam hid_upd (dpam (hid_same (st.trans s4)) dv)) (.cons (dpm hid_upd d4) .nil)
      · have e : i = xs.length := by omega
        subst e
        refine .inl ⟨⟨va, vb, sa, sb, .inl (by omega)⟩, ?_⟩
        rw [List.take_of_length_le (by omega)] at dv
        exact k D vs H2 ((s0.trans s1).trans s2) ((s0.trans s1).free hD) hv (dpam (hid_more fun b h => ads_omD.mpr (List.mem_cons.mp h)) dv)
end
end FP

namespace FP
open PySem PySem.Spec PyProof.Rows L2
section
variable {X : Cx} {W : WX} {T : List (Addr × Str)} {δ : De} {ω : Om} {e tg iter b : Expr} {d : PyData} {ds : List PyData} {pos p p1 : Pos} {R : Out → Prop} {ss : List Stmt} {x : Str}
/-- x = [elt for tg in iter], a list of one's own -/
theorem sd_ownLc (i : Nat) {py cpos : Pos} {elt : Expr} {scope : Scope} {y : Str} {j : Nat} {items ys : List PyData} (hc : X.calm = true) (hN : X.N.Nodup) (hw : PWs X δ ω tg iter items) (hl : ys.length = items.length) (ok : BlkOk X.N X.env.scope scope [(y, j)])
    (hg : ∀ (s : Shared) (H : Hp) (C : Addr) (cl : List (Str × Addr)) (fp : List Addr), PG (X.blk s H scope (compEnvC scope cl C X.env) fp) tg (gName j))
    (he : ∀ (i : Nat) (d y : PyData), items[i]? = some d → ys[i]? = some y → ∀ D o (s : Shared) (H : Hp) (C : Addr) (cl : List (Str × Addr)) (fp : List Addr), PD (X.blk s H scope (compEnvC scope cl C X.env) fp) (δ.set j (some (.im d))) (omD ω D o) elt y)
    (hz : items.length ≤ 10000) (hsw : swapsWith (.ListComp elt [⟨tg, iter, [], 0⟩] scope cpos) (some (.Name x py)) pos.line X.env = pure true) (hk : ∀ D, SD X W T ss (δ.set i (some (.ad D))) (omD ω D (.lst (ys.map .im))) R)
    (hy : X.N[i]? = some x := by rfl) (hyl : X.env.scope.names.lookup x = some .local := by rfl) (hs : ∀ x, foldedSetIterable iter X.env x = pure x := by intro _; rfl) : SD X W T (.Assign [.Name x py] (.ListComp elt [⟨tg, iter, [], 0⟩] scope cpos) pos :: ss) δ ω R := by
  obtain ⟨wi, h1, h2⟩ := hw
  refine sd_cons fun σ H D rl t k => ws (ps_setLc (i := i) (own := [(y, j)]) hc hN hy hyl hsw h1 ok hg (fun _ _ _ _ _ => pts_nil) (fun s H0 C cl fp => pe_blk s H0 C cl fp) hs) ?_
  refine lc_data rl (fun R kk => h2 σ H rl R kk) hl hz (fun i d y hd hy D o σ' H' rl' Q' k' s H0 C cl fp => he i d y hd hy D o s H0 C cl fp σ' H' rl' Q' k') (fun q vs H' s n hv dv => ?_)
  have rl2 : Rl X.K H' σ δ (omD ω q (.lst (ys.map .im))) := rl.omD n s hv (dpam (hid_more fun b h => List.mem_cons.mpr (ads_omD.mp h)) dv)
  refine k.nx _ _ _ H' (hk q) ⟨fun b o h _ _ => s b o h, fun a h => ?_, rfl, fun t => t.ext s⟩ (rl2.set (x := .ad q) (v := .ref q) rfl)
  rcases List.mem_cons.mp (show a ∈ q :: ω.os.map (·.1) from h) with z | z
  · exact .inr fun o ho => by
      rw [z, n] at ho
      cases ho
  · exact .inl z
/-- a list of one's own is from now on data -/
theorem sd_give (i : Nat) {D : Addr} {xs : List PyData} (hps : ω.ps = []) (hd : δ[i]? = some (some (.ad D))) (h : SD X W T ss (δ.set i (some (.im (.list xs)))) ω R) : SD X W T ss δ (omD ω D (.lst (xs.map .im))) R := fun σ H Dd rl t k => by
  obtain ⟨v, e1, e2⟩ := rl.sl i _ hd
  have e2 : v = .ref D := e2
  subst e2
  obtain ⟨vs, g1, g2⟩ := rl.ro.ob D _ List.mem_cons_self
  have nd : (D :: ω.os.map (·.1)).Nodup := rl.ro.nd
  have nin : D ∉ ads ω := fun z => by
    rcases List.mem_append.mp z with q | q
    · rw [hps] at q
      cases q
    · exact (List.nodup_cons.mp nd).1 q
  have l2 : Rl X.K H σ δ ω := ⟨rl.len, fun j r hj => by
      obtain ⟨u, a1, a2⟩ := rl.sl j r hj
      exact ⟨u, a1, sdv_mono hid_omD a2⟩, fun z o hz => odv_mono hid_omD (Same.refl H) (rl.ro.ob z o (List.mem_cons_of_mem _ hz)), (List.nodup_cons.mp nd).2, rl.ro.th⟩
  have l3 := l2.set (i := i) (x := .im (.list xs)) (v := .ref D) (.lst (SqL.of (hid_of nin g1)) (dpam hid_omD (dpa_im g2)))
  have es : σ.set i (some (.ref D)) = σ := by
    obtain ⟨hlt, ev⟩ := List.getElem?_eq_some_iff.mp e1
    rw [← ev]
    exact List.set_getElem_self hlt
  rw [es] at l3
  exact h σ H Dd l3 t (k.step ⟨fun b o e _ _ => e, fun a ha => .inl (List.mem_cons_of_mem _ ha), rfl, fun t => t⟩)
/-- x[b] = e, x the list of one's own that was made last -/
theorem sd_setix (i : Nat) {D : Addr} {xs : List PyData} {j : Nat} {sp : Pos} (he : PD X δ (omD ω D (.lst (xs.map .im))) e d) (hb : PD X δ (omD ω D (.lst (xs.map .im))) b (.int (j : Int))) (hj : j < xs.length) (hk : SD X W T ss δ (omD ω D (.lst ((xs.set j d).map .im))) R)
    (hd : δ[i]? = some (some (.ad D)) := by rfl) (hN : X.N[i]? = some x := by rfl) (hv : Vis X.env.scope x := by first | exact Or.inl rfl | exact Or.inr (Or.inl rfl) | exact Or.inr (Or.inr rfl)) (h1 : (x == ("__debug__" : Str)) = false := by decide) (h2 : (x == ("__classdict__" : Str)) = false := by decide)
    (ha : ∀ v, assign (.Subscript (.Name x p1) b sp) X.env v = (do
      let ov ← holding [v] (eval (.Name x p1) X.env)
      let iv ← holding [v, ov] (eval b X.env)
      standAt sp
      holding [v, ov, iv] (setItem ov iv v)
      release [v, ov, iv] []) := by intro _; rfl)
    (hs : swapsWithSole [.Subscript (.Name x p1) b sp] e pos.line X.env = pure false := by rfl) (hw : swappedStores [.Subscript (.Name x p1) b sp] e X.env = pure none := by rfl) (h3 : (assignEach [.Subscript (.Name x p1) b sp] X.env).map (·.2) = [assign (.Subscript (.Name x p1) b sp) X.env] := by rfl) :
    SD X W T (.Assign [.Subscript (.Name x p1) b sp] e pos :: ss) δ (omD ω D (.lst (xs.map .im))) R :=
  sd_cons fun σ H Dd rl t k => ws (ps_asg pe_w (pg_sub (pe_var hN hv h1 h2) pe_w set_list ha) hs hw h3) (he σ H rl _ fun y H1 s1 d1 => by
    have rl1 := rl.mono s1
    obtain ⟨v, e1, e2⟩ := rl1.sl i _ hd
    have e2 : v = .ref D := e2
    subst e2
    refine ⟨_, e1, hb σ H1 rl1 _ fun iv H2 s2 d2 => ?_⟩
    cases d2
    have rl2 := rl1.mono s2
    obtain ⟨vs, g1, g2⟩ := rl2.ro.ob D _ List.mem_cons_self
    have lv : vs.length = xs.length := dpa_len (dpa_im g2)
    have dset : ∀ {H : Hp} {y : V} {d : PyData}, Dp X.K H y d → ∀ {xs : List PyData} {vs : List V} (j : Nat), DpAll X.K H vs xs → DpAll X.K H (vs.set j y) (xs.set j d) := by
      intro H y d hd xs
      induction xs with
      | nil =>
        intro vs j h
        cases h
        exact .nil
      | cons x xs ih =>
        intro vs j h
        cases h with
        | cons a b =>
          cases j with
          | zero => exact .cons hd b
          | succ j => exact .cons a (ih j b)
    refine ⟨D, vs, (j : Int), j, rfl, rfl, g1, ?_, ?_⟩
    · unfold ixN
      rw [lv, if_pos (Int.natCast_nonneg j), if_pos (show (j : Int) < (xs.length : Int) by omega), Int.toNat_natCast]
    · obtain ⟨st, l3⟩ := own_step (T := T) (o' := .lst ((xs.set j d).map .im)) (u := .lst (vs.set j y)) rl2 g1 (fun _ z => by cases z) (fun _ _ z => by unfold LamX.CodeO at z; cases z) ⟨_, upd_same, im_dpa (dset (dpm hid_upd (dpm (hid_same s2) d1)) j (dpam hid_upd (dpa_im g2)))⟩
      exact k.nx δ _ σ _ hk ((Stp.of (s1.trans s2)).trans st) l3)
end
end FP

namespace FP
open PySem PySem.Spec PyProof.Rows L2
def rCatQ (K : PySem.W.Frag) : R2 := fun x y H Q => ∃ l b xs zs, x = .ref l ∧ y = .ref b ∧ SqL K H l xs ∧ SqL K H b zs ∧ xs.length + zs.length ≤ sizeLine ∧ ∀ p, H p = none → Q (.ref p) (upd H p (.lst (xs ++ zs)))
theorem op_catQ {X : Cx} : OpR X (binaryOp .Add) (rCatQ X.K) := by
  intro pins s σ H x y v u Q I rx ry h
  obtain ⟨l, b, xs, zs, rfl, rfl, hl, hb, hz, q⟩ := h
  cases rx
  cases ry
  obtain ⟨is1, r1, p1, _⟩ := I.list hl
  obtain ⟨is2, r2, p2, _⟩ := I.list hb
  obtain ⟨⟨c1, dd1, da1, sl1⟩, g1, e1, n1, f1⟩ := p1.isList
  obtain ⟨⟨c2, dd2, da2, sl2⟩, g2, e2, n2, f2⟩ := p2.isList
  simp only at e1 f1 e2 f2
  subst e1 f1 e2 f2
  have le : is1.length + is2.length ≤ sizeLine := by rw [← r1.length, ← r2.length]; exact hz
  have ea : is1.toArray ++ is2.toArray = (is1 ++ is2).toArray := by simp
  refine concat_meets ⟨_, g1, rfl⟩ ⟨_, g2, rfl⟩ noFill_list_add seq_list_add PySem.F.slot_list_add PySem.F.entry_list_add (PySem.F.args_list_add_2 _ _) (list_addW l b is1.toArray is2.toArray n1 n2 dd1 dd2 sl1 sl2 (by simpa using le)) ⟨g1, g2, ?_⟩
  rw [ea]
  exact ⟨.ref _, _, I.lnew (t' := s.toks) (r1.append r2) (by rw [List.length_append]; exact hz), rfl, q _ I.fresh⟩
/-- a + b, lists -/
theorem pn_catL {X : Cx} {δ : De} {ω : Om} {a b : Expr} {ds dt : List PyData} {pos : Pos} (ha : PL X δ ω a ds) (hb : PL X δ ω b dt) (hz : ds.length + dt.length ≤ 10000) : PN X δ ω (.BinOp a .Add b pos) (ds ++ dt) := fun σ H rl Q k =>
  we (pe_op op_catQ pe_w pe_w) (ha σ H rl _ fun q vs H1 s1 h1 d1 => hb σ H1 (rl.mono s1) _ fun r us H2 s2 h2 d2 =>
    ⟨q, r, vs, us, rfl, rfl, s2.seq h1, h2, by rw [dpa_len d1, dpa_len d2, sizeLine_eq]; omega, fun p hp => k p _ _ ((s1.trans s2).trans (same_new hp)) ((s1.trans s2).free hp) upd_same (dpam (hid_new hp (same_new hp)) (dpa_app (dpam (hid_same s2) d1) d2))⟩)
end FP

namespace FP
open PySem PySem.Spec PyProof.Rows L2 HotX L2H
/-! ### own objects by their place -/
def putO (ω : Om) (j : Nat) (p : Addr × Od) : Om := ⟨ω.ps, ω.os.set j p⟩
theorem map_put {os : List (Addr × Od)} {j : Nat} {D : Addr} {o o' : Od} (h : os[j]? = some (D, o)) : (os.set j (D, o')).map (·.1) = os.map (·.1) := by
  rw [List.map_set]
  obtain ⟨hl, e⟩ := List.getElem?_eq_some_iff.mp h
  have e2 : (os.map (·.1))[j]'(by rw [List.length_map]; exact hl) = D := by
    rw [List.getElem_map, e]
  show (os.map (·.1)).set j D = os.map (·.1)
  rw [← e2, List.set_getElem_self]
theorem osA_put {ω : Om} {j : Nat} {D : Addr} {o o' : Od} (h : ω.os[j]? = some (D, o)) : osA (putO ω j (D, o')) = osA ω := map_put h
theorem ads_put {ω : Om} {j : Nat} {D : Addr} {o o' : Od} (h : ω.os[j]? = some (D, o)) : ads (putO ω j (D, o')) = ads ω := by
  show ω.ps ++ (ω.os.set j (D, o')).map (·.1) = ω.ps ++ ω.os.map (·.1)
  rw [map_put h]
/-- an object of one's own was written -/
theorem own_at {T : List (Addr × Str)} {K : PySem.W.Frag} {H H' : Hp} {σ : L2.St} {δ : De} {ω : Om} {D : Addr} {o o' : Od} {u0 : HO} {j : Nat} (rl : Rl K H σ δ ω) (ho : ω.os[j]? = some (D, o)) (e0 : H D = some u0) (nt : ∀ ps, u0 ≠ .tbl ps) (nc : ∀ c q, u0 ≠ LamX.CodeO c q)
    (kept : ∀ b x, b ≠ D → H b = some x → H' b = some x) (new : OdV K (hid (ads ω) H') H' D o') : Stp T ω (putO ω j (D, o')) H H' ∧ Rl K H' σ δ (putO ω j (D, o')) := by
  have am : D ∈ osA ω := List.mem_map.mpr ⟨_, List.mem_of_getElem? ho, rfl⟩
  have aw : ads (putO ω j (D, o')) = ads ω := ads_put ho
  have hh : Same (hid (ads ω) H) (hid (ads ω) H') := fun b x h => by
    obtain ⟨n, e⟩ := hid_out h
    exact hid_of n (kept b x (fun z => n (by rw [z]; exact List.mem_append_right _ am)) e)
  refine ⟨⟨fun b x h n _ => kept b x (fun z => n (by rw [z]; exact am)) h, fun a h => .inl (by rw [osA_put ho] at h; exact h), rfl, fun t => ?_⟩, ⟨rl.len, fun i r h => ?_, fun z x h => ?_, ?_, fun z h hz => ?_⟩⟩
  · intro q hq
    obtain ⟨ps, a1, a2, a3⟩ := t q hq
    refine ⟨ps, kept _ _ (fun z => nt ps (by rw [z, e0] at a1; exact Option.some.inj a1)) a1, a2, fun p' cv hc => ?_⟩
    obtain ⟨c0, b1, b2⟩ := a3 p' cv hc
    exact ⟨c0, b1, kept _ _ (fun z => nc _ _ (by rw [z, e0] at b2; exact Option.some.inj b2)) b2⟩
  · obtain ⟨v, h1, h2⟩ := rl.sl i r h
    rw [aw]
    exact ⟨v, h1, sdv_mono hh h2⟩
  · rw [aw]
    obtain ⟨i, hi⟩ := List.mem_iff_getElem?.mp h
    replace hi : (ω.os.set j (D, o'))[i]? = some (z, x) := hi
    by_cases e : j = i
    · subst e
      rw [List.getElem?_set_self (List.getElem?_eq_some_iff.mp ho).1] at hi
      cases hi
      exact new
    · rw [List.getElem?_set_ne e] at hi
      have na : z ≠ D := fun zz => by
        subst zz
        refine e ((List.getElem?_inj (l := ω.os.map (·.1)) (by rw [List.length_map]; exact (List.getElem?_eq_some_iff.mp ho).1) rl.ro.nd).mp ?_)
        rw [List.getElem?_map, List.getElem?_map, ho, hi]
        rfl
      have g := rl.ro.ob z x (List.mem_of_getElem? hi)
      exact odv_keep (fun w => sdv_mono hh w) (fun u _ g1 => kept _ _ na g1) g
  · show (osA (putO ω j (D, o'))).Nodup
    rw [osA_put ho]
    exact rl.ro.nd
  · have hn := rl.ro.th z h
    by_cases za : z = D
    · have g := odv_some new
      rw [za] at hz
      exact g hz
    · cases e : H z with
      | none => exact hn e
      | some u =>
        rw [kept z u za e] at hz
        cases hz
/-! ### expressions that may write -/
def YE (X : Cx) (T : List (Addr × Str)) (δ : De) (ω : Om) (e : Expr) (d : PyData) (ω' : Om) : Prop := ∀ σ H, Rl X.K H σ δ ω → LamX.Tabs T H → ∀ Q : VK, (∀ v H', Stp T ω ω' H H' → Rl X.K H' σ δ ω' → Dp X.K (hid (ads ω') H') v d → Q v H') → wpe X e σ H Q
def YT (X : Cx) (T : List (Addr × Str)) (δ : De) (ω : Om) (e : Expr) (k : Bool) (ω' : Om) : Prop := ∀ σ H, Rl X.K H σ δ ω → LamX.Tabs T H → ∀ Q : Bool → Hp → Prop, (∀ H', Stp T ω ω' H H' → Rl X.K H' σ δ ω' → Q k H') → wpt X e σ H Q
def YW (X : Cx) (T : List (Addr × Str)) (δ : De) (ω : Om) (e : Expr) (k : Bool) (ω' : Om) : Prop := ∀ σ H, Rl X.K H σ δ ω → LamX.Tabs T H → ∀ Q : Bool → Hp → Prop, (∀ H', Stp T ω ω' H H' → Rl X.K H' σ δ ω' → Q k H') → wpw X e σ H Q
def YQ (X : Cx) (W : WX) (T : List (Addr × Str)) (δ : De) (ω ω' : Om) (σ : L2.St) (H : Hp) (Q : VK) : Rs → Prop
  | .ok d => ∀ v H', Stp T ω ω' H H' → Rl X.K H' σ δ ω' → Dp X.K (hid (ads ω') H') v d → Q v H'
  | .er C => ∀ H', Stp T ω ω' H H' → Rl X.K H' σ δ ω' → W (.ref C) none σ H'
def YR (X : Cx) (W : WX) (T : List (Addr × Str)) (δ : De) (ω : Om) (e : Expr) (r : Rs) (ω' : Om) : Prop := ∀ σ H, Rl X.K H σ δ ω → LamX.Tabs T H → ∀ Q : VK,
  YQ X W T δ ω ω' σ H Q r → wpe X e σ H Q
section
variable {X : Cx} {W : WX} {T : List (Addr × Str)} {δ : De} {ω ω1 ω2 : Om} {a b c e : Expr} {es r : List Expr} {d da db dz : PyData} {ds : List PyData} {pos p : Pos} {k x y : Bool} {R : Out → Prop} {ss sa sb : List Stmt}
theorem YE.eq (h : YE X T δ ω e d ω1) (q : d = dz) : YE X T δ ω e dz ω1 := q ▸ h
theorem PD.ye (h : PD X δ ω e d) : YE X T δ ω e d ω := fun σ H rl t Q q => h σ H rl Q fun v H' s dv => q v H' (.of s) (rl.mono s) dv
theorem PX.ye (h : PX X T δ ω e d) : YE X T δ ω e d ω := h
theorem PTd.x2 (h : PTd X δ ω e k) : YT X T δ ω e k ω := fun σ H rl t Q q => h σ H rl Q fun H' s => q H' (.of s) (rl.mono s)
theorem YW.yt (h : YW X T δ ω e k ω1) : YT X T δ ω e k ω1 := fun σ H rl t Q q => wt (PW.pt pw_w) (h σ H rl t Q q)
theorem YE.yr (h : YE X T δ ω e d ω1) : YR X W T δ ω e (.ok d) ω1 := h
theorem PR.yr {rr : Rs} (h : PR X W δ ω e rr) : YR X W T δ ω e rr ω := fun σ H rl t Q q => h σ H rl Q (by
  cases rr with
  | ok d => exact fun v H' s dv => q v H' (.of s) (rl.mono s) dv
  | er C => exact fun H' s => q H' (.of s) (rl.mono s))
theorem t2_cmp {op : CmpOp} {r : R2} (ho : OpR X (compareOp op) r) (hr : RD X.K r da db (.bool k)) (ha : YE X T δ ω a da ω1) (hb : YE X T δ ω1 b db ω2) (hm : behindInMarks op b = false) : YT X T δ ω (.Compare a [op] [b] pos) k ω2 := fun σ H rl t Q q =>
  wt (pt_cmpR ho pe_w pe_w hm) (ha σ H rl t _ fun x H1 s1 l1 d1 => hb σ H1 l1 (s1.tab t) _ fun y H2 s2 l2 d2 =>
    hr _ x y H2 l2.ro.there (dp_ke s2.seen da x d1) d2 _ fun z H3 s3 d3 => by
      cases d3
      exact ⟨_, rfl, q H3 ((s1.trans s2).trans (.of s3)) (l2.mono s3)⟩)
theorem t2_not (h : YT X T δ ω e k ω1) : YT X T δ ω (.UnaryOp .Not e pos) (!k) ω1 := fun σ H rl t Q q => wt (pt_not pt_w) (h σ H rl t _ fun H1 s1 l1 => q H1 s1 l1)
theorem w2_or1 (h : YT X T δ ω a k ω1) : YW X T δ ω (.BoolOp .Or [a] pos) k ω1 := fun σ H rl t Q q => ww (pw_or1 pt_w) (h σ H rl t Q q)
theorem w2_and1 (h : YT X T δ ω a k ω1) : YW X T δ ω (.BoolOp .And [a] pos) k ω1 := fun σ H rl t Q q => ww (pw_and1 pt_w) (h σ H rl t Q q)
theorem w2_orF (h : YT X T δ ω a false ω1) (h2 : YW X T δ ω1 (.BoolOp .Or (b :: r) pos) y ω2) : YW X T δ ω (.BoolOp .Or (a :: b :: r) pos) y ω2 := fun σ H rl t Q q =>
  ww (pw_or pt_w pw_w) (h σ H rl t _ fun H1 s1 l1 => iteF (h2 σ H1 l1 (s1.tab t) Q fun H2 s2 l2 => q H2 (s1.trans s2) l2))
theorem w2_orT (h : YT X T δ ω a true ω1) : YW X T δ ω (.BoolOp .Or (a :: b :: r) pos) true ω1 := fun σ H rl t Q q =>
  ww (pw_or pt_w pw_w) (h σ H rl t _ fun H1 s1 l1 => iteT (q H1 s1 l1))
theorem w2_andT (h : YT X T δ ω a true ω1) (h2 : YW X T δ ω1 (.BoolOp .And (b :: r) pos) y ω2) : YW X T δ ω (.BoolOp .And (a :: b :: r) pos) y ω2 := fun σ H rl t Q q =>
  ww (pw_and pt_w pw_w) (h σ H rl t _ fun H1 s1 l1 => iteT (h2 σ H1 l1 (s1.tab t) Q fun H2 s2 l2 => q H2 (s1.trans s2) l2))
theorem w2_andF (h : YT X T δ ω a false ω1) : YW X T δ ω (.BoolOp .And (a :: b :: r) pos) false ω1 := fun σ H rl t Q q =>
  ww (pw_and pt_w pw_w) (h σ H rl t _ fun H1 s1 l1 => iteF (q H1 s1 l1))
/-! statements -/
theorem sd_x (he : YE X T δ ω e d ω1) (hk : SD X W T ss δ ω1 R) (hs : swapsWith e none pos.line X.env = pure false := by rfl) : SD X W T (.Expr e pos :: ss) δ ω R :=
  sd_cons fun σ H D rl t k => ws (ps_expr pe_w hs) (he σ H rl t _ fun v H' s l dv => k.nx δ ω1 σ H' hk s l)
theorem sd_set2 (i : Nat) {x : Str} {pos' : Pos} (he : YE X T δ ω e d ω1) (hk : SD X W T ss (δ.set i (some (.im d))) ω1 R) (hN : X.N.Nodup) (hi : X.N[i]? = some x := by rfl) (hx : Loc X.env.scope x := by first | exact Or.inl rfl | exact Or.inr rfl) (hs : swapsWith e (some (.Name x pos')) pos.line X.env = pure false := by rfl)
    (hf : X.fn x = true ∨ X.env.scope.names.lookup x = some .local := by first | exact .inl rfl | exact .inr rfl | assumption) : SD X W T (.Assign [.Name x pos'] e pos :: ss) δ ω R :=
  sd_cons (s1_set i (fun σ H rl t Q q _ => he σ H rl t Q fun v H' s l dv => q (.im d) ω1 v H' hk s l dv) hN hi hx hs hf)
theorem sd_if2 {kk : Bool} (h : YT X T δ ω c kk ω1) (h1 : kk = true → SD X W T sa δ ω1 (Nxt X W T ss R)) (h2 : kk = false → SD X W T sb δ ω1 (Nxt X W T ss R)) : SD X W T (.If c sa sb pos :: ss) δ ω R :=
  sd_cons fun σ H D rl t k => ws (ps_if pt_w pss_w pss_w) (h σ H rl t _ fun H' s l => by
    cases kk with
    | true => exact iteT (h1 rfl σ H' D l (s.tab t) (k.step s))
    | false => exact iteF (h2 rfl σ H' D l (s.tab t) (k.step s)))
theorem sd_ifF2 (h : YT X T δ ω c false ω1) (h2 : SD X W T ss δ ω1 R) : SD X W T (.If c sa [] pos :: ss) δ ω R := sd_if2 h (fun z => by cases z) fun _ => sd_nil h2
theorem sd_ret2 (he : YE X T δ ω e d ω1) (hR : R (.rt (.im d) ω1)) : SD X W T (.Return (some e) pos :: ss) δ ω R :=
  sd_cons fun σ H D rl t k => ws (ps_ret pe_w) (he σ H rl t _ fun v H' s l dv => k.rt _ ω1 v H' hR s l.ro dv)
end
/-! ### methods -/
section
variable {X : Cx} {CX : CXT} {k : Nat} {f C : Addr} {fd : FuncData} {ps : List Str} {sp : Sp} {E : L2.St → XK} {x m : Str} {p pos apos : Pos} {e o : Expr} {es : List Expr} {ta : TE} {t : TA}
def tMethS (C : Addr) (m : Str) (sp : Sp) (E : L2.St → XK) (ta : TE) (t : TA) : TE := fun σ H Q => ta σ H fun v H1 => ∃ a dx fs, v = .ref a ∧ H1 a = some (.ins C dx fs) ∧ fs.lookup m = none ∧ t σ H1 fun vs H2 => sp (.ref a :: vs) H2 Q (E σ)
/-- the method found, its call is left -/
theorem mth_found {pl : Sem Bool} {pins : List (Addr × Obj)} {s : Shared} {σ : L2.St} {H : Hp} {P : Addr → Hp → Prop} {Q : Value → Shared → Prop} (I : Inv X pins σ H s) (he : PE X o ta) (c : Cls X.K C) (hm : Meth X.K C m f) (ht : MthAs X o m apos pos es pl)
    (h : ta σ H fun v H1 => ∃ a dx fs, v = .ref a ∧ H1 a = some (.ins C dx fs) ∧ fs.lookup m = none ∧ P a H1)
    (k : ∀ a s1 H1, Inv X pins σ H1 s1 → P a H1 → wpAny (model X.prog X.w) X.A (callWith pos (.ref f) [.ref a] (backTo pos (starEach es X.env)) (backToKw pos (keywordEach [] X.env))) Q X.xe s1) :
    wpAny (model X.prog X.w) X.A (eval (.Call (.Attribute o m apos) es [] pos) X.env) Q X.xe s := by
  refine PySem.W.methodCall_KW (pl := pl) (thn (he.run pins s σ H _ I h) ?_) ht
  rintro v s1 ⟨_, H1, I1, r, a, dx, fs, rfl, at_, own, p⟩
  cases show v = Value.ref a from r
  exact getmeth_ok I1 at_ c hm own (k a s1 H1 I1 p)
theorem pe_mthS {pl : Sem Bool} (he : PE X o ta) (c : Cls X.K C) (hm : Meth X.K C m f) (F : FnOk X.prog X.w X.K X.mg X.base CX k f fd ps sp) (hr : Room k X.A) (hb : L2.Binds X.K fd ps []) (hx : ∀ σ, PassesAt CX X σ (E σ)) (ha : PA X (e :: es) t)
    (hst : starEach (e :: es) X.env = (false, eval e X.env) :: starEach es X.env := by rfl) (hpl : (backTo pos (starEach es X.env)).any (·.1) = false := by rfl) (ht : MthAs X o m apos pos (e :: es) pl := by rfl) :
    PE X (.Call (.Attribute o m apos) (e :: es) [] pos) (tMethS C m sp E ta t) :=
  ⟨fun pins s σ H Q I h => mth_found I he c hm ht h fun a s1 H1 I1 told =>
    PySem.W.callWith_K (first := [.ref a]) (h₀ := X.base) I1.ok.mod.kin hm.kp (thn (ha.run pos pins s1 σ H1 _ I1 told) fun us _ ⟨vs, _, I2, r, q⟩ => ⟨I2.kIn, run_fnS (us := .ref a :: us) (vs := .ref a :: vs) F hr hb (hx σ) I2 (.cons rfl r) q⟩) hst hpl⟩
theorem pe_mthS0 {pl : Sem Bool} (he : PE X o ta) (c : Cls X.K C) (hm : Meth X.K C m f) (F : FnOk X.prog X.w X.K X.mg X.base CX k f fd ps sp) (hr : Room k X.A) (hb : L2.Binds X.K fd ps []) (hx : ∀ σ, PassesAt CX X σ (E σ)) (ht : MthAs X o m apos pos [] pl := by rfl) :
    PE X (.Call (.Attribute o m apos) [] [] pos) (tMethS C m sp E ta tNil) :=
  ⟨fun _ _ σ _ _ I h => mth_found I he c hm ht h fun a _ _ I1 q => PySem.W.callWith_K0 (first := [.ref a]) I1.kIn hm.kp (run_fnS (us := [.ref a]) (vs := [.ref a]) F hr hb (hx σ) I1 (.cons rfl .nil) q)⟩
end
section
variable {X : Cx} {W : WX} {T : List (Addr × Str)} {δ : De} {ω : Om} {e : Expr} {es : List Expr} {d : PyData} {ds : List PyData} {pos p p1 apos : Pos} {R : Out → Prop} {ss : List Stmt} {a C : Addr} {fs fs' : Fs} {f x m : Str} {k : Nat}
theorem at_mem {os : List (Addr × Od)} {j : Nat} {q : Addr × Od} (h : os[j]? = some q) : q ∈ os := List.mem_of_getElem? h
theorem meth_end {H : Hp} {σ : L2.St} {vs : List V} {j : Nat} {r : Rs} {Q : VK} {fr : Fs → List PyData → Rs → Fs → Prop} (rl : Rl X.K H σ δ ω) (ho : ω.os[j]? = some (a, .ins C (imF fs))) (d1 : DpAll X.K (hid (ads ω) H) vs ds) (hf : fr fs ds r fs')
    (q : YQ X W T δ ω (putO ω j (a, .ins C (imF fs'))) σ H Q r) :
    spW X.K C fr (.ref a :: vs) H Q (WE W σ) := by
  have am : a ∈ ads ω := List.mem_append_right _ (List.mem_map.mpr ⟨_, at_mem ho, rfl⟩)
  obtain ⟨dx1, us1, k1, k2⟩ := rl_ins rl (at_mem ho)
  refine ⟨ads ω, a, fs, ds, r, fs', min_of rl (at_mem ho) d1, hf, fun H' dx2 us2 kept l1 l2 => ?_⟩
  rw [hid_cons_in am] at l2 ⊢
  obtain ⟨st, l3⟩ := own_at (T := T) (o' := .ins C (imF fs')) rl ho k1 (fun _ z => by cases z) (fun _ _ z => by unfold LamX.CodeO at z; cases z) kept ⟨dx2, us2, l1, of_fv l2⟩
  cases r with
  | ok d => exact fun v dv => q v H' st l3 (by rw [ads_put ho]; exact dv)
  | er Z => exact q H' st l3
/-- x.m(..) -/
theorem yr_meth (i j : Nat) {r : Rs} {fr : Fs → List PyData → Rs → Fs → Prop} {pl : Sem Bool} (G : WrOk X.prog X.w X.K X.mg X.base k C m fr) (hr : Room k X.A) (tk : L2N.Takes X W) (Cl : Cls X.K C) (ho : ω.os[j]? = some (a, .ins C (imF fs))) (ha : PDs X δ ω (e :: es) ds) (hf : fr fs ds r fs') (hl : fs.lookup m = none)
    (hd : δ[i]? = some (some (.ad a)) := by rfl) (hN : X.N[i]? = some x := by rfl)
    (hv : Vis X.env.scope x := by first | exact Or.inl rfl | exact Or.inr (Or.inl rfl) | exact Or.inr (Or.inr rfl)) (h1 : (x == ("__debug__" : Str)) = false := by decide) (h2 : (x == ("__classdict__" : Str)) = false := by decide)
    (hst : starEach (e :: es) X.env = (false, eval e X.env) :: starEach es X.env := by rfl) (hpl : (backTo pos (starEach es X.env)).any (·.1) = false := by rfl)
    (ht : MthAs X (.Name x p1) m apos pos (e :: es) pl := by rfl) : YR X W T δ ω (.Call (.Attribute (.Name x p1) m apos) (e :: es) [] pos) r (putO ω j (a, .ins C (imF fs'))) := fun σ H rl t Q q => by
  obtain ⟨g, fd, ps, F, M, b⟩ := G.ex
  obtain ⟨v, e1, e2⟩ := rl.sl i _ hd
  have e2 : v = .ref a := e2
  subst e2
  obtain ⟨dx, us, g1, g2⟩ := rl_ins rl (at_mem ho)
  refine we (pe_mthS (pl := pl) (E := WE W) (pe_var hN hv h1 h2) Cl M F hr b (fun σ => L2N.passAt tk σ) pa_w hst hpl ht) ⟨_, e1, a, dx, us, rfl, g1, fv_none g2 hl, ha σ H rl _ fun vs H1 s1 d1 => ?_⟩
  refine meth_end (T := T) (rl.mono s1) ho d1 hf ?_
  cases r with
  | ok d => exact fun v H' st l dv => q v H' ((Stp.of s1).trans st) l dv
  | er Z => exact fun H' st l => q H' ((Stp.of s1).trans st) l
theorem yr_meth0 (i j : Nat) {r : Rs} {fr : Fs → List PyData → Rs → Fs → Prop} {pl : Sem Bool} (G : WrOk X.prog X.w X.K X.mg X.base k C m fr) (hr : Room k X.A) (tk : L2N.Takes X W) (Cl : Cls X.K C) (ho : ω.os[j]? = some (a, .ins C (imF fs))) (hf : fr fs [] r fs') (hl : fs.lookup m = none)
    (hd : δ[i]? = some (some (.ad a)) := by rfl) (hN : X.N[i]? = some x := by rfl)
    (hv : Vis X.env.scope x := by first | exact Or.inl rfl | exact Or.inr (Or.inl rfl) | exact Or.inr (Or.inr rfl)) (h1 : (x == ("__debug__" : Str)) = false := by decide) (h2 : (x == ("__classdict__" : Str)) = false := by decide)
    (ht : MthAs X (.Name x p1) m apos pos [] pl := by rfl) : YR X W T δ ω (.Call (.Attribute (.Name x p1) m apos) [] [] pos) r (putO ω j (a, .ins C (imF fs'))) := fun σ H rl t Q q => by
  obtain ⟨g, fd, ps, F, M, b⟩ := G.ex
  obtain ⟨v, e1, e2⟩ := rl.sl i _ hd
  have e2 : v = .ref a := e2
  subst e2
  obtain ⟨dx, us, g1, g2⟩ := rl_ins rl (at_mem ho)
  refine we (pe_mthS0 (pl := pl) (E := WE W) (pe_var hN hv h1 h2) Cl M F hr b (fun σ => L2N.passAt tk σ) ht) ⟨_, e1, a, dx, us, rfl, g1, fv_none g2 hl, ?_⟩
  exact meth_end (T := T) rl ho .nil hf q
/-- where nothing is raised -/
theorem YR.ye {X : Cx} {T : List (Addr × Str)} {δ : De} {ω ω1 : Om} {e : Expr} {d : PyData} (h : YR X (fun _ _ _ _ => False) T δ ω e (.ok d) ω1) : YE X T δ ω e d ω1 := h
theorem sd_yr {rr : Rs} {ω1 : Om} (he : YR X W T δ ω e rr ω1) (h1 : ∀ d, rr = .ok d → SD X W T ss δ ω1 R) (h2 : ∀ Z, rr = .er Z → R (.ex Z ω1)) (hs : swapsWith e none pos.line X.env = pure false := by rfl) : SD X W T (.Expr e pos :: ss) δ ω R :=
  sd_cons fun σ H D rl t kt => ws (ps_expr pe_w hs) (he σ H rl t _ (by
    cases rr with
    | ok d => exact fun v H' s l dv => kt.nx δ ω1 σ H' (h1 d rfl) s l
    | er Z => exact fun H' s l => kt.ex Z ω1 σ H' (h2 Z rfl) s l.ro))
/-! ### new objects -/
/-- a new object -/
def NW (X : Cx) (T : List (Addr × Str)) (δ : De) (ω : Om) (e : Expr) (o : Od) : Prop := ∀ σ H, Rl X.K H σ δ ω → LamX.Tabs T H → ∀ Q : VK, (∀ D H', Stp T ω (omD ω D o) H H' → Rl X.K H' σ δ (omD ω D o) → Q (.ref D) H') → wpe X e σ H Q
theorem stp_new {H H' : Hp} {D : Addr} {o : Od} (s : Same H H') (n : H D = none) : Stp T ω (omD ω D o) H H' := ⟨fun b o h _ _ => s b o h, fun a h => by
  rcases List.mem_cons.mp (show a ∈ D :: ω.os.map (·.1) from h) with z | z
  · exact .inr fun o ho => by
      rw [z, n] at ho
      cases ho
  · exact .inl z, rfl, fun t => t.ext s⟩
theorem PN.nw (he : PN X δ ω e ds) : NW X T δ ω e (.lst (ds.map .im)) := fun σ H rl t Q k => he σ H rl _ fun q vs H' s n hv dv =>
  k q H' (stp_new s n) (rl.omD n s hv (dpam (hid_more fun b h => List.mem_cons.mpr (ads_omD.mp h)) dv))
theorem make_end {H1 : Hp} {σ : L2.St} {vs : List V} {fr : Fs → List PyData → Rs → Fs → Prop} {z dx : Addr} {Q : VK} (rl1 : Rl X.K H1 σ δ ω) (nz : H1 z = none) (ndx : H1 dx = none) (d1 : DpAll X.K (hid (ads ω) H1) vs ds) (hf : fr [] ds (.ok .none) fs')
    (q : ∀ H', Stp T ω (omD ω z (.ins C (imF fs'))) H1 H' → Rl X.K H' σ δ (omD ω z (.ins C (imF fs'))) → Q (.ref z) H') :
    spW X.K C fr (V.ref z :: vs) (upd (upd H1 dx (.own z)) z (.ins C dx [])) (fun v H2 => v = .non ∧ Q (.ref z) H2) E0 := by
  have sm : Same H1 (upd (upd H1 dx (.own z)) z (.ins C dx [])) := fun b o h => by
    rw [upd_ne (ne_of_none h nz), upd_ne (ne_of_none h ndx)]
    exact h
  have nin : z ∉ ads ω := new_out rl1.ro.there nz
  refine ⟨ads ω, z, [], ds, .ok .none, fs', ⟨dx, [], vs, rfl, there_mono rl1.ro.there sm, upd_same, .nil, ?_⟩, hf, fun H' dx2 us2 kept l1 l2 v dv => ?_⟩
  · exact dpam (hid_new nz sm) d1
  · cases dv
    refine ⟨rfl, ?_⟩
    have kept1 : Same H1 H' := fun b o h => kept b o (ne_of_none h nz) (sm b o h)
    have l4 : Rl X.K H' σ δ (omD ω z (.ins C (imF fs'))) := by
      refine ⟨rl1.len, fun j r h => ?_, fun b o h => ?_, ?_, there_mono rl1.ro.th kept1⟩
      · obtain ⟨v, q1, q2⟩ := rl1.sl j r h
        exact ⟨v, q1, sdv_mono (hid_in nz kept1) q2⟩
      · rcases List.mem_cons.mp h with q | q
        · cases q
          exact ⟨dx2, us2, l1, of_fv (fv_mono (hid_more fun b hb => List.mem_cons.mpr (ads_omD.mp hb)) l2)⟩
        · exact odv_mono (hid_in nz kept1) kept1 (rl1.ro.ob b o q)
      · show (z :: ω.os.map (·.1)).Nodup
        exact List.nodup_cons.mpr ⟨fun q => nin (List.mem_append_right _ q), rl1.ro.nd⟩
    exact q H' (stp_new kept1 nz) l4
/-- C(..) -/
theorem nw_make {cn : Str} {g : Addr} {fd : FuncData} {ps : List Str} {fr : Fs → List PyData → Rs → Fs → Prop} (M : Mk X.K C g) (F : FnOk X.prog X.w X.K X.mg X.base (L2N.CX X.prog X.w) k g fd ps (spW X.K C fr)) (hb : L2.Binds X.K fd ps []) (hr : Room (k + 1) X.A) (hmC : X.mg cn = some (.ref C))
    (ha : PDs X δ ω (e :: es) ds) (hf : fr [] ds (.ok .none) fs') (hg : Gl X cn := by rfl) (hdb : (cn == ("__debug__" : Str)) = false := by decide) (he : starEach (e :: es) X.env = (false, eval e X.env) :: starEach es X.env := by rfl) (hpl : (backTo pos (starEach es X.env)).any (·.1) = false := by rfl) :
    NW X T δ ω (.Call (.Name cn p) (e :: es) [] pos) (.ins C (imF fs')) := fun σ H rl t Q q =>
  we (pe_make M F hr hg hmC hb .nil passN pa_w hdb he hpl) (ha σ H rl _ fun vs H1 s1 d1 z dx nz ndx ne => by
    rw [List.append_nil]
    exact make_end (T := T) (rl.mono s1) nz ndx d1 hf fun H' st l => q z H' ((Stp.of s1).trans st) l)
theorem nw_make0 {cn : Str} {g : Addr} {fd : FuncData} {ps : List Str} {fr : Fs → List PyData → Rs → Fs → Prop} (M : Mk X.K C g) (F : FnOk X.prog X.w X.K X.mg X.base (L2N.CX X.prog X.w) k g fd ps (spW X.K C fr)) (hb : L2.Binds X.K fd ps []) (hr : Room (k + 1) X.A) (hmC : X.mg cn = some (.ref C))
    (hf : fr [] [] (.ok .none) fs') (hg : Gl X cn := by rfl) (hdb : (cn == ("__debug__" : Str)) = false := by decide) :
    NW X T δ ω (.Call (.Name cn p) [] [] pos) (.ins C (imF fs')) := fun σ H rl t Q q =>
  we (pe_make0 M F hr hg hmC hb .nil passN hdb) (fun z dx nz ndx ne => make_end (T := T) rl nz ndx .nil hf fun H' st l => q z H' st l)
/-- y = a new object -/
theorem sd_new (i : Nat) {y : Str} {o : Od} {py : Pos} (he : NW X T δ ω e o) (hk : ∀ D, SD X W T ss (δ.set i (some (.ad D))) (omD ω D o) R) (hN : X.N.Nodup) (hi : X.N[i]? = some y := by rfl) (hx : Loc X.env.scope y := by first | exact Or.inl rfl | exact Or.inr rfl)
    (hs : swapsWith e (some (.Name y py)) pos.line X.env = pure false := by rfl) (hf : X.fn y = true ∨ X.env.scope.names.lookup y = some .local := by first | exact .inl rfl | exact .inr rfl | assumption) : SD X W T (.Assign [.Name y py] e pos :: ss) δ ω R :=
  sd_cons fun σ H D rl t kt => ws (ps_set hN hi hx pe_w hs hf) (he σ H rl t _ fun z H' st l => kt.nx _ _ _ H' (hk z) st (l.set (x := .ad z) (v := .ref z) rfl))
/-! ### rows of values, some of them new objects -/
def AX (X : Cx) (T : List (Addr × Str)) (δ : De) (ω : Om) (es : List Expr) (R : List Sd → Om → Prop) : Prop := ∀ σ H, Rl X.K H σ δ ω → LamX.Tabs T H → ∀ Q : List V → Hp → Prop,
  (∀ rs ω' vs H', R rs ω' → Stp T ω ω' H H' → Rl X.K H' σ δ ω' → Paired (SdV X.K (hid (ads ω') H')) rs vs → Q vs H') → wpa X es σ H Q
theorem stp_sd {H H' : Hp} {ω1 ω2 : Om} {r : Sd} {v : V} (s : Stp T ω1 ω2 H H') (h : SdV X.K (hid (ads ω1) H) r v) : SdV X.K (hid (ads ω2) H') r v := by
  cases r with
  | im d => exact dp_ke s.seen d v h
  | ad a => exact h
theorem ax_nil {Z : List Sd → Om → Prop} (h : Z [] ω) : AX X T δ ω [] Z := fun σ H rl t Q k => wa pa_nil (k [] ω [] H h .refl rl .nil)
theorem ax_pd {Z : List Sd → Om → Prop} (he : PD X δ ω e d) (hr : AX X T δ ω es (fun rs ω' => Z (.im d :: rs) ω')) (hs : starEach (e :: es) X.env = (false, eval e X.env) :: starEach es X.env := by rfl) : AX X T δ ω (e :: es) Z := fun σ H rl t Q k =>
  wa (pa_cons pe_w pa_w hs) (he σ H rl _ fun v H1 s1 d1 => hr σ H1 (rl.mono s1) (t.ext s1) _ fun rs ω' vs H2 z st l pr => k _ ω' (v :: vs) H2 z ((Stp.of s1).trans st) l (.cons (stp_sd (X := X) (r := .im d) st d1) pr))
theorem ax_nw {Z : List Sd → Om → Prop} {o : Od} (he : NW X T δ ω e o) (hr : ∀ D, AX X T δ (omD ω D o) es (fun rs ω' => Z (.ad D :: rs) ω')) (hs : starEach (e :: es) X.env = (false, eval e X.env) :: starEach es X.env := by rfl) : AX X T δ ω (e :: es) Z := fun σ H rl t Q k =>
  wa (pa_cons pe_w pa_w hs) (he σ H rl t _ fun D H1 s1 l1 => hr D σ H1 l1 (s1.tab t) _ fun rs ω' vs H2 z st l pr => k _ ω' (.ref D :: vs) H2 z (s1.trans st) l (.cons (show V.ref D = V.ref D from rfl) pr))
/-- x, y = a, b -/
theorem sd_par2 (i j : Nat) {x y : Str} {px py pt pt2 : Pos} {kt k2 : Nat} {b : Expr} (hc : X.calm = true) (hN : X.N.Nodup) (ha : AX X T δ ω [e, b] (fun rs ω' => ∃ r1 r2, rs = [r1, r2] ∧ SD X W T ss ((δ.set i (some r1)).set j (some r2)) ω' R))
    (hw : swappedStores [.Tuple [.Name x px, .Name y py] kt pt] (.Tuple [e, b] k2 pt2) X.env = pure (some [x, y])) (hij : i ≠ j := by decide) (hi : X.N[i]? = some x := by rfl) (hj : X.N[j]? = some y := by rfl) (hx : X.env.scope.names.lookup x = some .local := by rfl) (hy : X.env.scope.names.lookup y = some .local := by rfl)
    (hs : swapsWithSole [.Tuple [.Name x px, .Name y py] kt pt] (.Tuple [e, b] k2 pt2) pos.line X.env = pure false := by rfl) : SD X W T (.Assign [.Tuple [.Name x px, .Name y py] kt pt] (.Tuple [e, b] k2 pt2) pos :: ss) δ ω R :=
  sd_cons fun σ H D rl t k => ws (ps_par hc hN hi hj hij hx hy pa_w hw hs) (ha σ H rl t _ fun rs ω' vs H1 z st l pr => by
    obtain ⟨r1, r2, rfl, z⟩ := z
    cases pr with
    | cons b1 b2 =>
      cases b2 with
      | cons b3 b4 =>
        cases b4
        exact ⟨_, _, rfl, k.nx _ ω' _ H1 z st ((l.set (x := r1) b1).set (x := r2) b3)⟩)
/-- x, y, .. = a, b, .. by way of a tuple -/
def setS : De → List Nat → List Sd → De
  | δ, i :: is, d :: ds => setS (δ.set i (some d)) is ds
  | δ, _, _ => δ
theorem gAll_sd {K : PySem.W.Frag} {H : Hp} {ω : Om} {Q : L2.St → Hp → Prop} : ∀ {is : List Nat} {rs : List Sd} {vs : List V} {σ : L2.St} {δ : De}, Rl K H σ δ ω → Paired (SdV K (hid (ads ω) H)) rs vs → is.length = rs.length → (∀ σ', Rl K H σ' (setS δ is rs) ω → Q σ' H) → gAll is vs σ H Q
  | [], [], _, σ, δ, rl, .nil, _, k => ⟨rfl, k σ rl⟩
  | i :: is, d :: ds, v :: vs, σ, δ, rl, .cons h1 h2, hl, k => ⟨v, vs, rfl, gAll_sd (rl.set (x := d) h1) h2 (Nat.succ.inj hl) k⟩
theorem paired_len {α β : Type} {R : α → β → Prop} : ∀ {xs : List α} {ys : List β}, Paired R xs ys → ys.length = xs.length
  | _, _, .nil => rfl
  | _, _, .cons _ r => by rw [List.length_cons, List.length_cons, paired_len r]
theorem paired_mono {K : PySem.W.Frag} {H H' : Hp} (e : Same H H') : ∀ {xs : List Sd} {ys : List V}, Paired (SdV K H) xs ys → Paired (SdV K H') xs ys
  | _, _, .nil => .nil
  | _, _, .cons h r => .cons (sdv_mono e h) (paired_mono e r)
theorem sd_unpX (is : List Nat) {ts : List Expr} {n kk k2 : Nat} {p' pt2 : Pos} (ha : AX X T δ ω es (fun rs ω' => rs.length = n ∧ SD X W T ss (setS δ is rs) ω' R)) (hg : PG X (.Tuple ts kk p') (gTup X.K n (gAll is))) (hi : is.length = n) (hn : n ≤ 1000 := by decide)
    (hs : swapsWithSole [.Tuple ts kk p'] (.Tuple es k2 pt2) pos.line X.env = pure false := by rfl) (hw : swappedStores [.Tuple ts kk p'] (.Tuple es k2 pt2) X.env = pure none := by rfl) : SD X W T (.Assign [.Tuple ts kk p'] (.Tuple es k2 pt2) pos :: ss) δ ω R :=
  sd_cons fun σ H D rl t k => ws (ps_asg (pe_tup pa_w) hg hs hw) (ha σ H rl t _ fun rs ω' vs H1 z st l pr => by
    obtain ⟨hl, z⟩ := z
    have lv := paired_len pr
    refine ⟨Nat.le_of_lt (small1000 (by omega)), fun q hq => ?_⟩
    have sm : Same H1 (upd H1 q (.tup vs)) := same_new hq
    exact ⟨q, vs, rfl, SqT.of upd_same, by omega, gAll_sd (l.mono sm) (paired_mono (hid_same sm) pr) (by omega) fun σ' l' => k.nx _ ω' σ' _ z (st.trans (.of sm)) l'⟩)
end
end FP

namespace FP
open PySem PySem.Spec PyProof.Rows L2 HotX L2H
section
variable {X : Cx} {T : List (Addr × Str)} {δ : De} {ω : Om} {d : PyData} {pos p : Pos} {k : Nat}
theorem ye_told {ω1 : Om} {x a e n wd : Str} {st : Stmt} {Ng : List Str} {CS : Addr} {fw : Addr → PyData → Prop} {r : Rs} {p1 p2 p3 p4 p5 p6 p7 p8 p9 p10 lpos : Pos} {params : Arguments} {body : Expr} {scope : Scope} (G : Told X.K X.mg x st) (L : LamT X T) (hT : T ≠ []) (hps : ω.ps = []) (hr : Room (k + 2) X.A)
    (WK : WordOk X.prog X.w X.K X.mg X.base (k + 1) wd fw)
    (hst : defBody st = [.Try [.Return (some (.Call (.Name a p1) [] [] p2)) p3] [.ExceptHandler (some (.Name e p4)) (some n) [.Return (some (.Call (.Name wd p5) [.Name n p6] [] p7)) p8] p9] [] [] p10]) (S : FnScope Ng [a] (defScope st)) (hNd : Ng.Nodup) (hNg : Ng[0]? = some a) (hva : Vis (defScope st) a)
    (hN1 : Ng[1]? = some n) (hkn : (defScope st).names.lookup n = some .local) (hge : (defScope st).names.lookup e = some .globalImplicit) (hgw : (defScope st).names.lookup wd = some .globalImplicit) (hme : X.mg e = some (.ref CS))
    (hbn : ∀ (kV doc pm : Value) (an : Option Addr) (cdv ct : Value) (us : List Value), us.length = [a].length → bindArgs (PySem.W.fnOf x x (defArgs st) (defBody st) (defScope st) .none kV doc pm an cdv ct) ⟨us, []⟩ = pure ([a].zip us))
    (hb : ∀ (A : Around) (outer : List Env) (s : Shared) (H : Hp) (E : XK) (f c' : Addr), Room k (A.deeper (LamX.lamEnv X scope s.heap.objs.size f c')) → YR (lamN X A outer s H E scope f c') (WOf E) T δ ω body r ω1)
    (hd : ToldD X.K CS fw d r) (hL : LamX.LamS X.env.scope scope) (hdef : defaultsOf params X.env = ([], []) := by rfl) (hbind : ∀ (q : Str) (cl : List (Str × Addr)) (pm cv ctv : Value), bindArgs (PySem.W.kla_fn "<lambda>" q params body scope cl pm cv ctv) ⟨[], []⟩ = pure [] := by intros; rfl)
    (hg : Gl X x := by rfl) (hdb : (x == ("__debug__" : Str)) = false := by decide) (hd1 : (a == ("__debug__" : Str)) = false := by decide) (hcd1 : (a == ("__classdict__" : Str)) = false := by decide) (hde : (e == ("__debug__" : Str)) = false := by decide) (hdw : (wd == ("__debug__" : Str)) = false := by decide)
    (hdn : (n == ("__debug__" : Str)) = false := by decide) (hcn : (n == ("__classdict__" : Str)) = false := by decide) : YE X T δ ω (.Call (.Name x p) [.Lambda params body scope lpos] [] pos) d ω1 := fun σ H rl tb Q q => by
  obtain ⟨g, fd, F, hm⟩ := G.ex
  obtain ⟨c, P, TB, hcode, hmT, hu⟩ := L.ex
  have hbs := FunD.bindsN (ps := [a]) F hbn
  have kp := F.kp
  obtain ⟨oc, od, dV, kV, doc, pm, an, cdv, ct, osl, rfl, lk, hcd, hD, hK⟩ := F.ex
  unfold wpe
  intro pins s I
  refine wpAny_Call_Name_kw (ld_glob I hg hm ?_ hdb)
  refine PySem.W.callWith_K (h₀ := X.base) I.ok.mod.kin kp ?_ (by rfl) (by rfl)
  show wpAny _ _ (spliced ((false, eval (.Lambda params body scope lpos) X.env) :: backTo pos (starEach [] X.env))) _ _ s
  refine Calls.spliced_cons (LamX.lam_make2 I TB hcode hmT hu tb hdef (hL.has I.ok) fun f c' pm' ctv H1 s' I1 eN T1 hf hfn hfr hco => Calls.spliced_nil ⟨I1.kIn, ?_⟩)
  have rl1 : Rl X.K H1 σ δ ω := rl_ext (T := T) eN hps rl
  have st0 : Stp T ω ω H H1 := ⟨fun b o h _ p => eN b o h (p.resolve_left hT), fun a h => .inl h, rfl, fun _ => T1⟩
  have done : ∀ v H2, Stp T ω ω1 H1 H2 → Rl X.K H2 σ δ ω1 → Dp X.K (hid (ads ω1) H2) v d → Q v H2 := fun v H2 s2 l2 d2 => q v H2 (st0.trans s2) l2 d2
  refine wpAny_call (codeAny_mono (R := CR C8.CX0 X.stack X.prog X.w H1 s' Q C8.E0) (LamX.run_ofS (N := Ng) (ps := [a]) (us := [.ref f]) (vs := [.ref f]) lk hcd S hr I1.env0 (hbs s' [.ref f] I1.kIn rfl) (.cons rfl .nil) rfl fun hr' => ?_) fun rr s2 z => ?_)
  · rw [hst]
    -- the def's own context
    have tryW := L2N.ps_try_as (X := (cxOf C8.CX0 X.prog X.w X.K X.mg X.base Ng x (defScope st) g cdv X.A X.stack s' H1 C8.E0).nox) (x := e) (n := n) (c := .ref CS) (i := 1) (np := p4) (pos := p10) (pos' := p9) (b₀ := .Return (some (.Call (.Name wd p5) [.Name n p6] [] p7)) p8) (suite := [])
      (body := [.Return (some (.Call (.Name a p1) [] [] p2)) p3]) (Wout := fun _ _ _ _ => False)
      (tb := fun W D τ G => τ[0]? = some (some (.ref f)) ∧ G c' = some (LamX.CodeO c' (X.env.qual ++ "<lambda>")) ∧ ∀ (A : Around) (outer : List Env) (t : Shared), Room k (A.deeper (LamX.lamEnv X scope t.heap.objs.size f c')) → wpe (lamN X A outer t G (WE W τ) scope f c') body σ G D.rt)
      (ts := fun b cls dd D τ G => ∃ C, cls = .ref C ∧ dd = none ∧ fw C d ∧ τ[1]? = some (some (.ref b)) ∧ (∀ a ∈ ads ω1, G a ≠ none) ∧ ∀ v G', Same G G' → Dp X.K (hid (ads ω1) G') v d → D.rt v G')
      rfl rfl hNd hN1 hkn ⟨hge, hde, .inl hme⟩ takesF
      (fun W pn xe tk _ => pss_one (ps_ret (pe_lamN (X := X) (Z := ((cxOf C8.CX0 X.prog X.w X.K X.mg X.base Ng x (defScope st) g cdv X.A X.stack s' H1 C8.E0).nox).tr pn xe) rfl rfl rfl rfl rfl rfl rfl rfl rfl I1 hL hf hfn hfr (hbind _ _ _ _ _) tk hr' hNg hva hd1 hcd1)))
      (fun b oe cls dd pn hz hfd => ⟨fun pins2 s2 τ G D J h => ?_⟩)
    · refine ⟨_, (pss_one tryW).nox, ?_⟩
      refine ⟨rfl, hco, fun A outer t hr2 => ?_⟩
      refine hb A outer t H1 _ f c' hr2 σ H1 rl1 T1 Q ?_
      cases r with
      | ok d' =>
        cases hd
        exact done
      | er C =>
        intro H2 s2 l2
        exact ⟨true, hd.2, fun _ b nb => ⟨C, rfl, rfl, hd.1, by
          rw [List.getElem?_set_self]
          unfold L2.start
          have := (List.getElem?_eq_some_iff.mp hN1).1
          simp
          omega, l2.ro.there, fun v G' s3 dv => done v G' (s2.trans (.of s3)) (l2.mono s3) dv⟩, fun z => by cases z⟩
    · obtain ⟨C, rfl, rfl, hfw, h1, h2, h3⟩ := h
      obtain ⟨vs, hv⟩ := hfd
      have pw := pe_word (X := ((cxOf C8.CX0 X.prog X.w X.K X.mg X.base Ng x (defScope st) g cdv X.A X.stack s' H1 C8.E0).nox).suite b ((b, oe) :: pn)) (q := (b, oe)) (i := 1) (p5 := p5) (p6 := p6) (p7 := p7) WK ⟨(roomH_of hr').dp, (roomH_of hr').un⟩ ⟨rfl, vs, hv, hz.2.2 vs hv⟩ List.mem_cons_self hz.1 hz.2.1 hfw hgw hN1 (.inl hkn) hdw hdn hcn
      exact (pss_one (ps_ret (pos := p8) pw)).run pins2 s2 τ G D J ⟨h1, ads ω1, h2, h3⟩
  · cases rr with
    | error e => exact False.elim z
    | ok fl =>
      cases fl with
      | ret u => exact I1.after z
      | next => exact False.elim z
      | brk => exact False.elim z
      | cont => exact False.elim z
end
end FP

namespace FP
open PySem PySem.Spec PyProof.Rows L2
section
variable {X : Cx} {δ : De} {ω : Om} {a b e : Expr} {d : PyData} {ds : List PyData} {pos p : Pos} {j k : Bool}
theorem PTd.eq (h : PTd X δ ω e k) (q : k = j) : PTd X δ ω e j := q ▸ h
theorem PWd.eq (h : PWd X δ ω e k) (q : k = j) : PWd X δ ω e j := q ▸ h
/-- not a tuple -/
theorem pd_notT (h : PD X δ ω a (.tuple ds)) : PD X δ ω (.UnaryOp .Not a pos) (.bool (!!ds.isEmpty)) := fun σ H rl Q q =>
  we (pe_notT pe_w) (h σ H rl _ fun v H1 s1 d1 => by
    cases d1 with
    | tup h1 h2 =>
      refine ⟨!ds.isEmpty, ?_, q _ H1 s1 (.bl _)⟩
      refine .inr (.inl ⟨_, same_sqt hid_sub h1, ?_⟩)
      cases h2 <;> rfl)
end
section
variable {X : Cx} {W : WX} {T : List (Addr × Str)} {δ : De} {ω : Om} {pos : Pos} {R : Out → Prop} {ss : List Stmt}
theorem sd_ret0 (hR : R (.rt (.im .none) ω)) : SD X W T (.Return none pos :: ss) δ ω R :=
  sd_cons fun σ H D rl t k => ws ps_retN (k.rt _ ω .non H hR .refl rl.ro .non)
end
end FP

namespace FP
open PySem PySem.Spec PyProof.Rows L2
section
variable {X : Cx} {δ : De} {ω : Om} {a b e : Expr} {d : PyData} {ds : List PyData} {pos p : Pos} {j k : Bool} {y z : Str}
/-- a sign of a text -/
theorem pd_ixS {i : Int} {c : Nat} (ha : PD X δ ω a (.str z)) (hb : PD X δ ω b (.int i)) (hz : z.length ≤ 100000) (hi : atI z.cps.toList i = some c) (hs : PlainIx b := by exact fun _ _ => rfl) : PD X δ ω (.Subscript a b pos) (.str ⟨#[c]⟩) := fun σ H rl Q k =>
  we (pe_ix ix_str pe_w pe_w hs) (ha σ H rl _ fun x H1 s1 d1 => hb σ H1 (rl.mono s1) _ fun y H2 s2 d2 => by
    cases d1
    cases d2
    exact ⟨z, i, c, rfl, rfl, Nat.le_trans hz (by rw [sizeLine_eq]; decide), hi, k _ H2 (s1.trans s2) (.str _)⟩)
/-- a text's part -/
theorem pd_slS {lo hi : Option Expr} {i j : Option Int} {p2 : Pos} (ha : PD X δ ω a (.str z)) (hl : PO1 X δ ω lo i) (hh : PO1 X δ ω hi j) (hz : z.length ≤ 100000) : PD X δ ω (.Subscript a (.Slice lo hi none p2) pos) (.str (cutS z i j)) := fun σ H rl Q k =>
  we (pe_slice sl_str pe_w po_w po_w) (ha σ H rl _ fun v H1 s1 d1 => po_run hl σ H1 (rl.mono s1) _ fun H2 s2 => po_run hh σ H2 (rl.mono (s1.trans s2)) _ fun H3 s3 => by
    cases d1
    exact ⟨z, rfl, Nat.le_trans hz (by rw [sizeLine_eq]; decide), k _ H3 ((s1.trans s2).trans s3) (.str _)⟩)
theorem join_ones : ∀ cs : List Nat, Str.join (Str.ofString "") (cs.map fun c => (⟨#[c]⟩ : Str)) = ⟨cs.toArray⟩
  | [] => rfl
  | [c] => rfl
  | c :: e :: r => by
    have ih := join_ones (e :: r)
    show (⟨#[c]⟩ : Str) ++ Str.ofString "" ++ Str.join (Str.ofString "") ((e :: r).map fun c => (⟨#[c]⟩ : Str)) = _
    rw [ih]
    refine TL.ext_tl ?_
    rw [TL.tl_append, TL.tl_append]
    have e0 : TL.tl (Str.ofString "") = [] := by decide +kernel
    rw [e0]
    show [c] ++ [] ++ ((e :: r).toArray).toList = ((c :: e :: r).toArray).toList
    simp
theorem glued_ones (cs : List Nat) : Txt.join (Str.ofString "") (cs.map fun c => (⟨#[c]⟩ : Str)) = ⟨cs.toArray⟩ := by
  rw [TL.join_eq, join_ones]
end
end FP

namespace FP
open PySem PySem.Spec PyProof.Rows L2
/-! ### range with a step -/
def rangeS (lo c : Int) (n : Nat) : List PyData := (List.range n).map fun (i : Nat) => .int (lo + (i : Int) * c)
theorem rangeS_len (lo c : Int) (n : Nat) : (rangeS lo c n).length = n := by
  unfold rangeS
  rw [List.length_map, List.length_range]
theorem rangeS_get {lo c : Int} {n i : Nat} (h : i < n) : (rangeS lo c n)[i]? = some (.int (lo + (i : Int) * c)) := by
  unfold rangeS
  rw [List.getElem?_map, List.getElem?_range h]
  rfl
section
variable {X : Cx} {δ : De} {ω : Om} {a b e tg : Expr} {d : PyData} {ds : List PyData} {pos p : Pos} {j k : Bool} {y z : Str}
theorem wk_range3 {i j c : Int} {n : Nat} (hm : X.mg "range" = none) (ha : PDs X δ ω [a, b, e] [.int i, .int j, .int c]) (h : RgC i j c n) (hg : Gl X "range" := by rfl)
    (hs : starEach [a, b, e] X.env = (false, eval a X.env) :: starEach [b, e] X.env := by rfl) (hpl : (backTo pos (starEach [b, e] X.env)).any (·.1) = false := by rfl) :
    PWk X δ ω tg (.Call (.Name "range" p) [a, b, e] [] pos) (rangeS i c n) := by
  refine ⟨_, pi_range3 hg hm pa_w hs hpl, fun σ H rl R k => ha σ H rl _ fun vs H1 s1 d1 => ?_⟩
  cases d1 with
  | cons x1 d1 =>
    cases d1 with
    | cons x2 d1 =>
      cases d1 with
      | cons x3 d1 =>
        cases d1
        cases x1
        cases x2
        cases x3
        refine ⟨i, j, c, n, rfl, h, k _ H1 s1 fun T H2 g => ⟨fun m hm => ?_, ?_, fun m y H3 hm w => ?_⟩⟩
        · rw [rangeS_len] at hm
          exact hm
        · show n ≤ (rangeS i c n).length
          rw [rangeS_len]
          exact Nat.le_refl _
        · obtain ⟨e1, e2⟩ := w
          subst e2
          rw [rangeS_len] at hm
          exact ⟨e1, _, rangeS_get hm, .int _⟩
theorem rgC_pos {n w q r : Nat} (e : q * w + r = n) (r1 : 1 ≤ r) (rw1 : r ≤ w) (hw : w ≤ 100000) (hn : n ≤ 100000) : RgC 0 (n : Int) (w : Int) (q + 1) := by
  have es : Builtin.Range.rangeSize 0 (n : Int) (w : Int) = ((q + 1 : Nat) : Int) := by
    unfold Builtin.Range.rangeSize
    rw [if_pos (by omega), if_pos (by omega)]
    have e2 : ((n : Int) - 0 - 1) = (r - 1 : Int) + (w : Int) * (q : Int) := by
      rw [← e]
      rw [Int.natCast_add, Int.natCast_mul, Int.mul_comm]
      omega
    rw [e2, Int.add_mul_ediv_left _ _ (by omega), Int.ediv_eq_zero_of_lt (by omega) (by omega)]
    omega
  refine ⟨by omega, by omega, ?_, es⟩
  unfold Builtin.Range.small
  rw [es]
  have hq : q ≤ n := by
    rw [← e]
    have : q * 1 ≤ q * w := Nat.mul_le_mul_left q (by omega)
    omega
  simp only [Builtin.Range.rangeFitsLong, Bool.and_eq_true, Bool.or_eq_true, decide_eq_true_eq, beq_iff_eq]
  refine ⟨⟨⟨⟨by omega, by omega⟩, by omega⟩, by omega⟩, .inr ?_⟩
  rw [if_pos (show (w : Int) > 0 by omega)]
  simp only [Bool.and_eq_true, decide_eq_true_eq]
  omega
theorem PN.eq {dt : List PyData} (h : PN X δ ω e ds) (q : ds = dt) : PN X δ ω e dt := q ▸ h
/-- the last one -/
theorem atI_last {α : Type} {xs : List α} {x : α} : atI (xs ++ [x]) (-1) = some x := by
  unfold atI ixN
  rw [if_neg (by decide), if_pos (by simp; omega)]
  show (xs ++ [x])[(-1 + ((xs ++ [x]).length : Int)).toNat]? = some x
  have e : (-1 + ((xs ++ [x]).length : Int)).toNat = xs.length := by
    simp
    omega
  rw [e]
  simp
end
end FP

namespace FP
open PySem PySem.Spec PyProof.Rows L2
/-! ### defs that are handed objects of one's own -/
abbrev Os := List (Addr × Od)
inductive Rg where
  | ok (r : Sd)
  | er (C : Addr)
abbrev FrG := Os → List Sd → (Rg → Os → Prop) → Prop
def RgQ (K : PySem.W.Frag) (ps : List Addr) (os' : Os) (H' : Hp) (Q : VK) (E : XK) : Rg → Prop
  | .ok r => ∀ v, SdV K (hid (ads ⟨ps, os'⟩) H') r v → Q v H'
  | .er Z => E (.ref Z) none H'
def spG (K : PySem.W.Frag) (fr : FrG) : Sp := fun vs H Q E => ∃ (ps : List Addr) (os : Os) (as : List Sd) (R : Rg → Os → Prop), Ro K H ⟨ps, os⟩ ∧ Paired (SdV K (hid (ads ⟨ps, os⟩) H)) as vs ∧ fr os as R ∧
  ∀ r os' H', R r os' → (∀ b o, H b = some o → b ∉ os.map (·.1) → H' b = some o) → (∀ a ∈ os'.map (·.1), a ∈ os.map (·.1) ∨ H a = none) → Ro K H' ⟨ps, os'⟩ → RgQ K ps os' H' Q E r
structure GOk (P : Program) (w : World) (K : PySem.W.Frag) (mg : Str → Option Value) (base : Heap) (k : Nat) (x : Str) (fr : FrG) : Prop where
  ex : ∃ f fd ps, FnOk P w K mg base (L2N.CX P w) k f fd ps (spG K fr) ∧ mg x = some (.ref f) ∧ PySem.W.keepIn K (.ref f) = true ∧ L2.Binds K fd ps []
/-- a method -/
structure GMOk (P : Program) (w : World) (K : PySem.W.Frag) (mg : Str → Option Value) (base : Heap) (k : Nat) (C : Addr) (m : Str) (fr : FrG) : Prop where
  ex : ∃ f fd ps, FnOk P w K mg base (L2N.CX P w) k f fd ps (spG K fr) ∧ Meth K C m f ∧ L2.Binds K fd ps []
theorem GOk.mono {P : Program} {w : World} {K : PySem.W.Frag} {mg : Str → Option Value} {base : Heap} {j k : Nat} {x : Str} {fr : FrG} (G : GOk P w K mg base j x fr) (h : j ≤ k) : GOk P w K mg base k x fr := by
  obtain ⟨f, fd, ps, F, m, kp, b⟩ := G.ex
  exact ⟨f, fd, ps, F.mono h, m, kp, b⟩
theorem GMOk.mono {P : Program} {w : World} {K : PySem.W.Frag} {mg : Str → Option Value} {base : Heap} {j k : Nat} {C : Addr} {m : Str} {fr : FrG} (G : GMOk P w K mg base j C m fr) (h : j ≤ k) : GMOk P w K mg base k C m fr := by
  obtain ⟨f, fd, ps, F, m, b⟩ := G.ex
  exact ⟨f, fd, ps, F.mono h, m, b⟩
def startG (N : List Str) (as : List Sd) : De := as.map some ++ List.replicate (N.length - as.length) none
theorem paired_get {α β : Type} {R : α → β → Prop} : ∀ {xs : List α} {ys : List β} {i : Nat} {x : α}, Paired R xs ys → xs[i]? = some x → ∃ y, ys[i]? = some y ∧ R x y
  | _, _, _, _, .nil, h => by simp at h
  | _, _, 0, _, .cons a r, h => by
    simp at h
    subst h
    exact ⟨_, rfl, a⟩
  | _, _, i + 1, x, .cons a r, h => by
    obtain ⟨y, h1, h2⟩ := paired_get (i := i) (x := x) r (by simpa using h)
    exact ⟨y, by simpa using h1, h2⟩
theorem startG_rl {K : PySem.W.Frag} {H : Hp} {ω : Om} {N : List Str} {as : List Sd} {vs : List V} (ro : Ro K H ω) (h : Paired (SdV K (hid (ads ω) H)) as vs) : Rl K H (L2.start N vs) (startG N as) ω := by
  have hl := paired_len h
  refine ⟨?_, fun i r hi => ?_, ro⟩
  · unfold L2.start startG
    rw [List.length_append, List.length_append, List.length_map, List.length_map, List.length_replicate, List.length_replicate, hl]
  · unfold startG at hi
    by_cases hlt : i < as.length
    · rw [List.getElem?_append_left (by rw [List.length_map]; exact hlt), List.getElem?_map, List.getElem?_eq_getElem hlt] at hi
      cases hi
      obtain ⟨v, h1, h2⟩ := paired_get h (List.getElem?_eq_getElem hlt)
      refine ⟨v, ?_, h2⟩
      unfold L2.start
      rw [List.getElem?_append_left (by rw [List.length_map, hl]; exact hlt), List.getElem?_map, h1]
      rfl
    · rw [List.getElem?_append_right (by rw [List.length_map]; omega)] at hi
      obtain ⟨h1, h2⟩ := List.getElem?_eq_some_iff.mp hi
      rw [List.getElem_replicate] at h2
      cases h2
/-- how such a def may end -/
def FinG (R : Rg → Os → Prop) : Out → Prop
  | .rt r ω => R (.ok r) ω.os
  | .nx _ ω => R (.ok (.im .none)) ω.os
  | .ex Z ω => R (.er Z) ω.os
  | _ => False
section
variable {P : Program} {w : World} {K : PySem.W.Frag} {mg : Str → Option Value} {base : Heap} {x qual : Str} {params : Arguments} {body : List Stmt} {scope : Scope} {kws : List (Str × V)} {f C : Addr} {fd : FuncData} {N ps : List Str} {k : Nat} {fr : FrG}
theorem g_run (F : FunD K x qual params body scope [] kws f fd) (S : FnScope N ps scope)
    (len : ∀ os as R, fr os as R → as.length = ps.length)
    (hbody : ∀ (cdv : Value) (A : Around) (outer : List Env) (s : Shared) (H : Hp) (E : XK) (qs : List Addr) (os : Os) (as : List Sd) (R : Rg → Os → Prop), Room k (A.deeper (envOfC qual scope s.heap.objs.size f cdv)) → fr os as R →
      SD (cxOf (L2N.CX P w) P w K mg base N qual scope f cdv A outer s H E) (WOf E) [] body (startG N as) ⟨qs, os⟩ (FinG R)) : FnOk P w K mg base (L2N.CX P w) (k + 1) f fd ps (spG K fr) := by
  refine F.ok S (fun vs H Q E h => ?_) (fun cdv A outer s H vs Q E hr h => ?_)
  · obtain ⟨qs, os, as, R, h1, h2, h3, _⟩ := h
    rw [paired_len h2]
    exact len os as R h3
  · obtain ⟨qs, os, as, R, h1, h2, h3, h4⟩ := h
    refine ⟨_, pss_w, hbody cdv A outer s H E qs os as R hr h3 _ _ _ (startG_rl h1 h2) (fun _ z => nomatch z) ?_⟩
    have kept : ∀ {ω' : Om} {H' : Hp}, Stp [] ⟨qs, os⟩ ω' H H' → ∀ b o, H b = some o → b ∉ os.map (·.1) → H' b = some o := fun {ω' H'} st b o e nb => st.keep b o e nb (.inl rfl)
    have newA : ∀ {ω' : Om} {H' : Hp}, Stp [] ⟨qs, os⟩ ω' H H' → ∀ a ∈ ω'.os.map (·.1), a ∈ os.map (·.1) ∨ H a = none := fun {ω' H'} st a ha => by
      rcases st.new a ha with q | q
      · exact .inl q
      · cases e : H a with
        | none => exact .inr rfl
        | some o => exact absurd (.inl rfl) (q o e)
    have eqo : ∀ {ω' : Om} {H' : Hp}, Stp [] ⟨qs, os⟩ ω' H H' → (⟨qs, ω'.os⟩ : Om) = ω' := fun {ω' H'} st => by
      obtain ⟨a, b⟩ := ω'
      have := st.ps
      simp only at this
      subst this
      rfl
    refine ⟨fun δ' ω' σ' H' z st l => ?_, fun r' ω' v H' z st l dv => ?_, fun Z ω' σ' H' z st l => ?_, fun _ _ _ _ z => False.elim z, fun _ _ _ _ z => False.elim z⟩
    · exact h4 _ _ H' z (kept st) (newA st) (by rw [eqo st]; exact l.ro) .non .non
    · exact h4 _ _ H' z (kept st) (newA st) (by rw [eqo st]; exact l) v (by rw [eqo st]; exact dv)
    · exact h4 _ _ H' z (kept st) (newA st) (by rw [eqo st]; exact l)
theorem g_ok (F : FunD K x qual params body scope [] kws f fd) (hm : mg x = some (.ref f)) (S : FnScope N ps scope) (hb : ∀ (kV doc pm : Value) (an : Option Addr) (cdv ct : Value) (us : List Value), us.length = ps.length → bindArgs (PySem.W.fnOf x qual params body scope .none kV doc pm an cdv ct) ⟨us, []⟩ = pure (ps.zip us))
    (len : ∀ os as R, fr os as R → as.length = ps.length)
    (hbody : ∀ (cdv : Value) (A : Around) (outer : List Env) (s : Shared) (H : Hp) (E : XK) (qs : List Addr) (os : Os) (as : List Sd) (R : Rg → Os → Prop), Room k (A.deeper (envOfC qual scope s.heap.objs.size f cdv)) → fr os as R →
      SD (cxOf (L2N.CX P w) P w K mg base N qual scope f cdv A outer s H E) (WOf E) [] body (startG N as) ⟨qs, os⟩ (FinG R)) : GOk P w K mg base (k + 1) x fr := ⟨f, fd, ps, g_run F S len hbody, hm, F.kp, F.bindsN hb⟩
theorem gm_ok (F : FunD K x qual params body scope [] kws f fd) (hm : Meth K C x f) (S : FnScope N ps scope) (hb : ∀ (kV doc pm : Value) (an : Option Addr) (cdv ct : Value) (us : List Value), us.length = ps.length → bindArgs (PySem.W.fnOf x qual params body scope .none kV doc pm an cdv ct) ⟨us, []⟩ = pure (ps.zip us))
    (len : ∀ os as R, fr os as R → as.length = ps.length)
    (hbody : ∀ (cdv : Value) (A : Around) (outer : List Env) (s : Shared) (H : Hp) (E : XK) (qs : List Addr) (os : Os) (as : List Sd) (R : Rg → Os → Prop), Room k (A.deeper (envOfC qual scope s.heap.objs.size f cdv)) → fr os as R →
      SD (cxOf (L2N.CX P w) P w K mg base N qual scope f cdv A outer s H E) (WOf E) [] body (startG N as) ⟨qs, os⟩ (FinG R)) : GMOk P w K mg base (k + 1) C x fr := ⟨f, fd, ps, g_run F S len hbody, hm, F.bindsN hb⟩
end
/-! ### what is handed over -/
def PS1 (X : Cx) (δ : De) (ω : Om) (e : Expr) (r : Sd) : Prop := ∀ σ H, Rl X.K H σ δ ω → ∀ Q : VK, (∀ v H', Same H H' → SdV X.K (hid (ads ω) H') r v → Q v H') → wpe X e σ H Q
def PSs (X : Cx) (δ : De) (ω : Om) (es : List Expr) (rs : List Sd) : Prop := ∀ σ H, Rl X.K H σ δ ω → ∀ Q : List V → Hp → Prop, (∀ vs H', Same H H' → Paired (SdV X.K (hid (ads ω) H')) rs vs → Q vs H') → wpa X es σ H Q
section
variable {X : Cx} {W : WX} {T : List (Addr × Str)} {δ : De} {ω : Om} {e : Expr} {es : List Expr} {d : PyData} {r : Sd} {rs : List Sd} {pos p p1 apos : Pos} {R : Out → Prop} {ss : List Stmt} {a C : Addr} {x m : Str} {k : Nat} {fr : FrG}
theorem PD.ps1 (h : PD X δ ω e d) : PS1 X δ ω e (.im d) := h
theorem ps1_var (i : Nat) {a : Addr} (hd : δ[i]? = some (some (.ad a)) := by rfl) (hN : X.N[i]? = some x := by rfl) (hv : Vis X.env.scope x := by first | exact Or.inl rfl | exact Or.inr (Or.inl rfl) | exact Or.inr (Or.inr rfl))
    (h1 : (x == ("__debug__" : Str)) = false := by decide) (h2 : (x == ("__classdict__" : Str)) = false := by decide) : PS1 X δ ω (.Name x pos) (.ad a) := fun σ H rl Q k => by
  obtain ⟨v, e1, e2⟩ := rl.sl i _ hd
  exact we (pe_var hN hv h1 h2) ⟨v, e1, k v H (Same.refl H) e2⟩
theorem pss1_nil : PSs X δ ω [] [] := fun σ H _ Q k => wa pa_nil (k [] H (Same.refl H) .nil)
theorem pss1_cons (ha : PS1 X δ ω e r) (hr : PSs X δ ω es rs) (hs : starEach (e :: es) X.env = (false, eval e X.env) :: starEach es X.env := by rfl) : PSs X δ ω (e :: es) (r :: rs) := fun σ H rl Q k =>
  wa (pa_cons pe_w pa_w hs) (ha σ H rl _ fun v H1 s1 d1 => hr σ H1 (rl.mono s1) _ fun vs H2 s2 d2 => k (v :: vs) H2 (s1.trans s2) (.cons (sdv_mono (hid_same s2) d1) d2))
/-- the rest is kept aside -/
theorem ads_part {ps : List Addr} {os rest : Os} {H : Hp} : hid (ads ⟨ps ++ rest.map (·.1), os⟩) H = hid (ads ⟨ps, os ++ rest⟩) H := by
  funext b
  unfold hid
  have e : b ∈ ads ⟨ps ++ rest.map (·.1), os⟩ ↔ b ∈ ads ⟨ps, os ++ rest⟩ := by
    show b ∈ (ps ++ rest.map (·.1)) ++ os.map (·.1) ↔ b ∈ ps ++ (os ++ rest).map (·.1)
    simp only [List.map_append, List.mem_append]
    constructor
    · rintro ((h | h) | h)
      · exact .inl h
      · exact .inr (.inr h)
      · exact .inr (.inl h)
    · rintro (h | h | h)
      · exact .inl (.inl h)
      · exact .inr h
      · exact .inl (.inr h)
  by_cases h : b ∈ ads ⟨ps ++ rest.map (·.1), os⟩
  · rw [if_pos h, if_pos (e.mp h)]
  · rw [if_neg h, if_neg (fun z => h (e.mpr z))]
theorem ro_part {K : PySem.W.Frag} {H : Hp} {ps : List Addr} {os rest : Os} (ro : Ro K H ⟨ps, os ++ rest⟩) : Ro K H ⟨ps ++ rest.map (·.1), os⟩ := by
  refine ⟨fun a o h => ?_, ?_, fun a h => ?_⟩
  · rw [ads_part]
    exact ro.ob a o (List.mem_append_left _ h)
  · have nd : ((os ++ rest).map (·.1)).Nodup := ro.nd
    rw [List.map_append] at nd
    exact (List.nodup_append.mp nd).1
  · rcases List.mem_append.mp h with h | h
    · exact ro.th a h
    · obtain ⟨q, hq, rfl⟩ := List.mem_map.mp h
      exact odv_some (ro.ob q.1 q.2 (List.mem_append_right _ hq))
theorem callG_end {H : Hp} {σ : L2.St} {vs : List V} {Q : VK} {Rr : Rg → Os → Prop} {ps : List Addr} {os rest : Os} (rl : Rl X.K H σ δ ⟨ps, os ++ rest⟩) (d1 : Paired (SdV X.K (hid (ads ⟨ps, os ++ rest⟩) H)) rs vs) (hf : fr os rs Rr)
    (hk : ∀ r os' H', Rr r os' → Stp T ⟨ps, os ++ rest⟩ ⟨ps, os' ++ rest⟩ H H' → Rl X.K H' σ δ ⟨ps, os' ++ rest⟩ → match r with | .ok r => ∀ v, SdV X.K (hid (ads ⟨ps, os' ++ rest⟩) H') r v → Q v H' | .er Z => W (.ref Z) none σ H') : spG X.K fr vs H Q (WE W σ) := by
  refine ⟨ps ++ rest.map (·.1), os, rs, Rr, ro_part rl.ro, ?_, hf, fun r os' H' hR kept new ro' => ?_⟩
  · rw [ads_part]
    exact d1
  · have nd : (os.map (·.1) ++ rest.map (·.1)).Nodup := by
      have z : ((os ++ rest).map (·.1)).Nodup := rl.ro.nd
      rw [List.map_append] at z
      exact z
    have dis : ∀ b, b ∈ rest.map (·.1) → b ∉ os.map (·.1) := fun b hb hz => (List.nodup_append.mp nd).2.2 b hz b hb rfl
    have seen : Same (hid (ads ⟨ps, os ++ rest⟩) H) (hid (ads ⟨ps, os' ++ rest⟩) H') := fun b o h => by
      obtain ⟨n, e⟩ := hid_out h
      have nos : b ∉ os.map (·.1) := fun z => n (List.mem_append_right _ (by rw [List.map_append]; exact List.mem_append_left _ z))
      refine hid_of (fun z => ?_) (kept b o e nos)
      rcases List.mem_append.mp z with z | z
      · exact n (List.mem_append_left _ z)
      · have z : b ∈ (os' ++ rest).map (·.1) := z
        rw [List.map_append] at z
        rcases List.mem_append.mp z with z | z
        · rcases new b z with q | q
          · exact nos q
          · rw [q] at e
            cases e
        · exact n (List.mem_append_right _ (by rw [List.map_append]; exact List.mem_append_right _ z))
    have noT : ∀ b u, b ∈ os.map (·.1) → H b = some u → (∀ ps, u ≠ .tbl ps) ∧ ∀ c q, u ≠ LamX.CodeO c q := fun b u hb hu => by
      obtain ⟨q, hq, rfl⟩ := List.mem_map.mp hb
      obtain ⟨u', e', n1, n2⟩ := odv_at (rl.ro.ob q.1 q.2 (List.mem_append_left _ hq))
      rw [e'] at hu
      cases hu
      exact ⟨n1, n2⟩
    have st : Stp T ⟨ps, os ++ rest⟩ ⟨ps, os' ++ rest⟩ H H' := by
      refine ⟨fun b o e n _ => kept b o e (fun z => n (by show b ∈ (os ++ rest).map (·.1); rw [List.map_append]; exact List.mem_append_left _ z)), fun a ha => ?_, rfl, fun t => ?_⟩
      · have ha : a ∈ (os' ++ rest).map (·.1) := ha
        rw [List.map_append] at ha
        rcases List.mem_append.mp ha with z | z
        · rcases new a z with q | q
          · exact .inl (by show a ∈ (os ++ rest).map (·.1); rw [List.map_append]; exact List.mem_append_left _ q)
          · exact .inr fun o ho => by
              rw [q] at ho
              cases ho
        · exact .inl (by show a ∈ (os ++ rest).map (·.1); rw [List.map_append]; exact List.mem_append_right _ z)
      · intro q hq
        obtain ⟨qs, a1, a2, a3⟩ := t q hq
        refine ⟨qs, kept _ _ a1 (fun z => (noT _ _ z a1).1 qs rfl), a2, fun p' cv hc => ?_⟩
        obtain ⟨c0, b1, b2⟩ := a3 p' cv hc
        exact ⟨c0, b1, kept _ _ b2 (fun z => (noT _ _ z b2).2 _ _ rfl)⟩
    have l3 : Rl X.K H' σ δ ⟨ps, os' ++ rest⟩ := by
      refine ⟨rl.len, fun i r h => ?_, fun a o h => ?_, ?_, fun a ha => ?_⟩
      · obtain ⟨v, h1, h2⟩ := rl.sl i r h
        exact ⟨v, h1, sdv_mono seen h2⟩
      · rcases List.mem_append.mp (show (a, o) ∈ os' ++ rest from h) with q | q
        · have g := ro'.ob a o q
          rw [ads_part] at g
          exact g
        · have na : a ∉ os.map (·.1) := dis a (List.mem_map.mpr ⟨_, q, rfl⟩)
          exact odv_keep (fun w => sdv_mono seen w) (fun u _ g1 => kept a u g1 na) (rl.ro.ob a o (List.mem_append_right _ q))
      · show ((os' ++ rest).map (·.1)).Nodup
        rw [List.map_append]
        refine List.nodup_append.mpr ⟨ro'.nd, (List.nodup_append.mp nd).2.1, fun b hb c hc e => ?_⟩
        subst e
        rcases new b hb with q | q
        · exact dis b hc q
        · obtain ⟨z, hz, rfl⟩ := List.mem_map.mp hc
          exact odv_some (rl.ro.ob z.1 z.2 (List.mem_append_right _ hz)) q
      · exact ro'.th a (List.mem_append_left _ ha)
    have fin := hk r os' H' hR st l3
    cases r with
    | ok r =>
      intro v hv
      rw [ads_part] at hv
      exact fin v hv
    | er Z => exact fin
/-- x(..), a def -/
theorem ex_callG {Rr : Rg → Os → Prop} {ps : List Addr} (os rest : Os) (G : GOk X.prog X.w X.K X.mg X.base k x fr) (hr : Room k X.A) (tk : L2N.Takes X W) (ha : PSs X δ ⟨ps, os ++ rest⟩ (e :: es) rs) (hf : fr os rs Rr)
    (hR : ∀ r os', Rr r os' → match r with | .ok r => R (.rt r ⟨ps, os' ++ rest⟩) | .er Z => R (.ex Z ⟨ps, os' ++ rest⟩)) (hg : Gl X x := by rfl)
    (hdb : (x == ("__debug__" : Str)) = false := by decide) (he : starEach (e :: es) X.env = (false, eval e X.env) :: starEach es X.env := by rfl) (hpl : (backTo pos (starEach es X.env)).any (·.1) = false := by rfl) : EX X W T (.Call (.Name x p) (e :: es) [] pos) δ ⟨ps, os ++ rest⟩ R := fun σ H rl t Q q q2 => by
  obtain ⟨f, fd, pn, F, m, kp, b⟩ := G.ex
  refine we (pe_callS (E := WE W) F hr hg m kp b (fun σ => L2N.passAt tk σ) pa_w hdb he hpl) (ha σ H rl _ fun vs H1 s1 d1 => ?_)
  refine callG_end (T := T) (rl.mono s1) d1 hf fun r os' H' hr st l => ?_
  have z := hR r os' hr
  cases r with
  | ok r => exact fun v hv => q r _ v H' z ((Stp.of s1).trans st) l hv
  | er Z => exact q2 Z _ σ H' z ((Stp.of s1).trans st) l.ro
/-- y.m(..), a method -/
theorem ex_methG (i : Nat) {Rr : Rg → Os → Prop} {ps : List Addr} {fs : List (Str × Sd)} (os rest : Os) (G : GMOk X.prog X.w X.K X.mg X.base k C m fr) (hr : Room k X.A) (tk : L2N.Takes X W) (Cl : Cls X.K C) (hm : (a, Od.ins C fs) ∈ os ++ rest) (hl : (fs.map (·.1)).contains m = false) (ha : PSs X δ ⟨ps, os ++ rest⟩ (e :: es) rs) (hf : fr os (.ad a :: rs) Rr)
    (hR : ∀ r os', Rr r os' → match r with | .ok r => R (.rt r ⟨ps, os' ++ rest⟩) | .er Z => R (.ex Z ⟨ps, os' ++ rest⟩)) (hd : δ[i]? = some (some (.ad a)) := by rfl) (hN : X.N[i]? = some x := by rfl)
    (hv : Vis X.env.scope x := by first | exact Or.inl rfl | exact Or.inr (Or.inl rfl) | exact Or.inr (Or.inr rfl)) (h1 : (x == ("__debug__" : Str)) = false := by decide) (h2 : (x == ("__classdict__" : Str)) = false := by decide) {pl : Sem Bool}
    (hst : starEach (e :: es) X.env = (false, eval e X.env) :: starEach es X.env := by rfl) (hpl : (backTo pos (starEach es X.env)).any (·.1) = false := by rfl)
    (ht : MthAs X (.Name x p1) m apos pos (e :: es) pl := by rfl) : EX X W T (.Call (.Attribute (.Name x p1) m apos) (e :: es) [] pos) δ ⟨ps, os ++ rest⟩ R := fun σ H rl t Q q q2 => by
  obtain ⟨f, fd, pn, F, M, b⟩ := G.ex
  obtain ⟨v, e1, e2⟩ := rl.sl i _ hd
  have e2 : v = .ref a := e2
  subst e2
  obtain ⟨dx, us, g1, g2⟩ := rl.ro.ob a _ hm
  have nl : us.lookup m = none := by
    clear g1 hm
    induction g2 with
    | nil => rfl
    | cons w r ih =>
      rename_i pq qv xs ys
      obtain ⟨n1, s1⟩ := pq
      obtain ⟨n2, v2⟩ := qv
      obtain ⟨w1, _⟩ := w
      simp only at w1
      subst w1
      simp only [List.map_cons, List.contains_cons, Bool.or_eq_false_iff] at hl
      rw [List.lookup_cons, hl.1]
      exact ih hl.2
  refine we (pe_mthS (pl := pl) (E := WE W) (pe_var hN hv h1 h2) Cl M F hr b (fun σ => L2N.passAt tk σ) pa_w hst hpl ht) ⟨_, e1, a, dx, us, rfl, g1, nl, ha σ H rl _ fun vs H1 s1 d1 => ?_⟩
  refine callG_end (T := T) (rs := .ad a :: rs) (rl.mono s1) (.cons rfl d1) hf fun r os' H' hr st l => ?_
  have z := hR r os' hr
  cases r with
  | ok r => exact fun v hv => q r _ v H' z ((Stp.of s1).trans st) l hv
  | er Z => exact q2 Z _ σ H' z ((Stp.of s1).trans st) l.ro
/-- another order of what is one's own -/
theorem sd_perm {ps : List Addr} {os os' : Os} (hp : os.Perm os') (h : SD X W T ss δ ⟨ps, os'⟩ R) : SD X W T ss δ ⟨ps, os⟩ R := fun σ H D rl t k => by
  have hm : ∀ q, q ∈ os ↔ q ∈ os' := fun q => hp.mem_iff
  have hma : ∀ b, b ∈ os.map (·.1) ↔ b ∈ os'.map (·.1) := fun b => (hp.map _).mem_iff
  have hh : hid (ads ⟨ps, os⟩) H = hid (ads ⟨ps, os'⟩) H := by
    funext b
    unfold hid
    have e : b ∈ ads ⟨ps, os⟩ ↔ b ∈ ads ⟨ps, os'⟩ := by
      show b ∈ ps ++ os.map (·.1) ↔ b ∈ ps ++ os'.map (·.1)
      rw [List.mem_append, List.mem_append, hma]
    by_cases h : b ∈ ads ⟨ps, os⟩
    · rw [if_pos h, if_pos (e.mp h)]
    · rw [if_neg h, if_neg (fun z => h (e.mpr z))]
  refine h σ H D ⟨rl.len, fun i r hi => ?_, fun z o hz => ?_, ?_, rl.ro.th⟩ t (k.step ⟨fun b o e _ _ => e, fun a ha => .inl ((hma a).mpr ha), rfl, fun t => t⟩)
  · obtain ⟨v, h1, h2⟩ := rl.sl i r hi
    rw [hh] at h2
    exact ⟨v, h1, h2⟩
  · have g := rl.ro.ob z o ((hm _).mpr hz)
    rw [hh] at g
    exact g
  · exact (hp.map _).nodup rl.ro.nd
end
end FP

namespace FP
open PySem PySem.Spec PyProof.Rows L2
/-! ### dicts of one's own -/
def valS (kvs : List (Key × Sd)) (k : Key) : Option Sd := (kvs.find? fun kv => decide (kv.1 = k)).map (·.2)
def putS (kvs : List (Key × Sd)) (k : Key) (r : Sd) : List (Key × Sd) := if (kvs.any fun kv => decide (kv.1 = k)) = true then kvs.map (fun kv => if kv.1 = k then (kv.1, r) else kv) else kvs ++ [(k, r)]
abbrev KvP (K : PySem.W.Frag) (H : Hp) : List (Key × Sd) → List (Key × V) → Prop := Paired (fun (p : Key × Sd) (q : Key × V) => p.1 = q.1 ∧ SdV K H p.2 q.2)
section
variable {K : PySem.W.Frag} {H H' : Hp}
theorem kvp_get : ∀ {kvs : List (Key × Sd)} {vs : List (Key × V)} {k : Key} {r : Sd}, KvP K H kvs vs → valS kvs k = some r → ∃ v, valV vs k = some v ∧ SdV K H r v
  | _, _, _, _, .nil, h => by cases h
  | (k1, r1) :: kvs, (k2, v2) :: vs, k, r, .cons a b, h => by
    obtain ⟨e, a⟩ := a
    simp only at e
    subst e
    unfold valS at h
    rw [List.find?_cons] at h
    by_cases c : k1 = k
    · simp only [c, decide_true] at h
      cases h
      exact ⟨v2, valV_pos c, a⟩
    · simp only [c, decide_false] at h
      obtain ⟨v, h1, h2⟩ := kvp_get (kvs := kvs) (k := k) (r := r) b h
      exact ⟨v, by rw [valV_neg c]; exact h1, h2⟩
theorem kvp_any : ∀ {kvs : List (Key × Sd)} {vs : List (Key × V)} {k : Key}, KvP K H kvs vs → (kvs.any fun kv => decide (kv.1 = k)) = (vs.any fun kv => decide (kv.1 = k))
  | _, _, _, .nil => rfl
  | (k1, r1) :: kvs, (k2, v2) :: vs, k, .cons a b => by
    obtain ⟨e, _⟩ := a
    simp only at e
    subst e
    rw [List.any_cons, List.any_cons, kvp_any b]
theorem kvp_map {r : Sd} {v : V} {k : Key} (hr : SdV K H r v) : ∀ {kvs : List (Key × Sd)} {vs : List (Key × V)}, KvP K H kvs vs → KvP K H (kvs.map (fun kv => if kv.1 = k then (kv.1, r) else kv)) (vs.map (fun kv => if kv.1 = k then (kv.1, v) else kv))
  | _, _, .nil => .nil
  | (k1, r1) :: kvs, (k2, v2) :: vs, .cons a b => by
    obtain ⟨e, a⟩ := a
    simp only at e
    subst e
    refine .cons ?_ (kvp_map hr b)
    show (if k1 = k then (k1, r) else (k1, r1)).1 = (if k1 = k then (k1, v) else (k1, v2)).1 ∧ SdV K H (if k1 = k then (k1, r) else (k1, r1)).2 (if k1 = k then (k1, v) else (k1, v2)).2
    by_cases c : k1 = k
    · rw [if_pos c, if_pos c]
      exact ⟨rfl, hr⟩
    · rw [if_neg c, if_neg c]
      exact ⟨rfl, a⟩
theorem paired_snoc {α β : Type} {R : α → β → Prop} {x : α} {y : β} (h : R x y) : ∀ {xs : List α} {ys : List β}, Paired R xs ys → Paired R (xs ++ [x]) (ys ++ [y])
  | _, _, .nil => .cons h .nil
  | _, _, .cons a b => .cons a (paired_snoc h b)
theorem kvp_put {r : Sd} {v : V} {k : Key} (hr : SdV K H r v) {kvs : List (Key × Sd)} {vs : List (Key × V)} (h : KvP K H kvs vs) : KvP K H (putS kvs k r) (putK vs k v) := by
  unfold putS putK
  rw [kvp_any h]
  split
  · exact kvp_map hr h
  · exact paired_snoc ⟨rfl, hr⟩ h
theorem kvp_mono (e : Same H H') {kvs : List (Key × Sd)} {vs : List (Key × V)} (h : KvP K H kvs vs) : KvP K H' kvs vs := L2.Paired.mapP h fun _ _ q => ⟨q.1, sdv_mono e q.2⟩
end
section
variable {X : Cx} {W : WX} {T : List (Addr × Str)} {δ : De} {ω : Om} {b e o : Expr} {es : List Expr} {d : PyData} {ds : List PyData} {r : Sd} {pos p p1 sp : Pos} {R : Out → Prop} {ss : List Stmt} {a c : Addr} {x : Str} {kvs : List (Key × Sd)} {z : Str}
theorem PS1.ex (h : PS1 X δ ω e r) (hR : R (.rt r ω)) : EX X W T e δ ω R := fun σ H rl t Q q _ => h σ H rl Q fun v H' s dv => q _ ω v H' hR (.of s) (rl.mono s) dv
theorem NW.ex {ob : Od} (h : NW X T δ ω e ob) (hR : ∀ D, R (.rt (.ad D) (omD ω D ob))) : EX X W T e δ ω R := fun σ H rl t Q q _ => h σ H rl t Q fun D H' st l => q _ _ _ H' (hR D) st l rfl
/-- a list that stands somewhere -/
theorem PS1.plt {xs : List PyData} (h : PS1 X δ ω e (.ad c)) (hc : (c, Od.lst (xs.map .im)) ∈ ω.os) : PLt X δ ω e xs := fun σ H rl Q k => h σ H rl Q fun v H' s dv => by
  have dv : v = .ref c := dv
  subst dv
  obtain ⟨vs, g1, g2⟩ := (rl.mono s).ro.ob c _ hc
  exact k c vs H' s g1 (dpa_im g2)
/-- x[b], x a dict of one's own -/
theorem ps1_dget (hx : PS1 X δ ω o (.ad a)) (hm : (a, Od.dct kvs) ∈ ω.os) (hb : PD X δ ω b (.str z)) (hk : valS kvs (.inr z) = some r) (hu : X.A.units + 1 < cLine) (hs : NoSl b := by exact fun _ _ => rfl) : PS1 X δ ω (.Subscript o b pos) r := fun σ H rl Q k =>
  we (pe_dget hu pe_w pe_w hs) (hx σ H rl _ fun v H1 s1 d1 => hb σ H1 (rl.mono s1) _ fun y H2 s2 d2 => by
    cases d2
    have d1 : v = .ref a := d1
    subst d1
    obtain ⟨vs, g1, g2⟩ := (rl.mono (s1.trans s2)).ro.ob a _ hm
    obtain ⟨u, h1, h2⟩ := kvp_get g2 hk
    exact ⟨a, u, rfl, by rw [← h1]; exact DGet.k (k := .inr z) g1, k u H2 (s1.trans s2) h2⟩)
/-- x[b] = e -/
theorem sd_dput (i : Nat) {pos' : Pos} (he : EX X W T e δ ω (Val1 (fun r ω1 => ∃ j kvs, ω1.os[j]? = some (a, .dct kvs) ∧ kvs.length < 1000 ∧ PD X δ ω1 b (.str z) ∧ SD X W T ss δ (putO ω1 j (a, .dct (putS kvs (.inr z) r))) R) R)) (hu : X.A.units + 1 < cLine) (hd : δ[i]? = some (some (.ad a)) := by rfl) (hN : X.N[i]? = some x := by rfl)
    (hv : Vis X.env.scope x := by first | exact Or.inl rfl | exact Or.inr (Or.inl rfl) | exact Or.inr (Or.inr rfl)) (h1 : (x == ("__debug__" : Str)) = false := by decide) (h2 : (x == ("__classdict__" : Str)) = false := by decide)
    (hs : swapsWith e (some (.Subscript (.Name x p1) b pos')) pos.line X.env = pure false := by rfl) : SD X W T (.Assign [.Subscript (.Name x p1) b pos'] e pos :: ss) δ ω R :=
  sd_cons fun σ H D rl t kt => ws (ps_dput hu (pe_var hN hv h1 h2) pe_w pe_w hs) (he σ H rl t _ (fun r ω1 v H1 z1 st l dv => by
    obtain ⟨j, kvs, ho, hz, hb, z1⟩ := z1
    obtain ⟨u, e1, e2⟩ := l.sl i _ hd
    have e2 : u = .ref a := e2
    subst e2
    refine ⟨_, e1, hb σ H1 l _ fun y H2 s2 d2 => ?_⟩
    cases d2
    have l2 := l.mono s2
    obtain ⟨vs, g1, g2⟩ := l2.ro.ob a _ (at_mem ho)
    have lv : vs.length = kvs.length := paired_len g2
    refine ⟨a, _, rfl, DPut.k (k := .inr z) g1 (by rw [lv]; exact small1000 (by omega)), ?_⟩
    have am : a ∈ ads ω1 := List.mem_append_right _ (List.mem_map.mpr ⟨_, at_mem ho, rfl⟩)
    have hh : Same (hid (ads ω1) H2) (hid (ads ω1) (upd H2 a (.dK (putK vs (.inr z) v)))) := fun bb o h => by
      obtain ⟨n, e⟩ := hid_out h
      exact hid_of n (by rw [upd_ne (fun q => n (by rw [q]; exact am))]; exact e)
    obtain ⟨st2, l3⟩ := own_at (T := T) (o' := .dct (putS kvs (.inr z) r)) (H' := upd H2 a (.dK (putK vs (.inr z) v))) l2 ho g1 (fun _ q => by cases q) (fun _ _ q => by unfold LamX.CodeO at q; cases q) (fun bb o nb h => by rw [upd_ne nb]; exact h) ⟨_, upd_same, kvp_put (sdv_mono (hid_same s2 |>.trans hh) dv) (kvp_mono hh g2)⟩
    exact kt.nx δ _ σ _ z1 ((st.trans (.of s2)).trans st2) l3) (fun C ω' σ' H' z q l => kt.ex C ω' σ' H' z q l))
theorem paired_set {α β : Type} {R : α → β → Prop} {x : α} {y : β} (h : R x y) : ∀ {xs : List α} {ys : List β} (j : Nat), Paired R xs ys → Paired R (xs.set j x) (ys.set j y)
  | _, _, _, .nil => .nil
  | _, _, 0, .cons _ b => .cons h b
  | _, _, j + 1, .cons a b => .cons a (paired_set h j b)
/-- o[b] = e, o a list of one's own that stands somewhere -/
theorem sd_lset {n : Nat} (he : EX X W T e δ ω (Val1 (fun r ω1 => ∃ j xs, PS1 X δ ω1 o (.ad c) ∧ ω1.os[j]? = some (c, .lst xs) ∧ PD X δ ω1 b (.int (n : Int)) ∧ n < xs.length ∧ SD X W T ss δ (putO ω1 j (c, .lst (xs.set n r))) R) R))
    (ha : ∀ v, assign (.Subscript o b sp) X.env v = (do
      let ov ← holding [v] (eval o X.env)
      let iv ← holding [v, ov] (eval b X.env)
      standAt sp
      holding [v, ov, iv] (setItem ov iv v)
      release [v, ov, iv] []) := by intro _; rfl)
    (hs : swapsWithSole [.Subscript o b sp] e pos.line X.env = pure false := by rfl) (hw : swappedStores [.Subscript o b sp] e X.env = pure none := by rfl) (h3 : (assignEach [.Subscript o b sp] X.env).map (·.2) = [assign (.Subscript o b sp) X.env] := by rfl) :
    SD X W T (.Assign [.Subscript o b sp] e pos :: ss) δ ω R :=
  sd_cons fun σ H Dd rl t kt => ws (ps_asg pe_w (pg_sub pe_w pe_w set_list ha) hs hw h3) (he σ H rl t _ (fun r ω1 y H1 z1 st l dv => by
    obtain ⟨j, xs, hx, ho, hb, hn, z1⟩ := z1
    refine hx σ H1 l _ fun v H2 s2 d2 => hb σ H2 (l.mono s2) _ fun iv H3 s3 d3 => ?_
    have d2 : v = .ref c := d2
    subst d2
    cases d3
    have l3 := l.mono (s2.trans s3)
    obtain ⟨vs, g1, g2⟩ := l3.ro.ob c _ (at_mem ho)
    have lv : vs.length = xs.length := paired_len g2
    refine ⟨c, vs, (n : Int), n, rfl, rfl, g1, ?_, ?_⟩
    · unfold ixN
      rw [lv, if_pos (Int.natCast_nonneg n), if_pos (show (n : Int) < (xs.length : Int) by omega), Int.toNat_natCast]
    · have am : c ∈ ads ω1 := List.mem_append_right _ (List.mem_map.mpr ⟨_, at_mem ho, rfl⟩)
      have hh : Same (hid (ads ω1) H3) (hid (ads ω1) (upd H3 c (.lst (vs.set n y)))) := fun bb o h => by
        obtain ⟨n, e⟩ := hid_out h
        exact hid_of n (by rw [upd_ne (fun q => n (by rw [q]; exact am))]; exact e)
      obtain ⟨st2, l4⟩ := own_at (T := T) (o' := .lst (xs.set n r)) (H' := upd H3 c (.lst (vs.set n y))) l3 ho g1 (fun _ q => by cases q) (fun _ _ q => by unfold LamX.CodeO at q; cases q) (fun bb o nb h => by rw [upd_ne nb]; exact h) ⟨_, upd_same, paired_set (sdv_mono ((hid_same (s2.trans s3)).trans hh) dv) n (L2.Paired.mapP g2 fun _ _ q => sdv_mono hh q)⟩
      exact kt.nx δ _ σ _ z1 ((st.trans (.of (s2.trans s3))).trans st2) l4) (fun C ω' σ' H' z q l => kt.ex C ω' σ' H' z q l))
/-! ### a dict is made -/
def DX (X : Cx) (T : List (Addr × Str)) (δ : De) (ω : Om) (trs : List (TE × TE)) (Z : List (Key × Sd) → Om → Prop) : Prop := ∀ σ H, Rl X.K H σ δ ω → LamX.Tabs T H → ∀ Q : List (V × V) → Hp → Prop,
  (∀ kvs ω' vs H', Z kvs ω' → Stp T ω ω' H H' → Rl X.K H' σ δ ω' → KvP X.K (hid (ads ω') H') kvs vs → Q (vs.map fun q => (kV q.1, q.2)) H') → tPairs trs σ H Q
variable {trs : List (TE × TE)} {Z : List (Key × Sd) → Om → Prop} {jk : Nat} {kp : Pos}
theorem dx_nil (h : Z [] ω) : DX X T δ ω [] Z := fun σ H rl t Q k => k [] ω [] H h .refl rl .nil
theorem kvp_stp {H H' : Hp} {ω1 ω2 : Om} (s : Stp T ω1 ω2 H H') {r : Sd} {v : V} (h : SdV X.K (hid (ads ω1) H) r v) : SdV X.K (hid (ads ω2) H') r v := stp_sd s h
theorem dx_pd (he : PD X δ ω e d) (hr : DX X T δ ω trs (fun kvs ω' => Z ((.inr z, .im d) :: kvs) ω')) : DX X T δ ω ((wpe X (.Constant (.str z) jk kp), wpe X e) :: trs) Z := fun σ H rl t Q k =>
  we pe_str (he σ H rl _ fun v H1 s1 d1 => hr σ H1 (rl.mono s1) (t.ext s1) _ fun kvs ω' vs H2 zz st l pr => k _ ω' ((.inr z, v) :: vs) H2 zz ((Stp.of s1).trans st) l (.cons ⟨rfl, stp_sd (X := X) (r := .im d) st d1⟩ pr))
theorem dx_nw {ob : Od} (he : NW X T δ ω e ob) (hr : ∀ D, DX X T δ (omD ω D ob) trs (fun kvs ω' => Z ((.inr z, .ad D) :: kvs) ω')) : DX X T δ ω ((wpe X (.Constant (.str z) jk kp), wpe X e) :: trs) Z := fun σ H rl t Q k =>
  we pe_str (he σ H rl t _ fun D H1 s1 l1 => hr D σ H1 l1 (s1.tab t) _ fun kvs ω' vs H2 zz st l pr => k _ ω' ((.inr z, .ref D) :: vs) H2 zz (s1.trans st) l (.cons ⟨rfl, (show V.ref D = V.ref D from rfl)⟩ pr))
theorem merge_new : ∀ {more kvs : List (Key × V)}, ((kvs ++ more).map (·.1)).Nodup → mergeK kvs more = kvs ++ more
  | [], kvs, _ => by
    rw [List.append_nil]
    rfl
  | q :: more, kvs, h => by
    have hn : valV kvs q.1 = none := by
      have : (valV kvs q.1).isSome = false := by
        rw [← valV_any]
        cases e : (kvs.any fun kv => decide (kv.1 = q.1)) with
        | false => rfl
        | true =>
          obtain ⟨kv, h1, h2⟩ := List.any_eq_true.mp e
          have h2 := of_decide_eq_true h2
          rw [List.map_append] at h
          exact absurd h2 ((List.nodup_append.mp h).2.2 kv.1 (List.mem_map.mpr ⟨_, h1, rfl⟩) q.1 List.mem_cons_self)
      cases e : valV kvs q.1 with
      | none => rfl
      | some _ =>
        rw [e] at this
        cases this
    show mergeK (putK kvs q.1 q.2) more = _
    rw [putK_new q.2 hn]
    have e2 : kvs ++ [(q.1, q.2)] ++ more = kvs ++ q :: more := by simp
    rw [merge_new (by rw [e2]; exact h), e2]
theorem kvp_keys {K : PySem.W.Frag} {H : Hp} : ∀ {kvs : List (Key × Sd)} {vs : List (Key × V)}, KvP K H kvs vs → vs.map (·.1) = kvs.map (·.1)
  | _, _, .nil => rfl
  | _, _, .cons a b => by rw [List.map_cons, List.map_cons, kvp_keys b, a.1]
theorem ex_disp {keys : List (Option Expr)} {values : List Expr} (hp : PPs X pos keys values trs) (h : ∀ D, DX X T δ (omD ω D (.dct [])) trs (fun kvs ω' => kvs.length ≤ 15 ∧ (kvs.map (·.1)).Nodup ∧ ∃ j, ω'.os[j]? = some (D, .dct []) ∧ R (.rt (.ad D) (putO ω' j (D, .dct kvs)))))
    (hall : keys.all (·.isSome) = true := by rfl) (hl : keys.length = values.length := by rfl) (h0 : keys ≠ [] := by simp) (h15 : keys.length ≤ 15 := by decide) : EX X W T (.Dict keys values pos) δ ω R := fun σ H rl t Q q _ =>
  we (pe_disp hp hall hl h0 h15) (fun D hD => by
    have sm : Same H (upd H D (.dK [])) := same_new hD
    have l0 : Rl X.K (upd H D (.dK [])) σ δ (omD ω D (.dct [])) := by
      refine ⟨rl.len, fun i r hi => ?_, fun z o hz => ?_, ?_, there_mono rl.ro.th sm⟩
      · obtain ⟨v, h1, h2⟩ := rl.sl i r hi
        exact ⟨v, h1, sdv_mono (hid_in hD sm) h2⟩
      · rcases List.mem_cons.mp hz with w | w
        · cases w
          exact ⟨[], upd_same, .nil⟩
        · exact odv_mono (hid_in hD sm) sm (rl.ro.ob z o w)
      · show (D :: ω.os.map (·.1)).Nodup
        exact List.nodup_cons.mpr ⟨fun w => new_out rl.ro.there hD (List.mem_append_right _ w), rl.ro.nd⟩
    refine h D σ _ l0 (t.ext sm) _ fun kvs ω' vs H2 zz st l pr => ?_
    obtain ⟨z1, z2, j, ho, z3⟩ := zz
    obtain ⟨v0, g1, g2⟩ := l.ro.ob D _ (at_mem ho)
    cases g2
    have lv : vs.length = kvs.length := paired_len pr
    refine ⟨g1, vs, rfl, by omega, ?_⟩
    have em : mergeK [] vs = vs := by
      rw [merge_new (by rw [List.nil_append, kvp_keys pr]; exact z2), List.nil_append]
    rw [em]
    have am : D ∈ ads ω' := List.mem_append_right _ (List.mem_map.mpr ⟨_, at_mem ho, rfl⟩)
    have hh : Same (hid (ads ω') H2) (hid (ads ω') (upd H2 D (.dK vs))) := fun bb o h => by
      obtain ⟨n, e⟩ := hid_out h
      exact hid_of n (by rw [upd_ne (fun q => n (by rw [q]; exact am))]; exact e)
    obtain ⟨st2, l3⟩ := own_at (T := T) (o' := .dct kvs) (H' := upd H2 D (.dK vs)) l ho g1 (fun _ q => by cases q) (fun _ _ q => by unfold LamX.CodeO at q; cases q) (fun bb o nb h => by rw [upd_ne nb]; exact h) ⟨_, upd_same, kvp_mono hh pr⟩
    exact q _ _ _ _ z3 (((stp_new sm hD).trans st).trans st2) l3 rfl)
end
end FP

namespace FP
open PySem PySem.Spec PyProof.Rows L2
section
variable {X : Cx} {W : WX} {T : List (Addr × Str)} {δ : De} {ω : Om} {a b e o : Expr} {es : List Expr} {d : PyData} {ds : List PyData} {r : Sd} {pos p p1 sp : Pos} {R : Out → Prop} {ss : List Stmt} {x : Str}
theorem pd_abs {i : Int} (hm : X.mg "abs" = none) (ha : PD X δ ω a (.int i)) (hg : Gl X "abs" := by rfl) (he : starEach [a] X.env = (false, eval a X.env) :: starEach [] X.env := by rfl) : PD X δ ω (.Call (.Name "abs" p) [a] [] pos) (.int (if i < 0 then -i else i)) :=
  pd_callB call_abs (fun ps vs H _ h Q k => by
    cases h with
    | cons h1 h2 =>
      cases h2
      cases h1
      exact ⟨i, rfl, k _ H (Same.refl H) (.int _)⟩) hm (by decide +kernel) (pds_cons ha pds_nil he) hg (by decide) (by decide) he (by rfl)
/-- an object of one's own is left to itself -/
theorem sd_drop (j : Nat) {ps : List Addr} {os : Os} (h : SD X W T ss δ ⟨ps, os.eraseIdx j⟩ R) : SD X W T ss δ ⟨ps, os⟩ R := fun σ H D rl t k => by
  have sub : (os.eraseIdx j).Sublist os := List.eraseIdx_sublist os j
  have sm : Same (hid (ads ⟨ps, os⟩) H) (hid (ads ⟨ps, os.eraseIdx j⟩) H) := hid_more fun b hb => by
    rcases List.mem_append.mp hb with q | q
    · exact List.mem_append_left _ q
    · exact List.mem_append_right _ ((sub.map _).subset q)
  refine h σ H D ⟨rl.len, fun i r hi => ?_, fun z o hz => ?_, (sub.map _).nodup rl.ro.nd, rl.ro.th⟩ t (k.step ⟨fun b o e _ _ => e, fun a ha => .inl ((sub.map _).subset ha), rfl, fun t => t⟩)
  · obtain ⟨v, h1, h2⟩ := rl.sl i r hi
    exact ⟨v, h1, sdv_mono sm h2⟩
  · exact odv_mono sm (Same.refl H) (rl.ro.ob z o (sub.subset hz))
theorem sd_ifF' {c : Expr} {sa sb : List Stmt} (h : PTd X δ ω c false) (h2 : SD X W T sb δ ω (Nxt X W T ss R)) : SD X W T (.If c sa sb pos :: ss) δ ω R := sd_if h (fun z => by cases z) fun _ => h2
/-- int of a truth -/
theorem PS1.pd (h : PS1 X δ ω e (.im d)) : PD X δ ω e d := h
end
end FP

namespace FP
open PySem PySem.Spec PyProof.Rows L2
section
variable {X : Cx} {W : WX} {T : List (Addr × Str)} {δ : De} {ω : Om} {a b c e o : Expr} {es : List Expr} {d : PyData} {ds : List PyData} {r : Sd} {pos p p1 sp : Pos} {R : Out → Prop} {ss : List Stmt} {x : Str}
theorem EX.ye {d : PyData} {ω' : Om} (h : EX X (fun _ _ _ _ => False) T e δ ω (fun o => o = .rt (.im d) ω')) : YE X T δ ω e d ω' := fun σ H rl t Q q => h σ H rl t Q (fun r ω1 v H' z st l dv => by
  cases z
  exact q v H' st l dv) (fun C ω1 σ' H' z => by cases z)
/-- list of a list -/
theorem pn_listL (hm : X.mg "list" = none) (ha : PL X δ ω a ds) (hg : Gl X "list" := by rfl) (he : starEach [a] X.env = (false, eval a X.env) :: starEach [] X.env := by rfl) : PN X δ ω (.Call (.Name "list" p) [a] [] pos) ds := fun σ H rl Q k =>
  we (pe_callTy call_list_of hg hm (by decide +kernel) (pa_cons pe_w pa_nil he) (he := he)) (ha σ H rl _ fun v vs H1 s1 h1 d1 => ⟨v, vs, rfl, .inl h1, fun l hl => k l _ _ (s1.trans (same_new hl)) (s1.free hl) upd_same (dpam (hid_new hl (same_new hl)) d1)⟩)
/-- a new list of one's own, which the caller doesn't have -/
theorem sd_ownP (i : Nat) {pos' : Pos} (he : PN X δ ω e ds) (hk : ∀ D, D ∉ ω.ps → SD X W T ss (δ.set i (some (.ad D))) (omD ω D (.lst (ds.map .im))) R) (hN : X.N.Nodup) (hi : X.N[i]? = some x := by rfl) (hx : Loc X.env.scope x := by first | exact Or.inl rfl | exact Or.inr rfl) (hs : swapsWith e (some (.Name x pos')) pos.line X.env = pure false := by rfl)
    (hf : X.fn x = true ∨ X.env.scope.names.lookup x = some .local := by first | exact .inl rfl | exact .inr rfl | assumption) : SD X W T (.Assign [.Name x pos'] e pos :: ss) δ ω R :=
  sd_cons fun σ H D rl t k => ws (ps_set hN hi hx pe_w hs hf) (he σ H rl _ fun q vs H' s n hv dv => by
    have rl2 : Rl X.K H' σ δ (omD ω q (.lst (ds.map .im))) := rl.omD n s hv (dpam (hid_more fun b h => List.mem_cons.mpr (ads_omD.mp h)) dv)
    exact k.nx _ _ _ H' (hk q (fun z => rl.ro.th q z n)) (stp_new s n) (rl2.set (x := .ad q) (v := .ref q) rfl))
/-- it is handed back -/
theorem sd_retP (i : Nat) {D : Addr} {xs : List PyData} (hm : (D, Od.lst (xs.map .im)) ∈ ω.os) (hD : D ∉ ω.ps) (hR : R (.rt (.im (.list xs)) ⟨ω.ps, []⟩)) (hd : δ[i]? = some (some (.ad D)) := by rfl) (hN : X.N[i]? = some x := by rfl) (hv : Vis X.env.scope x := by first | exact Or.inl rfl | exact Or.inr (Or.inl rfl) | exact Or.inr (Or.inr rfl))
    (h1 : (x == ("__debug__" : Str)) = false := by decide) (h2 : (x == ("__classdict__" : Str)) = false := by decide) : SD X W T (.Return (some (.Name x p)) pos :: ss) δ ω R :=
  sd_cons fun σ H Dd rl t k => by
    obtain ⟨v, e1, e2⟩ := rl.sl i _ hd
    have e2 : v = .ref D := e2
    subst e2
    obtain ⟨vs, g1, g2⟩ := rl.ro.ob D _ hm
    refine ws (ps_ret (pe_var hN hv h1 h2)) ⟨_, e1, k.rt _ ⟨ω.ps, []⟩ (.ref D) H hR ⟨fun b o h _ _ => h, fun a h => (List.not_mem_nil h).elim, rfl, fun t => t⟩ (Ro.nil rl.ro.th) ?_⟩
    show Dp X.K (hid (ads ⟨ω.ps, []⟩) H) (.ref D) (.list xs)
    rw [ads_nil]
    exact .lst (SqL.of (hid_of hD g1)) (dpam (hid_more fun b h => List.mem_append_left _ h) (dpa_im g2))
/-- x, y, z = a, b, c -/
theorem sd_par3X (i j l : Nat) {x y z : Str} {px py pz pt pt2 : Pos} {kt k2 : Nat} (hc : X.calm = true) (hN : X.N.Nodup) (ha : AX X T δ ω [a, b, c] (fun rs ω' => ∃ r1 r2 r3, rs = [r1, r2, r3] ∧ SD X W T ss (((δ.set i (some r1)).set j (some r2)).set l (some r3)) ω' R))
    (hw : swappedStores [.Tuple [.Name x px, .Name y py, .Name z pz] kt pt] (.Tuple [a, b, c] k2 pt2) X.env = pure (some [x, y, z])) (hij : i ≠ j := by decide) (hil : i ≠ l := by decide) (hjl : j ≠ l := by decide) (hi : X.N[i]? = some x := by rfl) (hj : X.N[j]? = some y := by rfl) (hl : X.N[l]? = some z := by rfl)
    (hx : X.env.scope.names.lookup x = some .local := by rfl) (hy : X.env.scope.names.lookup y = some .local := by rfl) (hz : X.env.scope.names.lookup z = some .local := by rfl)
    (hs : swapsWithSole [.Tuple [.Name x px, .Name y py, .Name z pz] kt pt] (.Tuple [a, b, c] k2 pt2) pos.line X.env = pure false := by rfl) : SD X W T (.Assign [.Tuple [.Name x px, .Name y py, .Name z pz] kt pt] (.Tuple [a, b, c] k2 pt2) pos :: ss) δ ω R :=
  sd_cons fun σ H D rl t k => ws (ps_par3 hc hN hi hj hl hij hil hjl hx hy hz pa_w hw hs) (ha σ H rl t _ fun rs ω' vs H1 zz st l pr => by
    obtain ⟨r1, r2, r3, rfl, zz⟩ := zz
    cases pr with
    | cons b1 b2 =>
      cases b2 with
      | cons b3 b4 =>
        cases b4 with
        | cons b5 b6 =>
          cases b6
          exact ⟨_, _, _, rfl, k.nx _ ω' _ H1 zz st (((l.set (x := r1) b1).set (x := r2) b3).set (x := r3) b5)⟩)
end
end FP

namespace FP
open PySem PySem.Spec PyProof.Rows L2 HotX L2H
section
variable {X : Cx} {W : WX} {T : List (Addr × Str)} {δ : De} {ω ω1 ω2 : Om} {a b c e : Expr} {es r : List Expr} {d da db dz : PyData} {ds : List PyData} {pos p : Pos} {k : Nat} {R : Out → Prop} {ss sa sb : List Stmt} {C : Addr} {fs' : Fs}
/-- the maker runs, and what it raises may speak of the slots -/
def tMakeS (C : Addr) (sp : Sp) (E : L2.St → XK) (t : TA) : TE := fun σ H Q => t σ H fun vs H1 => ∀ x dx, H1 x = none → H1 dx = none → dx ≠ x → sp (.ref x :: vs) (upd (upd H1 dx (.own x)) x (.ins C dx [])) (fun v H2 => v = .non ∧ Q (.ref x) H2) (E σ)
theorem pe_makeS {cn : Str} {f : Addr} {fd : FuncData} {ps : List Str} {sp : Sp} {CX : CXT} {E : L2.St → XK} {t : TA} (M : Mk X.K C f) (F : FnOk X.prog X.w X.K X.mg X.base CX k f fd ps sp) (hr : Room (k + 1) X.A) (hg : Gl X cn) (hm : X.mg cn = some (.ref C)) (hb : L2.Binds X.K fd ps []) (hx : ∀ σ, PassesAt CX X σ (E σ))
    (ha : PA X (e :: es) t) (hdb : (cn == ("__debug__" : Str)) = false := by decide) (he : starEach (e :: es) X.env = (false, eval e X.env) :: starEach es X.env := by rfl) (hpl : (backTo pos (starEach es X.env)).any (·.1) = false := by rfl) :
    PE X (.Call (.Name cn p) (e :: es) [] pos) (tMakeS C sp E t) := by
  refine ⟨fun pins s σ H Q I h => wpAny_Call_Name_kw (ld_glob I hg hm ?_ hdb)⟩
  refine PySem.W.callWith_K (h₀ := X.base) I.ok.mod.kin M.kp (thn (ha.run pos pins s σ H _ I h) fun us s1 ⟨vs, H1, I1, r, q⟩ => ⟨I1.kIn, ?_⟩) he hpl
  have hq := q (s1.heap.objs.size + 1) s1.heap.objs.size (I1.hok.fresh (Nat.le_succ _)) (I1.hok.fresh (Nat.le_refl _)) (Nat.ne_of_lt (Nat.lt_succ_self _))
  have I2 := Inv.made (C := C) I1
  have r2 : Vals (V.ref (s1.heap.objs.size + 1) :: vs) (Value.ref (s1.heap.objs.size + 1) :: us) := .cons rfl r
  have hl : (Value.ref (s1.heap.objs.size + 1) :: us ++ []).length = ps.length := by
    have z := r2.length
    rw [F.len _ _ _ _ hq] at z
    rw [List.append_nil]
    exact z.symm
  have b := hb _ (Value.ref (s1.heap.objs.size + 1) :: us) I2.kIn hl
  rw [List.append_nil] at b
  refine wpAny_call (make_map (f := f) I1.kIn M.makes M.init (beq_iff_eq.mp M.fn) (codeAny_mono (F.run _ X.stack _ _ ⟨Value.ref (s1.heap.objs.size + 1) :: us, []⟩ (Value.ref (s1.heap.objs.size + 1) :: us) _ _ (E σ) (hr.make C us []) (I2.env0.make C us []) b r2 hq) fun r s' hq' => ?_))
  match r, hq' with
  | .error e, hq' => exact hx σ pins _ _ e s' I2 hq'
  | .ok (.ret u), hq' =>
    obtain ⟨v, H', I3, rv, ev, q3⟩ := I2.after hq'
    subst ev
    exact ⟨rv, ⟨V.ref (s1.heap.objs.size + 1), H', I3, rfl, q3⟩⟩
/-- C(..), where __init__ raises -/
theorem yr_makeE {cn : Str} {g Z : Addr} {fd : FuncData} {ps : List Str} {fr : Fs → List PyData → Rs → Fs → Prop} (M : Mk X.K C g) (F : FnOk X.prog X.w X.K X.mg X.base (L2N.CX X.prog X.w) k g fd ps (spW X.K C fr)) (hb : L2.Binds X.K fd ps []) (hr : Room (k + 1) X.A) (tk : L2N.Takes X W) (hmC : X.mg cn = some (.ref C))
    (ha : PDs X δ ω (e :: es) ds) (hf : fr [] ds (.er Z) fs') (hg : Gl X cn := by rfl) (hdb : (cn == ("__debug__" : Str)) = false := by decide) (he : starEach (e :: es) X.env = (false, eval e X.env) :: starEach es X.env := by rfl) (hpl : (backTo pos (starEach es X.env)).any (·.1) = false := by rfl) :
    YR X W T δ ω (.Call (.Name cn p) (e :: es) [] pos) (.er Z) ω := fun σ H rl t Q q =>
  we (pe_makeS (E := WE W) M F hr hg hmC hb (fun σ => L2N.passAt tk σ) pa_w hdb he hpl) (ha σ H rl _ fun vs H1 s1 d1 z dx nz ndx ne => by
    have rl1 := rl.mono s1
    have sm : Same H1 (upd (upd H1 dx (.own z)) z (.ins C dx [])) := fun b o h => by
      rw [upd_ne (ne_of_none h nz), upd_ne (ne_of_none h ndx)]
      exact h
    refine ⟨ads ω, z, [], ds, .er Z, fs', ⟨dx, [], vs, rfl, there_mono rl1.ro.there sm, upd_same, .nil, dpam (hid_new nz sm) d1⟩, hf, fun H' dx2 us2 kept l1 l2 => ?_⟩
    have kept1 : Same H1 H' := fun b o h => kept b o (ne_of_none h nz) (sm b o h)
    exact q H' (.of (s1.trans kept1)) (rl1.mono kept1))
/-- a value that raises is put nowhere -/
theorem sd_asgE {ts : List Expr} {kk : Nat} {p' : Pos} {Z : Addr} {g : TG} (he : PR X W δ ω e (.er Z)) (hg : PG X (.Tuple ts kk p') g) (h : R (.ex Z ω)) (hs : swapsWithSole [.Tuple ts kk p'] e pos.line X.env = pure false := by rfl) (hw : swappedStores [.Tuple ts kk p'] e X.env = pure none := by rfl) : SD X W T (.Assign [.Tuple ts kk p'] e pos :: ss) δ ω R :=
  sd_cons fun σ H D rl t kt => ws (ps_asg pe_w hg hs hw) (he σ H rl _ fun H' s => kt.ex Z ω σ H' h (.of s) (rl.mono s).ro)
theorem rd_isN0 {K : PySem.W.Frag} : RD K (fun x y H Q => y = .non ∧ Q (.bl (decide (x = .non))) H) .none .none (.bool true) := fun ps x y H _ hx hy Q q => by
  cases hx
  cases hy
  exact ⟨rfl, q _ H (Same.refl H) (.bl _)⟩
/-- a value is put into a dict of one's own -/
theorem dput_at {H : Hp} {σ : L2.St} {a : Addr} {j : Nat} {kvs : List (Key × Sd)} {z : Str} {rr : Sd} {v : V} (l : Rl X.K H σ δ ω) (ho : ω.os[j]? = some (a, .dct kvs)) (hz : kvs.length < 1000) (dv : SdV X.K (hid (ads ω) H) rr v) :
    ∃ H', DPut H a (.str z) v H' ∧ Stp T ω (putO ω j (a, .dct (putS kvs (.inr z) rr))) H H' ∧ Rl X.K H' σ δ (putO ω j (a, .dct (putS kvs (.inr z) rr))) ∧ Same (hid (ads ω) H) (hid (ads ω) H') := by
  obtain ⟨vs, g1, g2⟩ := l.ro.ob a _ (at_mem ho)
  have lv : vs.length = kvs.length := paired_len g2
  have am : a ∈ ads ω := List.mem_append_right _ (List.mem_map.mpr ⟨_, at_mem ho, rfl⟩)
  have hh : Same (hid (ads ω) H) (hid (ads ω) (upd H a (.dK (putK vs (.inr z) v)))) := fun bb o h => by
    obtain ⟨n, e⟩ := hid_out h
    exact hid_of n (by rw [upd_ne (fun q => n (by rw [q]; exact am))]; exact e)
  obtain ⟨st2, l3⟩ := own_at (T := T) (o' := .dct (putS kvs (.inr z) rr)) (H' := upd H a (.dK (putK vs (.inr z) v))) l ho g1 (fun _ q => by cases q) (fun _ _ q => by unfold LamX.CodeO at q; cases q) (fun bb o nb h => by rw [upd_ne nb]; exact h) ⟨_, upd_same, kvp_put (sdv_mono hh dv) (kvp_mono hh g2)⟩
  exact ⟨_, DPut.k (k := .inr z) g1 (by rw [lv]; exact small1000 (by omega)), st2, l3, hh⟩
/-- x[b], x[c] = e -/
theorem sd_dput2 (i j : Nat) {x z1 z2 : Str} {a : Addr} {d1 d2 : PyData} {kvs : List (Key × Sd)} {pb pc q1 q2 p1 p2 p' : Pos} {kk n1 n2 : Nat} (he : PD X δ ω e (.tuple [d1, d2])) (hc : X.calm = true) (ho : ω.os[j]? = some (a, .dct kvs)) (hz : kvs.length < 1000) (hz2 : (putS kvs (.inr z1) (.im d1)).length < 1000) (hu : X.A.units + 1 < cLine)
    (hk : SD X W T ss δ (putO (putO ω j (a, .dct (putS kvs (.inr z1) (.im d1)))) j (a, .dct (putS (putS kvs (.inr z1) (.im d1)) (.inr z2) (.im d2)))) R)
    (hd : δ[i]? = some (some (.ad a)) := by rfl) (hN : X.N[i]? = some x := by rfl) (hv : Vis X.env.scope x := by first | exact Or.inl rfl | exact Or.inr (Or.inl rfl) | exact Or.inr (Or.inr rfl)) (h1 : (x == ("__debug__" : Str)) = false := by decide) (h2 : (x == ("__classdict__" : Str)) = false := by decide)
    (hs : swapsWithSole [.Tuple [.Subscript (.Name x p1) (.Constant (.str z1) n1 pb) q1, .Subscript (.Name x p2) (.Constant (.str z2) n2 pc) q2] kk p'] e pos.line X.env = pure false := by rfl) (hw : swappedStores [.Tuple [.Subscript (.Name x p1) (.Constant (.str z1) n1 pb) q1, .Subscript (.Name x p2) (.Constant (.str z2) n2 pc) q2] kk p'] e X.env = pure none := by rfl) :
    SD X W T (.Assign [.Tuple [.Subscript (.Name x p1) (.Constant (.str z1) n1 pb) q1, .Subscript (.Name x p2) (.Constant (.str z2) n2 pc) q2] kk p'] e pos :: ss) δ ω R :=
  sd_cons fun σ H D rl t k => ws (ps_asg pe_w (pg_tup hc (pgs_cons (pg_sub (pe_var hN hv h1 h2) pe_w (set_dict hu)) (pgs_cons (pg_sub (pe_var hN hv h1 h2) pe_w (set_dict hu)) pgs_nil))) hs hw) (he σ H rl _ fun v H1 s1 dv => by
    cases dv with
    | tup hq hds =>
      cases hds with
      | cons b1 b2 =>
        cases b2 with
        | cons b3 b4 =>
          cases b4
          rename_i v1 v2
          have l1 := rl.mono s1
          refine ⟨_, _, rfl, same_sqt hid_sub hq, rfl, ?_⟩
          refine ⟨v1, _, rfl, ?_⟩
          obtain ⟨u, e1, e2⟩ := l1.sl i _ hd
          have e2 : u = .ref a := e2
          subst e2
          refine ⟨_, e1, (pd_str (X := X) (δ := δ) (ω := ω) (x := z1)) σ H1 l1 _ fun y H2 s2 dy => ?_⟩
          cases dy
          obtain ⟨H3, g3, st3, l3, hh3⟩ := dput_at (T := T) (z := z1) (rr := .im d1) (v := v1) (l1.mono s2) ho hz (dpm (hid_same s2) b1)
          refine ⟨a, H3, rfl, g3, ?_⟩
          refine ⟨v2, _, rfl, ?_⟩
          refine ⟨_, e1, (pd_str (X := X) (δ := δ) (ω := putO ω j (a, .dct (putS kvs (.inr z1) (.im d1)))) (x := z2)) σ H3 l3 _ fun y H4 s4 dy => ?_⟩
          cases dy
          have ho2 : (putO ω j (a, .dct (putS kvs (.inr z1) (.im d1)))).os[j]? = some (a, .dct (putS kvs (.inr z1) (.im d1))) := List.getElem?_set_self (List.getElem?_eq_some_iff.mp ho).1
          have b3' : SdV X.K (hid (ads (putO ω j (a, .dct (putS kvs (.inr z1) (.im d1))))) H4) (.im d2) v2 := by
            rw [ads_put ho]
            exact dpm (hid_same s4) (dpm hh3 (dpm (hid_same s2) b3))
          obtain ⟨H5, g5, st5, l5, hh5⟩ := dput_at (T := T) (z := z2) (rr := .im d2) (v := v2) (l3.mono s4) ho2 hz2 b3'
          refine ⟨a, H5, rfl, g5, rfl, ?_⟩
          exact k.nx δ _ σ H5 hk ((((Stp.of s1).trans (.of s2)).trans st3).trans ((Stp.of s4).trans st5)) l5)
end
end FP

namespace FP
open PySem PySem.Spec PyProof.Rows L2 HotX L2H
section
variable {X : Cx} {W : WX} {T : List (Addr × Str)} {δ : De} {ω : Om} {a e : Expr} {d : PyData} {pos p : Pos} {R : Out → Prop}
theorem PR.ex {rr : Rs} (h : PR X W δ ω e rr) (h1 : ∀ d, rr = .ok d → R (.rt (.im d) ω)) (h2 : ∀ Z, rr = .er Z → R (.ex Z ω)) : EX X W T e δ ω R := fun σ H rl t Q q q2 => h σ H rl Q (by
  cases rr with
  | ok d => exact fun v H' s dv => q _ ω v H' (h1 d rfl) (.of s) (rl.mono s) dv
  | er Z => exact fun H' s => q2 Z ω σ H' (h2 Z rfl) (.of s) (rl.mono s).ro)
theorem dpa_int {K : PySem.W.Frag} {H : Hp} : ∀ {ns : List Int} {vs : List V}, DpAll K H vs (ns.map .int) → vs = ns.map V.int
  | [], _, .nil => rfl
  | n :: ns, _, .cons h1 h2 => by
    cases h1
    rw [dpa_int h2]
    rfl
/-- sum of whole numbers -/
theorem pd_sumI {ns : List Int} (hc : X.calm = true) (hm : X.mg "sum" = none) (ha : PL X δ ω a (ns.map .int)) (hg : Gl X "sum" := by rfl) (he : starEach [a] X.env = (false, eval a X.env) :: starEach [] X.env := by rfl) : PD X δ ω (.Call (.Name "sum" p) [a] [] pos) (.int ns.sum) := fun σ H rl Q k =>
  we (pe_callB (cr_sum hc) hg hm boot_sum (pa_cons pe_w pa_nil he) (he := he)) (ha σ H rl _ fun q vs H1 s1 h1 d1 => by
    have ev : vs = ns.map V.int := dpa_int d1
    subst ev
    exact ⟨q, ns, rfl, h1, k _ H1 s1 (.int _)⟩)
end
end FP

namespace FP
open PySem PySem.Spec PyProof.Rows L2 HotX L2H
section
variable {X : Cx} {δ : De} {ω : Om} {k f : Expr} {pos dp apos cpos : Pos}
/-- {'a': 1, 'b': 2}.get(k, f) -/
theorem pd_get2 {z1 z2 y : Str} {i1 i2 j n : Int} {n1 n2 n3 n4 : Nat} {p1 p2 p3 p4 : Pos} (hu : X.A.units + 1 < cLine) (hk : PD X δ ω k (.str y)) (hf : PD X δ ω f (.int j)) (hv : (valV (mergeK [] [((Sum.inr z1 : Key), V.int i1), ((Sum.inr z2 : Key), V.int i2)]) (.inr y)).getD (.int j) = .int n)
    (m : M2 X (.Dict [some (.Constant (.str z1) n1 p1), some (.Constant (.str z2) n2 p2)] [.Constant (.int i1) n3 p3, .Constant (.int i2) n4 p4] dp) "get" apos k f cpos) :
    PD X δ ω (.Call (.Attribute (.Dict [some (.Constant (.str z1) n1 p1), some (.Constant (.str z2) n2 p2)] [.Constant (.int i1) n3 p3, .Constant (.int i2) n4 p4] dp) "get" apos) [k, f] [] cpos) (.int n) := fun σ H rl Q q =>
  we (pe_dget2 hu (pe_disp (pps_cons pe_w pe_w (pps_cons pe_w pe_w pps_nil)) rfl rfl (by simp) (show 2 ≤ 15 by decide)) pe_w pe_w m) (fun p hn => by
    refine we pe_str (we pe_int (we pe_str (we pe_int ?_)))
    refine ⟨upd_same, [(.inr z1, .int i1), (.inr z2, .int i2)], rfl, (show 2 ≤ 15 by decide), ?_⟩
    have sm : Same H (upd (upd H p (.dK [])) p (.dK (mergeK [] [((Sum.inr z1 : Key), V.int i1), ((Sum.inr z2 : Key), V.int i2)]))) := fun b o h => by
      rw [upd_ne (ne_of_none h hn), upd_ne (ne_of_none h hn)]
      exact h
    refine ⟨p, rfl, ?isd, ?_⟩
    case isd => exact .inl ⟨_, .inl upd_same⟩
    refine hk σ _ (rl.mono sm) _ fun v H3 s3 d3 => ?_
    cases d3
    refine hf σ H3 ((rl.mono sm).mono s3) _ fun u H4 s4 d4 => ?_
    cases d4
    refine ⟨_, DGet.k (k := .inr y) (s4 _ _ (s3 _ _ upd_same)), ?_⟩
    rw [hv]
    exact q _ H4 ((sm.trans s3).trans s4) (.int _))
end
end FP

namespace FP
open PySem PySem.Spec PyProof.Rows L2 HotX L2H
/-! ### a list of lists of one's own -/
def inL (As : List Addr) (rows : List (List PyData)) : Os := List.zipWith (fun a cs => (a, Od.lst (cs.map .im))) As rows
theorem inL_ads : ∀ {As : List Addr} {rows : List (List PyData)}, As.length = rows.length → (inL As rows).map (·.1) = As
  | [], _, _ => rfl
  | a :: As, [], h => by cases h
  | a :: As, r :: rows, h => by
    show a :: (inL As rows).map (·.1) = _
    rw [inL_ads (Nat.succ.inj h)]
theorem pair_ad {K : PySem.W.Frag} {H : Hp} : ∀ {As : List Addr} {vs : List V}, Paired (SdV K H) (As.map .ad) vs → vs = As.map V.ref
  | [], _, .nil => rfl
  | a :: As, v :: vs, .cons h1 h2 => by
    rw [pair_ad h2]
    have h1 : v = .ref a := h1
    rw [h1]
    rfl
theorem dpa_rows {K : PySem.W.Frag} {G : Hp} : ∀ {As : List Addr} {rows : List (List PyData)}, As.length = rows.length → (∀ a cs, (a, Od.lst (cs.map .im)) ∈ inL As rows → ∃ us, G a = some (.lst us) ∧ DpAll K G us cs) → DpAll K G (As.map V.ref) (rows.map .list)
  | [], [], _, _ => .nil
  | [], _ :: _, h, _ => by cases h
  | _ :: _, [], h, _ => by cases h
  | a :: As, r :: rows, h, k => by
    obtain ⟨us, g1, g2⟩ := k a r List.mem_cons_self
    exact .cons (.lst (SqL.of g1) g2) (dpa_rows (Nat.succ.inj h) fun b cs hb => k b cs (List.mem_cons_of_mem _ hb))
section
variable {X : Cx} {W : WX} {T : List (Addr × Str)} {δ : De} {R : Out → Prop} {ss : List Stmt}
/-- a list of lists of one's own becomes data -/
theorem sd_letgo (i : Nat) {D : Addr} {As : List Addr} {rows : List (List PyData)} {ps : List Addr} {rest : Os} (hl : As.length = rows.length) (hD : D ∉ ps) (hA : ∀ a ∈ As, a ∉ ps) (h : SD X W T ss (δ.set i (some (.im (.list (rows.map .list))))) ⟨ps, rest⟩ R) (hd : δ[i]? = some (some (.ad D)) := by rfl) :
    SD X W T ss δ ⟨ps, (D, .lst (As.map .ad)) :: (inL As rows ++ rest)⟩ R := fun σ H Dd rl t k => by
  have nd : (D :: (inL As rows ++ rest).map (·.1)).Nodup := rl.ro.nd
  rw [List.map_append, inL_ads hl] at nd
  obtain ⟨n1, n2⟩ := List.nodup_cons.mp nd
  have n3 := (List.nodup_append.mp n2)
  have nD : D ∉ ads (⟨ps, rest⟩ : Om) := fun z => (List.mem_append.mp z).elim hD fun z => n1 (List.mem_append_right _ z)
  have nA : ∀ a ∈ As, a ∉ ads (⟨ps, rest⟩ : Om) := fun a ha z => (List.mem_append.mp z).elim (hA a ha) fun z => n3.2.2 a ha a z rfl
  have sub : rest.Sublist ((D, .lst (As.map .ad)) :: (inL As rows ++ rest)) := List.Sublist.cons _ (List.sublist_append_right _ _)
  have sm : Same (hid (ads ⟨ps, (D, .lst (As.map .ad)) :: (inL As rows ++ rest)⟩) H) (hid (ads ⟨ps, rest⟩) H) := hid_more fun b hb => by
    rcases List.mem_append.mp hb with q | q
    · exact List.mem_append_left _ q
    · exact List.mem_append_right _ ((sub.map _).subset q)
  have r0 : Rl X.K H σ δ ⟨ps, rest⟩ := ⟨rl.len, fun i r hi => by
    obtain ⟨v, h1, h2⟩ := rl.sl i r hi
    exact ⟨v, h1, sdv_mono sm h2⟩, fun z o hz => odv_mono sm (Same.refl H) (rl.ro.ob z o (sub.subset hz)), (sub.map _).nodup rl.ro.nd, rl.ro.th⟩
  obtain ⟨v, e1, e2⟩ := rl.sl i _ hd
  have e2 : v = .ref D := e2
  subst e2
  obtain ⟨vs, g1, g2⟩ := rl.ro.ob D _ List.mem_cons_self
  have ev := pair_ad g2
  subst ev
  have dd : Dp X.K (hid (ads ⟨ps, rest⟩) H) (.ref D) (.list (rows.map .list)) := by
    refine .lst (SqL.of (hid_of nD g1)) (dpa_rows hl fun a cs ha => ?_)
    have haA : a ∈ As := by
      rw [← inL_ads hl]
      exact List.mem_map.mpr ⟨_, ha, rfl⟩
    obtain ⟨us, q1, q2⟩ := rl.ro.ob a _ (List.mem_cons_of_mem _ (List.mem_append_left _ ha))
    exact ⟨us, hid_of (nA a haA) q1, dpam sm (dpa_im q2)⟩
  have r1 := r0.set (i := i) (x := .im (.list (rows.map .list))) (v := .ref D) dd
  have es : σ.set i (some (.ref D)) = σ := by
    obtain ⟨hlt, e⟩ := List.getElem?_eq_some_iff.mp e1
    rw [← e, List.set_getElem_self]
  rw [es] at r1
  exact h σ H Dd r1 t (k.step ⟨fun b o e _ _ => e, fun a ha => .inl ((sub.map _).subset ha), rfl, fun t => t⟩)
end
end FP

namespace FP
open PySem PySem.Spec PyProof.Rows L2 HotX L2H
def inR (As : List Addr) (rows : List (List PyData)) : Os := (inL As rows).reverse
theorem inR_snoc {As : List Addr} {rows : List (List PyData)} {p : Addr} {r : List PyData} (h : As.length = rows.length) : inR (As ++ [p]) (rows ++ [r]) = (p, .lst (r.map .im)) :: inR As rows := by
  unfold inR inL
  rw [List.zipWith_append h, List.reverse_append]
  rfl
theorem inR_len {As : List Addr} {rows : List (List PyData)} (h : As.length = rows.length) : (inR As rows).length = As.length := by
  unfold inR inL
  rw [List.length_reverse, List.length_zipWith, h, Nat.min_self]
theorem set_mid {α : Type} (q : α) (xs ys : List α) (a b : α) : (q :: (xs ++ a :: ys)).set (xs.length + 1) b = q :: (xs ++ b :: ys) := by
  show q :: (xs ++ a :: ys).set xs.length b = _
  rw [List.set_append_right _ _ (Nat.le_refl _), Nat.sub_self]
  rfl
theorem get_mid {α : Type} (q : α) (xs ys : List α) (a : α) : (q :: (xs ++ a :: ys))[xs.length + 1]? = some a := by
  show (xs ++ a :: ys)[xs.length]? = some a
  rw [List.getElem?_append_right (Nat.le_refl _), Nat.sub_self]
  rfl
theorem ad_pair {K : PySem.W.Frag} {H : Hp} : ∀ As : List Addr, Paired (SdV K H) (As.map .ad) (As.map V.ref)
  | [] => .nil
  | a :: As => .cons rfl (ad_pair As)
section
variable {X : Cx} {δ : De} {ω : Om}
theorem lc_own {σ : L2.St} {H : Hp} {Q : VK} {wi : TI} {j : Nat} {te : TE} {items : List PyData} {rows : List (List PyData)} (rl : Rl X.K H σ δ ω)
    (hw : ∀ R : It → Hp → Prop, (∀ J H', Same H H' → Wk X.K (Same H') (hid (ads ω) H') J items → R J H') → wi σ H R) (hl : rows.length = items.length) (hz : items.length ≤ 10000)
    (he : ∀ (i : Nat) (d : PyData) (ds : List PyData), items[i]? = some d → rows[i]? = some ds → ∀ os' σ' H', Rl X.K H' σ' (δ.set j (some (.im d))) ⟨ω.ps, os' ++ ω.os⟩ → ∀ Q : VK, (∀ p vs H2, Same H' H2 → H' p = none → H2 p = some (.lst vs) → DpAll X.K (hid (p :: ads ⟨ω.ps, os' ++ ω.os⟩) H2) vs ds → Q (.ref p) H2) → te σ' H' Q)
    (k : ∀ D As H', As.length = rows.length → Same H H' → (∀ a ∈ D :: As, H a = none) → Rl X.K H' σ δ ⟨ω.ps, inR As rows ++ (D, .lst (As.map .ad)) :: ω.os⟩ → Q (.ref D) H') :
    tLc wi (gName j) tYes te [j] σ H Q := by
  refine hw _ fun J H1 s1 w => fun D hD => ?_
  have rl1 := rl.mono s1
  have rlD : Rl X.K (upd H1 D (.lst [])) σ δ (omD ω D (.lst (([] : List PyData).map .im))) := rl1.omD hD (same_new hD) upd_same .nil
  refine ⟨fun i m H2 => m = items.length - i ∧ i ≤ items.length ∧ Same H1 H2 ∧ ∃ As : List Addr, As.length = i ∧ (∀ a ∈ As, H1 a = none) ∧ Rl X.K H2 σ δ ⟨ω.ps, inR As (rows.take i) ++ (D, .lst (As.map .ad)) :: ω.os⟩, ⟨items.length, by omega, Nat.zero_le _, same_new hD, [], rfl, fun a h => (List.not_mem_nil h).elim, rlD⟩, ?_⟩
  rintro i m H2 ⟨em, hi, s2, As, lA, fA, r2⟩
  obtain ⟨go, stop, yld⟩ := w H2 s2
  by_cases hlt : i < items.length
  · refine .inr ⟨go i hlt, fun H3 => Same H1 H3 ∧ ∃ As : List Addr, As.length = i + 1 ∧ (∀ a ∈ As, H1 a = none) ∧ Rl X.K H3 σ δ ⟨ω.ps, inR As (rows.take (i + 1)) ++ (D, .lst (As.map .ad)) :: ω.os⟩, fun H3 ⟨s3, h3⟩ => ⟨items.length - (i + 1), by omega, rfl, hlt, s3, h3⟩, fun x H3 hy => ?_⟩
    obtain ⟨e3, d, ed, dx⟩ := yld i x H3 hlt hy
    subst e3
    have hys : i < rows.length := by omega
    have ey : rows[i]? = some rows[i] := List.getElem?_eq_getElem hys
    have lt : As.length = (rows.take i).length := by rw [List.length_take, lA]; omega
    show wipe (((wipe σ [j])).set j (some x)) [j] = wipe σ [j] ∧ _
    have ew : wipe σ [j] = σ.set j none := rfl
    refine ⟨?_, ?_⟩
    · show (((σ.set j none).set j (some x)).set j none) = σ.set j none
      rw [List.set_set, List.set_set]
    show te (((wipe σ [j])).set j (some x)) H3 _
    rw [ew, List.set_set]
    have r2' : Rl X.K H3 σ δ ⟨ω.ps, (inR As (rows.take i) ++ [(D, .lst (As.map .ad))]) ++ ω.os⟩ := by
      rw [List.append_assoc]
      exact r2
    have dx2 : Dp X.K (hid (ads ⟨ω.ps, (inR As (rows.take i) ++ [(D, .lst (As.map .ad))]) ++ ω.os⟩) H3) x d := by
      refine dpm (fun b o hb => ?_) dx
      obtain ⟨nb, eb⟩ := hid_out hb
      refine hid_of (fun z => ?_) (s2 b o eb)
      rcases List.mem_append.mp z with q | q
      · exact nb (List.mem_append_left _ q)
      · replace q : b ∈ ((inR As (rows.take i) ++ [(D, Od.lst (As.map .ad))]) ++ ω.os).map (·.1) := q
        rw [List.map_append, List.map_append] at q
        rcases List.mem_append.mp q with q | q
        · rcases List.mem_append.mp q with q | q
          · have q2 : b ∈ As := by
              rw [← inL_ads lt]
              unfold inR at q
              rw [List.map_reverse] at q
              exact List.mem_reverse.mp q
            rw [fA b q2] at eb
            cases eb
          · rw [List.mem_singleton.mp q, hD] at eb
            cases eb
        · exact nb (List.mem_append_right _ q)
    have r4 := r2'.set (i := j) (x := .im d) (v := x) dx2
    refine he i d rows[i] ed ey _ _ _ r4 _ fun p vs H4 s4 np hv dv => ?_
    obtain ⟨vs0, g1, g2⟩ := r2.ro.ob D (.lst (As.map .ad)) (List.mem_append_right _ List.mem_cons_self)
    have ev := pair_ad g2
    subst ev
    refine ⟨As.map V.ref, s4 D _ g1, ?_, same_upd_new hD (s2.trans s4), As ++ [p], by rw [List.length_append, lA]; rfl, fun a ha => ?_, ?_⟩
    · rw [List.length_map, lA]
      refine Nat.lt_of_lt_of_le hlt (Nat.le_trans hz ?_)
      rw [sizeLine_eq]
      decide
    · rcases List.mem_append.mp ha with q | q
      · exact fA a q
      · rw [List.mem_singleton.mp q]
        exact s2.free np
    · have r5 := r2.omD np s4 hv (xs := rows[i]) (dpam (hid_more fun b hb => by
        rw [List.append_assoc]
        exact List.mem_cons.mpr (ads_omD.mp hb)) dv)
      obtain ⟨st, r6⟩ := own_at (T := []) (j := (inR As (rows.take i)).length + 1) (o' := .lst (As.map .ad ++ [.ad p])) (H' := upd H4 D (.lst (As.map V.ref ++ [V.ref p]))) r5 (get_mid _ _ _ _) (s4 D _ g1) (fun _ q => by cases q) (fun _ _ q => by unfold LamX.CodeO at q; cases q) (fun b o nb h => by rw [upd_ne nb]; exact h) ⟨_, upd_same, paired_snoc (R := SdV X.K _) (x := Sd.ad p) (y := V.ref p) (show V.ref p = V.ref p from rfl) (ad_pair As)⟩
      have ew2 : putO (omD ⟨ω.ps, inR As (rows.take i) ++ (D, .lst (As.map .ad)) :: ω.os⟩ p (.lst (rows[i].map .im))) ((inR As (rows.take i)).length + 1) (D, .lst (As.map .ad ++ [.ad p])) = ⟨ω.ps, inR (As ++ [p]) (rows.take (i + 1)) ++ (D, .lst ((As ++ [p]).map .ad)) :: ω.os⟩ := by
        have et : rows.take (i + 1) = rows.take i ++ [rows[i]] := by rw [List.take_add_one, ey]; rfl
        rw [et, inR_snoc lt, List.map_append]
        show (⟨ω.ps, ((p, _) :: (inR As (rows.take i) ++ (D, .lst (As.map .ad)) :: ω.os)).set _ _⟩ : Om) = _
        rw [set_mid]
        rfl
      rw [ew2] at r6
      exact r6
  · have e : i = items.length := by omega
    subst e
    refine .inl ⟨stop, ?_⟩
    rw [List.take_of_length_le (by omega)] at r2
    refine k D As H2 (lA.trans hl.symm) (s1.trans s2) (fun a ha => ?_) r2
    rcases List.mem_cons.mp ha with q | q
    · rw [q]
      exact s1.free hD
    · exact s1.free (fA a q)
variable {W : WX} {T : List (Addr × Str)} {tg iter : Expr} {pos : Pos} {R : Out → Prop} {ss : List Stmt} {x : Str}
/-- x = [list(..) for tg in iter], a list of lists of one's own -/
theorem sd_ownLL (i : Nat) {py cpos : Pos} {elt : Expr} {scope : Scope} {y : Str} {j : Nat} {items : List PyData} {rows : List (List PyData)} (hc : X.calm = true) (hN : X.N.Nodup) (hw : PWs X δ ω tg iter items) (hl : rows.length = items.length) (ok : BlkOk X.N X.env.scope scope [(y, j)])
    (hg : ∀ (s : Shared) (H : Hp) (C : Addr) (cl : List (Str × Addr)) (fp : List Addr), PG (X.blk s H scope (compEnvC scope cl C X.env) fp) tg (gName j))
    (he : ∀ (i : Nat) (d : PyData) (ds : List PyData), items[i]? = some d → rows[i]? = some ds → ∀ os' (s : Shared) (H : Hp) (C : Addr) (cl : List (Str × Addr)) (fp : List Addr), PN (X.blk s H scope (compEnvC scope cl C X.env) fp) (δ.set j (some (.im d))) ⟨ω.ps, os' ++ ω.os⟩ elt ds)
    (hz : items.length ≤ 10000) (hsw : swapsWith (.ListComp elt [⟨tg, iter, [], 0⟩] scope cpos) (some (.Name x py)) pos.line X.env = pure true)
    (hk : ∀ D As, As.length = rows.length → D ∉ ω.ps → (∀ a ∈ As, a ∉ ω.ps) → SD X W T ss (δ.set i (some (.ad D))) ⟨ω.ps, inR As rows ++ (D, .lst (As.map .ad)) :: ω.os⟩ R)
    (hy : X.N[i]? = some x := by rfl) (hyl : X.env.scope.names.lookup x = some .local := by rfl) (hs : ∀ x, foldedSetIterable iter X.env x = pure x := by intro _; rfl) : SD X W T (.Assign [.Name x py] (.ListComp elt [⟨tg, iter, [], 0⟩] scope cpos) pos :: ss) δ ω R := by
  obtain ⟨wi, h1, h2⟩ := hw
  refine sd_cons fun σ H D rl t k => ws (ps_setLc (i := i) (own := [(y, j)]) hc hN hy hyl hsw h1 ok hg (fun _ _ _ _ _ => pts_nil) (fun s H0 C cl fp => pe_blk s H0 C cl fp) hs) ?_
  refine lc_own rl (fun R kk => h2 σ H rl R kk) hl hz (fun i d ds hd hy os' σ' H' rl' Q' k' s H0 C cl fp => he i d ds hd hy os' s H0 C cl fp σ' H' rl' Q' k') (fun q As H' lA s fr r => ?_)
  refine k.nx _ _ _ H' (hk q As lA (fun z => rl.ro.th q z (fr q List.mem_cons_self)) (fun a ha z => rl.ro.th a z (fr a (List.mem_cons_of_mem _ ha)))) ⟨fun b o h _ _ => s b o h, fun a h => ?_, rfl, fun t => t.ext s⟩ (r.set (x := .ad q) (v := .ref q) rfl)
  have h : a ∈ (inR As rows ++ (q, Od.lst (As.map .ad)) :: ω.os).map (·.1) := h
  rw [List.map_append, List.map_cons] at h
  have new : a ∈ q :: As → ∀ o, H a = some o → ¬ Pt T o := fun z o ho => by
    rw [fr a z] at ho
    cases ho
  rcases List.mem_append.mp h with z | z
  · refine .inr (new (List.mem_cons_of_mem _ ?_))
    unfold inR at z
    rw [List.map_reverse, inL_ads lA] at z
    exact List.mem_reverse.mp z
  · rcases List.mem_cons.mp z with z | z
    · exact .inr (new (by rw [z]; exact List.mem_cons_self))
    · exact .inl z
end
end FP

namespace FP
open PySem PySem.Spec PyProof.Rows L2 HotX L2H
/-! ### enumerate of a text -/
def ItES (x : Str) : It := ⟨fun i _ => i < x.cps.size, fun i H v H' => ∃ T c, v = .ref T ∧ H T = none ∧ H' = upd H T (.tup [.int (i : Nat), .str ⟨#[c]⟩]) ∧ x.cps[i]? = some c, fun i _ => i = x.cps.size⟩
structure EsSt (e it : Addr) (x : Str) (t : Tok) (i : Nat) (h : Heap) : Prop where
  en : ∃ old, IsEnum h e it (i : Int) old
  wk : h.IsStrIter it (strIterType x) x t i
theorem turn_enumS {P : Program} {w : World} {K : PySem.W.Frag} {elts : List Expr} {kk : Nat} {tpos : Pos} {e it : Addr} {x : Str} {t : Tok} (lt : it < e) : Turn P w K (.Tuple elts kk tpos) (ItES x) [e, it] e (EsSt e it x t) where
  mem := List.mem_cons_self
  obj := fun i h st c hc => by
    obtain ⟨⟨_, g1⟩, o, g2, _, d⟩ := st
    rcases List.mem_cons.mp hc with rfl | hc
    · exact ⟨_, g1, nofun⟩
    · exact (List.mem_singleton.mp hc) ▸ ⟨o, g2, fun v q => by rw [d] at q; cases q⟩
  keep := fun i h h' st k => ⟨st.en.imp fun _ q => k e List.mem_cons_self _ q, let ⟨o, g, r⟩ := st.wk; ⟨o, k it (by simp) o g, r⟩⟩
  item := by
    rintro X rfl rfl rfl calm i pins s σ H E I free st lti
    obtain ⟨old, he⟩ := st.en
    have old1 : ∀ c ∈ [e, it], c < s.heap.objs.size := fun c hc => by
      rcases List.mem_cons.mp hc with rfl | hc
      · exact Heap.lt_size he
      · obtain ⟨_, g, _⟩ := st.wk
        exact (List.mem_singleton.mp hc) ▸ Heap.lt_size g
    refine wpAny_pyNext_enum_itemD (Draws.text (prog := X.prog) (w := X.w) (A := X.A.in1) (I.ok.hd calm) it x t) he st.wk lti (Nat.ne_of_gt lt) (by simpa using Nat.ne_of_gt lt) fun v h1 tk ⟨c, u, hcx, ev⟩ out w1 hT sz k1 => ⟨_, rfl, wpAny_letOwnedTupleGo_enum (s := { s with heap := h1, toks := tk + 1 }) out fun h2 he2 sb => ?_⟩
    subst ev
    have up : ∀ c, c ≠ e → h2.get? c = h1.get? c := fun c hc => sb.2 c hc
    have I1 : Inv X pins σ (upd H s.heap.objs.size (.tup [.int (i : Nat), .str ⟨#[c]⟩])) { s with heap := h2, toks := tk + 1 } := I.turnedNew (ch := [e, it]) (fun b ob nb q => by
      have ne : b ≠ e ∧ b ≠ it := by simpa using nb
      exact (up b ne.1).trans (k1 b ob ne.1 ne.2 q)) free (Nat.le_refl _) ⟨by show 2 ≤ sizeLine; decide, [.int i tk, .str ⟨#[c]⟩ u], .cons ⟨_, rfl⟩ (.cons ⟨_, rfl⟩ .nil), _, (up _ (Nat.ne_of_gt (old1 e List.mem_cons_self))).trans hT, rfl, _, rfl⟩
    refine ⟨.ref s.heap.objs.size, _, I1, rfl, ⟨_, c, rfl, I.hok.fresh (Nat.le_refl _), rfl, hcx⟩, ⟨⟨_, by rw [Int.natCast_add]; exact he2⟩, let ⟨o, g, r⟩ := w1; ⟨o, (up it (Nat.ne_of_lt lt)).trans g, r⟩⟩, fun b hb => ?_⟩
    rw [upd_ne (Nat.ne_of_lt (old1 b hb))]
    exact (free b hb).1
  done := by
    rintro X rfl rfl rfl calm i pins s σ H E I free st stop
    obtain rfl : i = x.cps.size := stop
    obtain ⟨old, he⟩ := st.en
    exact wpAny_pyNext_enum_endD (Draws.text (prog := X.prog) (w := X.w) (A := X.A.in1) (I.ok.hd calm) it x t) he st.wk fun h1 ext => ⟨rfl, I.turnedL (t' := s.toks) (ch := [e, it]) (fun b o nb q => ext b o (fun z => nb (by simp [z])) q) free⟩
  self := fun A i s Q E st h => st.en.elim fun _ he => wpAny_pyIter_enum he h
def iEnumS (ta : TA) : TI := fun σ H R => ta σ H fun vs H1 => ∃ x, vs = [.str x] ∧ R (ItES x) H1
theorem pi_enumS {X : Cx} {e : Expr} {ta : TA} {p pos tpos : Pos} {elts : List Expr} {kk : Nat} (hg : Gl X "enumerate") (hm : X.mg "enumerate" = none) (ha : PA X [e] ta) (hs : starEach [e] X.env = [(false, eval e X.env)] := by rfl) :
    PI X (.Tuple elts kk tpos) (.Call (.Name "enumerate" p) [e] [] pos) (iEnumS ta) := ⟨fun pins s σ H R I h => by
  refine Call_ (ld_blt I hg hm boot_enumerate (PyProof.Rows.callWith_type1 (thn (ha.run pos pins s σ H _ I h) fun us s1 ⟨vs, H1, I1, r1, x, ex, q⟩ => ?_) hs rfl))
  subst ex
  rcases r1 with _ | ⟨⟨t, rfl⟩, r1⟩
  cases r1
  refine call_enumerate_str fun h1 he hit hsz hk => wpAny_pyIter_enum he ⟨_, [s1.heap.objs.size + 1, s1.heap.objs.size], _, _, H1, rfl, I1.kept (t' := s1.toks) hk, turn_enumS (t := t) (Nat.lt_succ_self _), ⟨⟨.none, he⟩, hit⟩, fun b hb => ?_, q⟩
  have hle : s1.heap.objs.size ≤ b := by
    rcases List.mem_cons.mp hb with rfl | hb
    · exact Nat.le_succ _
    · exact Nat.le_of_eq (List.mem_singleton.mp hb).symm
  exact I1.fpOk hle (I1.hok.fresh hle)⟩
/-! ### walks that make a tuple each turn -/
def WkT (K : PySem.W.Frag) (G : Hp → Prop) (B : Hp) (J : It) (items : List (List PyData)) : Prop :=
  ∀ H', G H' → (∀ i, i < items.length → J.go i H') ∧ J.stop items.length H' ∧ ∀ i x H'', i < items.length → J.yld i H' x H'' → ∃ T vs ds, x = .ref T ∧ H' T = none ∧ H'' = upd H' T (.tup vs) ∧ items[i]? = some ds ∧ DpAll K B vs ds
def PWt (X : Cx) (δ : De) (ω : Om) (tg iter : Expr) (items : List (List PyData)) : Prop :=
  ∃ wi, PI X tg iter wi ∧ ∀ σ H, Rl X.K H σ δ ω → ∀ R : It → Hp → Prop, (∀ J H', Same H H' → (∀ T, WkT X.K (Ke T (hid (ads ω) H')) (hid (ads ω) H') J items) → R J H') → wi σ H R
def enumD (ds : List PyData) : List (List PyData) := ds.mapIdx fun (i : Nat) d => [.int (i : Int), d]
theorem enumD_len (ds : List PyData) : (enumD ds).length = ds.length := by
  unfold enumD
  rw [List.length_mapIdx]
theorem enumD_get {ds : List PyData} {i : Nat} {x : List PyData} (h : (enumD ds)[i]? = some x) : ∃ d, ds[i]? = some d ∧ x = [.int (i : Int), d] := by
  unfold enumD at h
  rw [List.getElem?_mapIdx] at h
  cases e : ds[i]? with
  | none =>
    rw [e] at h
    cases h
  | some d =>
    rw [e] at h
    cases h
    exact ⟨d, rfl, rfl⟩
theorem enumD_two {ds x : List PyData} (h : x ∈ enumD ds) : x.length = 2 := by
  obtain ⟨i, hi⟩ := List.getElem?_of_mem h
  obtain ⟨d, _, rfl⟩ := enumD_get hi
  rfl
section
variable {X : Cx} {W : WX} {T : List (Addr × Str)} {δ : De} {ω : Om} {a b e o iter : Expr} {pos p tpos : Pos} {R : Out → Prop} {ss sa : List Stmt} {elts : List Expr} {kk : Nat} {c : Addr} {r : Sd}
theorem wt_enumS {z : Str} (hm : X.mg "enumerate" = none) (h : PD X δ ω a (.str z)) (hg : Gl X "enumerate" := by rfl) (hs : starEach [a] X.env = [(false, eval a X.env)] := by rfl) (he : starEach [a] X.env = (false, eval a X.env) :: starEach [] X.env := by rfl) :
    PWt X δ ω (.Tuple elts kk tpos) (.Call (.Name "enumerate" p) [a] [] pos) (enumD (signsD z)) := by
  refine ⟨_, pi_enumS hg hm (pa_cons pe_w pa_nil he) hs, fun σ H rl R k => h σ H rl _ fun v H1 s1 d1 => ?_⟩
  cases d1
  have hl : (enumD (signsD z)).length = z.cps.size := by
    rw [enumD_len]
    unfold signsD
    rw [List.length_map, Array.length_toList]
  refine ⟨z, rfl, k _ H1 s1 fun T H2 g => ⟨fun i hi => ?_, ?_, fun i y H3 hi w => ?_⟩⟩
  · show i < z.cps.size
    rw [← hl]
    exact hi
  · exact hl
  · obtain ⟨T', cc, e1, e2, e3, e4⟩ := w
    refine ⟨T', _, [.int (i : Int), .str ⟨#[cc]⟩], e1, e2, e3, ?_, .cons (.int _) (.cons (.str _) .nil)⟩
    unfold enumD
    rw [List.getElem?_mapIdx]
    unfold signsD
    rw [List.getElem?_map, Array.getElem?_toList, e4]
    rfl
theorem sd_forT (is : List Nat) {n : Nat} {ts : List Expr} {p' : Pos} {items : List (List PyData)} (inv : Nat → De → Om → Prop) (hw : PWt X δ ω (.Tuple ts kk p') iter items) (h0 : inv 0 δ ω)
    (hb : ∀ i ds δ' ω', items[i]? = some ds → inv i δ' ω' → SD X W T sa (setAll δ' is ds) ω' (Turn1 inv i (Nxt X W T ss R) R))
    (hd : ∀ δ' ω', inv items.length δ' ω' → SD X W T ss δ' ω' R) (hn : ∀ ds ∈ items, ds.length = n) (hi : is.length = n) (hg : PG X (.Tuple ts kk p') (gTup X.K n (gAll is))) (hp : PassesOwn (model X.prog X.w) X.A X.env X.xe) (hc : X.calm = true) (hs : ∀ x, foldedSetIterable iter X.env x = pure x := by intro _; rfl) : SD X W T (.For (.Tuple ts kk p') iter sa [] pos :: ss) δ ω R := by
  obtain ⟨wi, h1, h2⟩ := hw
  refine sd_cons fun σ H D rl t k => ws (ps_for hp hc h1 hg pss_w hs) (h2 σ H rl _ fun J H1 s1 w => ?_)
  refine ⟨fun i m σ' H' => ∃ δ' ω', m = items.length - i ∧ i ≤ items.length ∧ inv i δ' ω' ∧ Stp T ω ω' H1 H' ∧ Rl X.K H' σ' δ' ω', ⟨items.length, δ, ω, by omega, Nat.zero_le _, h0, .refl, rl.mono s1⟩, ?_⟩
  rintro i m σ' H' ⟨δ', ω', em, hi2, iv, st, rl'⟩
  obtain ⟨go, stop, yld⟩ := w T H' (fun b o z p => (hid_out (st.seen b o z p)).2)
  have k1 := k.step (Stp.of s1 : Stp T ω ω H H1)
  by_cases hlt : i < items.length
  · refine .inr ⟨go i hlt, fun σ2 H2 => ∃ δ2 ω2, inv (i + 1) δ2 ω2 ∧ Stp T ω ω2 H1 H2 ∧ Rl X.K H2 σ2 δ2 ω2, fun σ2 H2 ⟨δ2, ω2, a1, a2, a3⟩ => ⟨items.length - (i + 1), by omega, δ2, ω2, rfl, hlt, a1, a2, a3⟩, fun x H2 hy => ?_⟩
    obtain ⟨T', vs, ds, ex, nT, eH, ed, dvs⟩ := yld i x H2 hlt hy
    subst ex
    subst eH
    have sn : Same H' (upd H' T' (.tup vs)) := same_new nT
    have st2 : Stp T ω ω' H1 (upd H' T' (.tup vs)) := st.trans (.of sn)
    have k2 := k1.step st2
    have dx2 := dpam (hid_same sn) (dpa_ke st.seen ds vs dvs)
    have hds := hn ds (List.mem_of_getElem? ed)
    refine ⟨_, _, rfl, SqT.of upd_same, by rw [dpa_len dvs]; exact hds, gAll_ok (rl'.mono sn) dx2 (hi.trans hds.symm) fun σ3 l3 => ?_⟩
    refine hb i _ δ' ω' ed iv _ _ _ l3 (st2.tab (t.ext s1)) ?_
    exact ⟨fun δ2 ω2 σ2 H2 z q l => ⟨δ2, ω2, z, st2.trans q, l⟩, fun r ω2 v H2 z q l dv => k2.rt r ω2 v H2 z q l dv, fun C ω2 σ2 H2 z q l => k2.ex C ω2 σ2 H2 z q l, fun δ2 ω2 σ2 H2 z q l => k2.nx δ2 ω2 σ2 H2 z q l, fun δ2 ω2 σ2 H2 z q l => ⟨δ2, ω2, z, st2.trans q, l⟩⟩
  · have e : i = items.length := by omega
    subst e
    exact .inl ⟨stop, (k1.step st).nx δ' ω' σ' H' (hd δ' ω' iv) .refl rl'⟩
/-! ### lists of lists of one's own are read -/
theorem atI_sd {K : PySem.W.Frag} {H : Hp} {xs : List Sd} {vs : List V} {i : Int} (h : Paired (SdV K H) xs vs) (ha : atI xs i = some r) : ∃ v, atI vs i = some v ∧ SdV K H r v := by
  unfold atI at ha ⊢
  rw [paired_len h]
  cases e : ixN xs.length i with
  | none =>
    rw [e] at ha
    cases ha
  | some j =>
    rw [e] at ha
    exact paired_get h ha
theorem ps1_ixA {i : Int} {xs : List Sd} (ha : PS1 X δ ω a (.ad c)) (hm : (c, Od.lst xs) ∈ ω.os) (hb : PD X δ ω b (.int i)) (hi : atI xs i = some r) (hs : PlainIx b := by exact fun _ _ => rfl) : PS1 X δ ω (.Subscript a b pos) r := fun σ H rl Q k =>
  we (pe_ix ix_list pe_w pe_w hs) (ha σ H rl _ fun x H1 s1 d1 => hb σ H1 (rl.mono s1) _ fun y H2 s2 d2 => by
    cases d2
    have d1 : x = .ref c := d1
    subst d1
    obtain ⟨vs, g1, g2⟩ := (rl.mono (s1.trans s2)).ro.ob c _ hm
    obtain ⟨v, h1, h2⟩ := atI_sd g2 hi
    exact ⟨_, _, _, v, rfl, rfl, SqL.of g1, h1, k v H2 (s1.trans s2) h2⟩)
theorem pd_lenA {xs : List Sd} (hm : X.mg "len" = none) (ha : PS1 X δ ω a (.ad c)) (hc : (c, Od.lst xs) ∈ ω.os) (hg : Gl X "len" := by rfl) (hs : starEach [a] X.env = (false, eval a X.env) :: starEach [] X.env := by rfl) : PD X δ ω (.Call (.Name "len" p) [a] [] pos) (.int xs.length) := fun σ H rl Q k =>
  we (pe_callB call_len_seq hg hm PySem.boot_len (pa_cons pe_w pa_nil hs) (he := hs)) (ha σ H rl _ fun x H1 s1 d1 => by
    have d1 : x = .ref c := d1
    subst d1
    obtain ⟨vs, g1, g2⟩ := (rl.mono s1).ro.ob c _ hc
    refine ⟨_, _, rfl, .inl (SqL.of g1), ?_⟩
    rw [paired_len g2]
    exact k _ H1 s1 (.int _))
/-- x = [list(..) for tg in iter], the rows behind their list -/
theorem sd_ownLL2 (i : Nat) {tg : Expr} {x : Str} {py cpos : Pos} {elt : Expr} {scope : Scope} {y : Str} {j : Nat} {items : List PyData} {rows : List (List PyData)} (hc : X.calm = true) (hN : X.N.Nodup) (hw : PWs X δ ω tg iter items) (hl : rows.length = items.length) (ok : BlkOk X.N X.env.scope scope [(y, j)])
    (hg : ∀ (s : Shared) (H : Hp) (C : Addr) (cl : List (Str × Addr)) (fp : List Addr), PG (X.blk s H scope (compEnvC scope cl C X.env) fp) tg (gName j))
    (he : ∀ (i : Nat) (d : PyData) (ds : List PyData), items[i]? = some d → rows[i]? = some ds → ∀ os' (s : Shared) (H : Hp) (C : Addr) (cl : List (Str × Addr)) (fp : List Addr), PN (X.blk s H scope (compEnvC scope cl C X.env) fp) (δ.set j (some (.im d))) ⟨ω.ps, os' ++ ω.os⟩ elt ds)
    (hz : items.length ≤ 10000) (hk : ∀ D As, As.length = rows.length → D ∉ ω.ps → (∀ a ∈ As, a ∉ ω.ps) → SD X W T ss (δ.set i (some (.ad D))) ⟨ω.ps, (D, .lst (As.map .ad)) :: (inL As rows ++ ω.os)⟩ R)
    (hsw : swapsWith (.ListComp elt [⟨tg, iter, [], 0⟩] scope cpos) (some (.Name x py)) pos.line X.env = pure true := by rfl)
    (hy : X.N[i]? = some x := by rfl) (hyl : X.env.scope.names.lookup x = some .local := by rfl) (hs : ∀ x, foldedSetIterable iter X.env x = pure x := by intro _; rfl) : SD X W T (.Assign [.Name x py] (.ListComp elt [⟨tg, iter, [], 0⟩] scope cpos) pos :: ss) δ ω R :=
  sd_ownLL i hc hN hw hl ok hg he hz hsw (fun D As h1 h2 h3 => sd_perm (List.perm_middle.trans (.cons _ ((List.reverse_perm _).append_right _))) (hk D As h1 h2 h3)) hy hyl hs
theorem inL_get {As : List Addr} {rows : List (List PyData)} {r : Nat} {a : Addr} {cs : List PyData} (h1 : As[r]? = some a) (h2 : rows[r]? = some cs) : (inL As rows)[r]? = some (a, .lst (cs.map .im)) := by
  unfold inL
  rw [List.getElem?_zipWith, h1, h2]
theorem inL_set : ∀ {As : List Addr} {rows : List (List PyData)} {r : Nat} {a : Addr} {cs : List PyData}, As[r]? = some a → (inL As rows).set r (a, .lst (cs.map .im)) = inL As (rows.set r cs)
  | [], rows, r, a, cs, h => by simp at h
  | b :: As, [], r, a, cs, h => rfl
  | b :: As, x :: rows, 0, a, cs, h => by
    simp at h
    subst h
    rfl
  | b :: As, x :: rows, r + 1, a, cs, h => by
    have h2 : As[r]? = some a := by simpa using h
    show _ :: (inL As rows).set r _ = _ :: inL As (rows.set r cs)
    rw [inL_set h2]
end
end FP

namespace FP
open PySem PySem.Spec PyProof.Rows L2 HotX L2H
/-! ### fields, some of them objects of one's own -/
abbrev Fo := List (Str × Sd)
abbrev FvP (K : PySem.W.Frag) (H : Hp) : Fo → List (Str × V) → Prop := Paired (fun (p : Str × Sd) (q : Str × V) => p.1 = q.1 ∧ SdV K H p.2 q.2)
def putFs (f : Str) (r : Sd) : Fo → Fo
  | [] => [(f, r)]
  | (g, x) :: t => if g = f then (g, r) :: t else (g, x) :: putFs f r t
theorem sfv_get {K : PySem.W.Frag} {H : Hp} {f : Str} {r : Sd} : ∀ {fs : Fo} {vs : List (Str × V)}, FvP K H fs vs → fs.lookup f = some r → ∃ v, vs.lookup f = some v ∧ SdV K H r v
  | _, _, .nil, h => by cases h
  | (g, x) :: fs, (g2, v) :: vs, .cons a t, h => by
    obtain ⟨e1, a⟩ := a
    simp only at e1
    subst e1
    rw [List.lookup_cons] at h ⊢
    cases e : f == g with
    | true =>
      rw [e] at h
      cases h
      exact ⟨v, rfl, a⟩
    | false =>
      rw [e] at h
      exact sfv_get t h
theorem sfv_none {K : PySem.W.Frag} {H : Hp} {f : Str} : ∀ {fs : Fo} {vs : List (Str × V)}, FvP K H fs vs → (fs.map (·.1)).contains f = false → vs.lookup f = none
  | _, _, .nil, _ => rfl
  | (g, x) :: fs, (g2, v) :: vs, .cons a t, h => by
    obtain ⟨e1, a⟩ := a
    simp only at e1
    subst e1
    simp only [List.map_cons, List.contains_cons, Bool.or_eq_false_iff] at h
    rw [List.lookup_cons, h.1]
    exact sfv_none t h.2
theorem sfv_put {K : PySem.W.Frag} {H : Hp} {f : Str} {r : Sd} {y : V} (h : SdV K H r y) : ∀ {fs : Fo} {vs : List (Str × V)}, FvP K H fs vs → FvP K H (putFs f r fs) (putF f y vs)
  | _, _, .nil => .cons ⟨rfl, h⟩ .nil
  | (g, _) :: _, (g2, _) :: _, .cons a t => by
    obtain ⟨e1, a⟩ := a
    simp only at e1
    subst e1
    unfold putFs putF
    by_cases e : g = f
    · rw [if_pos e, if_pos e]
      exact .cons ⟨rfl, h⟩ t
    · rw [if_neg e, if_neg e]
      exact .cons ⟨rfl, a⟩ (sfv_put h t)
theorem sfv_mono {K : PySem.W.Frag} {H H' : Hp} (e : Same H H') {fs : Fo} {vs : List (Str × V)} (h : FvP K H fs vs) : FvP K H' fs vs := L2.Paired.mapP h fun _ _ q => ⟨q.1, sdv_mono e q.2⟩
section
variable {X : Cx} {W : WX} {T : List (Addr × Str)} {δ : De} {ω ω1 : Om} {a b c e o iter tg : Expr} {es : List Expr} {d : PyData} {ds : List PyData} {r : Sd} {rs : List Sd} {pos p p1 apos : Pos} {R : Out → Prop} {ss sa sb : List Stmt} {z C : Addr} {fs : Fo} {f x m : Str} {k : Nat} {fr : FrG}
/-- x.f -/
theorem ps1_fld (i : Nat) (Cl : Cls X.K C) (Na : NoAttr X.K C f) (hm : (z, Od.ins C fs) ∈ ω.os) (hl : fs.lookup f = some r) (hd : δ[i]? = some (some (.ad z)) := by rfl) (hN : X.N[i]? = some x := by rfl) (hv : Vis X.env.scope x := by first | exact Or.inl rfl | exact Or.inr (Or.inl rfl) | exact Or.inr (Or.inr rfl))
    (h1 : (x == ("__debug__" : Str)) = false := by decide) (h2 : (x == ("__classdict__" : Str)) = false := by decide) (hb : attributeBase (.Name x p1) f X.env (eval (.Name x p1) X.env) = eval (.Name x p1) X.env := by rfl) : PS1 X δ ω (.Attribute (.Name x p1) f pos) r := fun σ H rl Q q => by
  obtain ⟨v, e1, e2⟩ := rl.sl i _ hd
  have e2 : v = .ref z := e2
  subst e2
  obtain ⟨dx, vs, g1, g2⟩ := rl.ro.ob z _ hm
  obtain ⟨y, g3, g4⟩ := sfv_get g2 hl
  exact we (pe_fld (pe_var hN hv h1 h2) hb) ⟨_, e1, z, C, dx, vs, y, rfl, g1, Cl, Na, g3, q y H (Same.refl H) g4⟩
theorem fld_at {H : Hp} {σ : L2.St} {j : Nat} {v : V} {dx : Addr} {vs : List (Str × V)} (l : Rl X.K H σ δ ω) (ho : ω.os[j]? = some (z, .ins C fs)) (g1 : H z = some (.ins C dx vs)) (g2 : FvP X.K (hid (ads ω) H) fs vs) (dv : SdV X.K (hid (ads ω) H) r v) :
    Stp T ω (putO ω j (z, .ins C (putFs f r fs))) H (upd H z (.ins C dx (putF f v vs))) ∧ Rl X.K (upd H z (.ins C dx (putF f v vs))) σ δ (putO ω j (z, .ins C (putFs f r fs))) := by
  have am : z ∈ ads ω := List.mem_append_right _ (List.mem_map.mpr ⟨_, at_mem ho, rfl⟩)
  have hh : Same (hid (ads ω) H) (hid (ads ω) (upd H z (.ins C dx (putF f v vs)))) := fun bb o h => by
    obtain ⟨n, e⟩ := hid_out h
    exact hid_of n (by rw [upd_ne (fun q => n (by rw [q]; exact am))]; exact e)
  exact own_at (T := T) (o' := .ins C (putFs f r fs)) (H' := upd H z (.ins C dx (putF f v vs))) l ho g1 (fun _ q => by cases q) (fun _ _ q => by unfold LamX.CodeO at q; cases q) (fun bb o nb h => by rw [upd_ne nb]; exact h) ⟨dx, _, upd_same, sfv_put (sdv_mono hh dv) (sfv_mono hh g2)⟩
/-- x.f = e -/
theorem sd_fldS (i : Nat) {pos' : Pos} (Cl : Cls X.K C) (Na : NoAttr X.K C f) (he : EX X W T e δ ω (Val1 (fun r ω1 => ∃ j fs, ω1.os[j]? = some (z, .ins C fs) ∧ fs.length < 1000 ∧ SD X W T ss δ (putO ω1 j (z, .ins C (putFs f r fs))) R) R)) (hd : δ[i]? = some (some (.ad z)) := by rfl) (hN : X.N[i]? = some x := by rfl)
    (hv : Vis X.env.scope x := by first | exact Or.inl rfl | exact Or.inr (Or.inl rfl) | exact Or.inr (Or.inr rfl)) (h1 : (x == ("__debug__" : Str)) = false := by decide) (h2 : (x == ("__classdict__" : Str)) = false := by decide)
    (hs : swapsWith e (some (.Attribute (.Name x p1) f pos')) pos.line X.env = pure false := by rfl) : SD X W T (.Assign [.Attribute (.Name x p1) f pos'] e pos :: ss) δ ω R :=
  sd_cons fun σ H D rl t kt => ws (ps_fld (pe_var hN hv h1 h2) pe_w hs) (he σ H rl t _ (fun r ω1 y H1 z1 st l dv => by
    obtain ⟨j, fs, ho, hz, z1⟩ := z1
    obtain ⟨v, e1, e2⟩ := l.sl i _ hd
    have e2 : v = .ref z := e2
    subst e2
    obtain ⟨dx, vs, g1, g2⟩ := l.ro.ob z _ (at_mem ho)
    obtain ⟨st2, l2⟩ := fld_at (T := T) (f := f) l ho g1 g2 dv
    exact ⟨_, e1, z, C, dx, vs, rfl, g1, Cl, Na, by rw [paired_len g2]; exact hz, kt.nx δ _ σ _ z1 (st.trans st2) l2⟩) (fun C ω' σ' H' z q l => kt.ex C ω' σ' H' z q l))
/-- x.f += e, whole numbers -/
theorem sd_fldaddS (i j : Nat) {tpos : Pos} {m n : Int} (Cl : Cls X.K C) (Na : NoAttr X.K C f) (ho : ω.os[j]? = some (z, .ins C fs)) (hl : fs.lookup f = some (.im (.int m))) (he : PD X δ ω e (.int n)) (hk : SD X W T ss δ (putO ω j (z, .ins C (putFs f (.im (.int (m + n))) fs))) R) (hz : fs.length < 1000) (hd : δ[i]? = some (some (.ad z)) := by rfl) (hN : X.N[i]? = some x := by rfl)
    (hv : Vis X.env.scope x := by first | exact Or.inl rfl | exact Or.inr (Or.inl rfl) | exact Or.inr (Or.inr rfl)) (h1 : (x == ("__debug__" : Str)) = false := by decide) (h2 : (x == ("__classdict__" : Str)) = false := by decide) :
    SD X W T (.AugAssign (.Attribute (.Name x p1) f tpos) .Add e pos :: ss) δ ω R :=
  sd_cons fun σ H D rl t kt => ws (ps_fldaug (pe_var hN hv h1 h2) pe_w in_add) (by
    obtain ⟨v, e1, e2⟩ := rl.sl i _ hd
    have e2 : v = .ref z := e2
    subst e2
    obtain ⟨dx, vs, g1, g2⟩ := rl.ro.ob z _ (at_mem ho)
    obtain ⟨y, g3, g4⟩ := sfv_get g2 hl
    cases g4
    refine ⟨_, e1, z, C, dx, vs, _, rfl, g1, Cl, Na, g3, he σ H rl _ fun w H1 s1 d1 => ?_⟩
    cases d1
    have rl1 := rl.mono s1
    obtain ⟨dx1, vs1, k1, k2⟩ := rl1.ro.ob z _ (at_mem ho)
    obtain ⟨st, l2⟩ := fld_at (T := T) (f := f) (r := .im (.int (m + n))) (v := .int (m + n)) rl1 ho k1 k2 (Dp.int (m + n))
    exact ⟨m, n, rfl, rfl, dx1, vs1, k1, by rw [paired_len k2]; exact hz, kt.nx δ _ σ _ hk ((Stp.of s1).trans st) l2⟩)
/-- y.m(), a method -/
theorem ex_methG0 (i : Nat) {Rr : Rg → Os → Prop} {ps : List Addr} (os rest : Os) (G : GMOk X.prog X.w X.K X.mg X.base k C m fr) (hr : Room k X.A) (tk : L2N.Takes X W) (Cl : Cls X.K C) (hm : (z, Od.ins C fs) ∈ os ++ rest) (hl : (fs.map (·.1)).contains m = false) (hf : fr os [.ad z] Rr)
    (hR : ∀ r os', Rr r os' → match r with | .ok r => R (.rt r ⟨ps, os' ++ rest⟩) | .er Z => R (.ex Z ⟨ps, os' ++ rest⟩)) (hd : δ[i]? = some (some (.ad z)) := by rfl) (hN : X.N[i]? = some x := by rfl)
    (hv : Vis X.env.scope x := by first | exact Or.inl rfl | exact Or.inr (Or.inl rfl) | exact Or.inr (Or.inr rfl)) (h1 : (x == ("__debug__" : Str)) = false := by decide) (h2 : (x == ("__classdict__" : Str)) = false := by decide) {pl : Sem Bool}
    (ht : MthAs X (.Name x p1) m apos pos [] pl := by rfl) : EX X W T (.Call (.Attribute (.Name x p1) m apos) [] [] pos) δ ⟨ps, os ++ rest⟩ R := fun σ H rl t Q q q2 => by
  obtain ⟨f, fd, pn, F, M, b⟩ := G.ex
  obtain ⟨v, e1, e2⟩ := rl.sl i _ hd
  have e2 : v = .ref z := e2
  subst e2
  obtain ⟨dx, us, g1, g2⟩ := rl.ro.ob z _ hm
  have nl : us.lookup m = none := sfv_none g2 hl
  refine we (pe_mthS0 (pl := pl) (E := WE W) (pe_var hN hv h1 h2) Cl M F hr b (fun σ => L2N.passAt tk σ) ht) ⟨_, e1, z, dx, us, rfl, g1, nl, ?_⟩
  refine callG_end (T := T) (rs := [.ad z]) rl (.cons rfl .nil) hf fun r os' H' hr st l => ?_
  have w := hR r os' hr
  cases r with
  | ok r => exact fun v hv => q r _ v H' w st l hv
  | er Z => exact q2 Z _ σ H' w st l.ro
/-- C(..), an __init__ that makes objects -/
theorem ex_makeG {cn : Str} {g : Addr} {fd : FuncData} {pn : List Str} {ps : List Addr} {rest : Os} (M : Mk X.K C g) (F : FnOk X.prog X.w X.K X.mg X.base (L2N.CX X.prog X.w) k g fd pn (spG X.K fr)) (hb : L2.Binds X.K fd pn []) (hr : Room (k + 1) X.A) (tk : L2N.Takes X W) (hmC : X.mg cn = some (.ref C))
    (ha : PSs X δ ⟨ps, rest⟩ (e :: es) rs) (hf : ∀ z, ∃ Rr, fr [(z, .ins C [])] (.ad z :: rs) Rr ∧ ∀ r os', Rr r os' → match r with | .ok r => r = .im .none ∧ R (.rt (.ad z) ⟨ps, os' ++ rest⟩) | .er Z => R (.ex Z ⟨ps, os' ++ rest⟩)) (hg : Gl X cn := by rfl) (hdb : (cn == ("__debug__" : Str)) = false := by decide) (he : starEach (e :: es) X.env = (false, eval e X.env) :: starEach es X.env := by rfl) (hpl : (backTo pos (starEach es X.env)).any (·.1) = false := by rfl) :
    EX X W T (.Call (.Name cn p) (e :: es) [] pos) δ ⟨ps, rest⟩ R := fun σ H rl t Q q q2 =>
  we (pe_makeS (E := WE W) M F hr hg hmC hb (fun σ => L2N.passAt tk σ) pa_w hdb he hpl) (ha σ H rl _ fun vs H1 s1 d1 z dx nz ndx ne => by
    have rl1 := rl.mono s1
    have sm : Same H1 (upd (upd H1 dx (.own z)) z (.ins C dx [])) := fun b o h => by
      rw [upd_ne (ne_of_none h nz), upd_ne (ne_of_none h ndx)]
      exact h
    have l0 : Rl X.K (upd (upd H1 dx (.own z)) z (.ins C dx [])) σ δ ⟨ps, [(z, .ins C [])] ++ rest⟩ := by
      refine ⟨rl1.len, fun i r hi => ?_, fun b o hz => ?_, ?_, there_mono rl1.ro.th sm⟩
      · obtain ⟨v, h1, h2⟩ := rl1.sl i r hi
        exact ⟨v, h1, sdv_mono (hid_in (ω := ⟨ps, rest⟩) nz sm) h2⟩
      · rcases List.mem_cons.mp hz with w | w
        · cases w
          exact ⟨dx, [], upd_same, .nil⟩
        · exact odv_mono (hid_in (ω := ⟨ps, rest⟩) nz sm) sm (rl1.ro.ob b o w)
      · show (z :: rest.map (·.1)).Nodup
        exact List.nodup_cons.mpr ⟨fun w => new_out rl1.ro.there nz (List.mem_append_right _ w), rl1.ro.nd⟩
    have st0 : Stp T ⟨ps, rest⟩ ⟨ps, [(z, .ins C [])] ++ rest⟩ H1 (upd (upd H1 dx (.own z)) z (.ins C dx [])) := stp_new (ω := ⟨ps, rest⟩) sm nz
    obtain ⟨Rr, hf1, hf2⟩ := hf z
    refine callG_end (T := T) (os := [(z, .ins C [])]) (rest := rest) (rs := .ad z :: rs) l0 (.cons rfl (L2.Paired.mapP d1 fun _ _ w => sdv_mono (hid_in (ω := ⟨ps, rest⟩) nz sm) w)) hf1 fun r os' H' hr st l => ?_
    have w := hf2 r os' hr
    cases r with
    | ok r =>
      intro v hv
      obtain ⟨rfl, w⟩ := w
      cases hv
      exact ⟨rfl, q _ _ _ H' w (((Stp.of s1).trans st0).trans st) l rfl⟩
    | er Z => exact q2 Z _ σ H' w (((Stp.of s1).trans st0).trans st) l.ro)
/-! ### the value, or what is raised, and the slots as they were -/
def YX (X : Cx) (W : WX) (T : List (Addr × Str)) (δ : De) (ω : Om) (e : Expr) (R : Rg → Om → Prop) : Prop := ∀ σ H, Rl X.K H σ δ ω → LamX.Tabs T H → ∀ Q : VK,
  (∀ r ω' v H', R (.ok r) ω' → Stp T ω ω' H H' → Rl X.K H' σ δ ω' → SdV X.K (hid (ads ω') H') r v → Q v H') → (∀ Z ω' H', R (.er Z) ω' → Stp T ω ω' H H' → Rl X.K H' σ δ ω' → W (.ref Z) none σ H') → wpe X e σ H Q
def ZE (X : Cx) (T : List (Addr × Str)) (δ : De) (ω : Om) (e : Expr) (R : PyData → Om → Prop) : Prop := ∀ σ H, Rl X.K H σ δ ω → LamX.Tabs T H → ∀ Q : VK, (∀ d ω' v H', R d ω' → Stp T ω ω' H H' → Rl X.K H' σ δ ω' → Dp X.K (hid (ads ω') H') v d → Q v H') → wpe X e σ H Q
def ZT (X : Cx) (T : List (Addr × Str)) (δ : De) (ω : Om) (e : Expr) (R : Bool → Om → Prop) : Prop := ∀ σ H, Rl X.K H σ δ ω → LamX.Tabs T H → ∀ Q : Bool → Hp → Prop, (∀ k ω' H', R k ω' → Stp T ω ω' H H' → Rl X.K H' σ δ ω' → Q k H') → wpt X e σ H Q
def ZW (X : Cx) (T : List (Addr × Str)) (δ : De) (ω : Om) (e : Expr) (R : Bool → Om → Prop) : Prop := ∀ σ H, Rl X.K H σ δ ω → LamX.Tabs T H → ∀ Q : Bool → Hp → Prop, (∀ k ω' H', R k ω' → Stp T ω ω' H H' → Rl X.K H' σ δ ω' → Q k H') → wpw X e σ H Q
theorem ZE.imp {R1 R2 : PyData → Om → Prop} (h : ZE X T δ ω e R1) (q : ∀ d ω', R1 d ω' → R2 d ω') : ZE X T δ ω e R2 := fun σ H rl t Q k => h σ H rl t Q fun d ω' v H' z => k d ω' v H' (q d ω' z)
theorem PD.ze {Z : PyData → Om → Prop} (h : PD X δ ω e d) (q : Z d ω) : ZE X T δ ω e Z := fun σ H rl t Q k => h σ H rl Q fun v H' s dv => k d ω v H' q (.of s) (rl.mono s) dv
theorem YE.ze {Z : PyData → Om → Prop} (h : YE X T δ ω e d ω1) (q : Z d ω1) : ZE X T δ ω e Z := fun σ H rl t Q k => h σ H rl t Q fun v H' s l dv => k d ω1 v H' q s l dv
theorem YX.ze {Z : PyData → Om → Prop} (h : YX X (fun _ _ _ _ => False) T δ ω e (fun r ω' => match r with | .ok (.im d) => Z d ω' | _ => False)) : ZE X T δ ω e Z := fun σ H rl t Q k => h σ H rl t Q (fun r ω' v H' z s l dv => by
    cases r with
    | im d => exact k d ω' v H' z s l dv
    | ad a => exact False.elim z) (fun Z ω' H' z _ _ => False.elim z)
theorem YX.ex {Rr : Rg → Om → Prop} (h : YX X W T δ ω e Rr) (q : ∀ r ω', Rr r ω' → match r with | .ok r => R (.rt r ω') | .er Z => R (.ex Z ω')) : EX X W T e δ ω R := fun σ H rl t Q k1 k2 => h σ H rl t Q (fun r ω' v H' z s l dv => k1 r ω' v H' (q _ _ z) s l dv) (fun Z ω' H' z s l => k2 Z ω' σ H' (q _ _ z) s l.ro)
theorem YX.imp {R1 R2 : Rg → Om → Prop} (h : YX X W T δ ω e R1) (q : ∀ r ω', R1 r ω' → R2 r ω') : YX X W T δ ω e R2 := fun σ H rl t Q k1 k2 => h σ H rl t Q (fun r ω' v H' z => k1 r ω' v H' (q _ _ z)) (fun Z ω' H' z => k2 Z ω' H' (q _ _ z))
theorem PTd.zt {k : Bool} {Z : Bool → Om → Prop} (h : PTd X δ ω e k) (q : Z k ω) : ZT X T δ ω e Z := fun σ H rl t Q kk => h σ H rl Q fun H' s => kk k ω H' q (.of s) (rl.mono s)
theorem ZW.zt {Z : Bool → Om → Prop} (h : ZW X T δ ω e Z) : ZT X T δ ω e Z := fun σ H rl t Q q => wt (PW.pt pw_w) (h σ H rl t Q q)
theorem zt_cmp {op : CmpOp} {r : R2} {Z : Bool → Om → Prop} (ho : OpR X (compareOp op) r) (ha : ZE X T δ ω a (fun da ω1 => ZE X T δ ω1 b (fun db ω2 => ∃ k, RD X.K r da db (.bool k) ∧ Z k ω2))) (hm : behindInMarks op b = false) : ZT X T δ ω (.Compare a [op] [b] pos) Z := fun σ H rl t Q q =>
  wt (pt_cmpR ho pe_w pe_w hm) (ha σ H rl t _ fun da ω1 x H1 hb s1 l1 d1 => hb σ H1 l1 (s1.tab t) _ fun db ω2 y H2 hr s2 l2 d2 => by
    obtain ⟨k, hr, z⟩ := hr
    exact hr _ x y H2 l2.ro.there (stp_sd (X := X) (r := .im da) s2 d1) d2 _ fun w H3 s3 d3 => by
      cases d3
      exact ⟨_, rfl, q k ω2 H3 z ((s1.trans s2).trans (.of s3)) (l2.mono s3)⟩)
theorem zt_not {Z : Bool → Om → Prop} (h : ZT X T δ ω e (fun k ω' => Z (!k) ω')) : ZT X T δ ω (.UnaryOp .Not e pos) Z := fun σ H rl t Q q => wt (pt_not pt_w) (h σ H rl t _ fun k ω' H1 z s1 l1 => q (!k) ω' H1 z s1 l1)
theorem zw_or1 {Z : Bool → Om → Prop} (h : ZT X T δ ω a Z) : ZW X T δ ω (.BoolOp .Or [a] pos) Z := fun σ H rl t Q q => ww (pw_or1 pt_w) (h σ H rl t Q q)
theorem zw_or {rr : List Expr} {Z : Bool → Om → Prop} (h : ZT X T δ ω a (fun k ω1 => (k = true → Z true ω1) ∧ (k = false → ZW X T δ ω1 (.BoolOp .Or (b :: rr) pos) Z))) : ZW X T δ ω (.BoolOp .Or (a :: b :: rr) pos) Z := fun σ H rl t Q q =>
  ww (pw_or pt_w pw_w) (h σ H rl t _ fun k ω1 H1 z s1 l1 => by
    cases k with
    | true => exact iteT (q true ω1 H1 (z.1 rfl) s1 l1)
    | false => exact iteF (z.2 rfl σ H1 l1 (s1.tab t) Q fun k2 ω2 H2 z2 s2 l2 => q k2 ω2 H2 z2 (s1.trans s2) l2))
theorem sd_ifZ (h : ZT X T δ ω c (fun k ω1 => (k = true → SD X W T sa δ ω1 (Nxt X W T ss R)) ∧ (k = false → SD X W T sb δ ω1 (Nxt X W T ss R)))) : SD X W T (.If c sa sb pos :: ss) δ ω R :=
  sd_cons fun σ H D rl t k => ws (ps_if pt_w pss_w pss_w) (h σ H rl t _ fun kk ω1 H' z s l => by
    cases kk with
    | true => exact iteT (z.1 rfl σ H' D l (s.tab t) (k.step s))
    | false => exact iteF (z.2 rfl σ H' D l (s.tab t) (k.step s)))
/-- if that is not so -/
theorem sd_ifZF (h : ZT X T δ ω c (fun k ω1 => k = false ∧ SD X W T ss δ ω1 R)) : SD X W T (.If c sa [] pos :: ss) δ ω R := sd_ifZ (fun σ H rl t Q q => h σ H rl t Q fun k ω' H' z => q k ω' H' ⟨fun e => (by rw [z.1] at e; cases e), fun _ => sd_nil z.2⟩)
theorem sd_setZ (i : Nat) {pos' : Pos} (he : ZE X T δ ω e (fun d ω1 => SD X W T ss (δ.set i (some (.im d))) ω1 R)) (hN : X.N.Nodup) (hi : X.N[i]? = some x := by rfl) (hx : Loc X.env.scope x := by first | exact Or.inl rfl | exact Or.inr rfl) (hs : swapsWith e (some (.Name x pos')) pos.line X.env = pure false := by rfl)
    (hf : X.fn x = true ∨ X.env.scope.names.lookup x = some .local := by first | exact .inl rfl | exact .inr rfl | assumption) : SD X W T (.Assign [.Name x pos'] e pos :: ss) δ ω R :=
  sd_cons (s1_set i (fun σ H rl t Q q _ => he σ H rl t Q fun d ω1 v H' z s l dv => q (.im d) ω1 v H' z s l dv) hN hi hx hs hf)
theorem sd_unpZ (is : List Nat) {ts : List Expr} {n kk : Nat} {p' : Pos} (he : ZE X T δ ω e (fun d ω1 => ∃ ds, d = .tuple ds ∧ ds.length = n ∧ SD X W T ss (setAll δ is ds) ω1 R)) (hg : PG X (.Tuple ts kk p') (gTup X.K n (gAll is))) (hi : is.length = n)
    (hs : swapsWithSole [.Tuple ts kk p'] e pos.line X.env = pure false := by rfl) (hw : swappedStores [.Tuple ts kk p'] e X.env = pure none := by rfl) : SD X W T (.Assign [.Tuple ts kk p'] e pos :: ss) δ ω R :=
  sd_cons fun σ H D rl t k => ws (ps_asg pe_w hg hs hw) (he σ H rl t _ fun d ω1 v H' z s l dv => by
    obtain ⟨ds, rfl, hn, hk⟩ := z
    cases dv with
    | tup h1 h2 => exact ⟨_, _, rfl, same_sqt hid_sub h1, by rw [dpa_len h2]; exact hn, gAll_ok l h2 (hi.trans hn.symm) fun σ' l2 => k.nx _ ω1 σ' H' hk s l2⟩)
/-- y.m(..), a method -/
theorem yx_methG (i : Nat) {Rr : Rg → Os → Prop} {ps : List Addr} (os rest : Os) {Z : Rg → Om → Prop} (G : GMOk X.prog X.w X.K X.mg X.base k C m fr) (hr : Room k X.A) (tk : L2N.Takes X W) (Cl : Cls X.K C) (hm : (z, Od.ins C fs) ∈ os ++ rest) (hl : (fs.map (·.1)).contains m = false) (ha : PSs X δ ⟨ps, os ++ rest⟩ (e :: es) rs) (hf : fr os (.ad z :: rs) Rr)
    (hR : ∀ r os', Rr r os' → Z r ⟨ps, os' ++ rest⟩) (hd : δ[i]? = some (some (.ad z)) := by rfl) (hN : X.N[i]? = some x := by rfl)
    (hv : Vis X.env.scope x := by first | exact Or.inl rfl | exact Or.inr (Or.inl rfl) | exact Or.inr (Or.inr rfl)) (h1 : (x == ("__debug__" : Str)) = false := by decide) (h2 : (x == ("__classdict__" : Str)) = false := by decide) {pl : Sem Bool}
    (hst : starEach (e :: es) X.env = (false, eval e X.env) :: starEach es X.env := by rfl) (hpl : (backTo pos (starEach es X.env)).any (·.1) = false := by rfl)
    (ht : MthAs X (.Name x p1) m apos pos (e :: es) pl := by rfl) : YX X W T δ ⟨ps, os ++ rest⟩ (.Call (.Attribute (.Name x p1) m apos) (e :: es) [] pos) Z := fun σ H rl t Q q q2 => by
  obtain ⟨f, fd, pn, F, M, b⟩ := G.ex
  obtain ⟨v, e1, e2⟩ := rl.sl i _ hd
  have e2 : v = .ref z := e2
  subst e2
  obtain ⟨dx, us, g1, g2⟩ := rl.ro.ob z _ hm
  have nl : us.lookup m = none := sfv_none g2 hl
  refine we (pe_mthS (pl := pl) (E := WE W) (pe_var hN hv h1 h2) Cl M F hr b (fun σ => L2N.passAt tk σ) pa_w hst hpl ht) ⟨_, e1, z, dx, us, rfl, g1, nl, ha σ H rl _ fun vs H1 s1 d1 => ?_⟩
  refine callG_end (T := T) (rs := .ad z :: rs) (rl.mono s1) (.cons rfl d1) hf fun r os' H' hr st l => ?_
  have w := hR r os' hr
  cases r with
  | ok r => exact fun v hv => q r _ v H' w ((Stp.of s1).trans st) l hv
  | er Z => exact q2 Z _ H' w ((Stp.of s1).trans st) l
theorem yx_methG0 (i : Nat) {Rr : Rg → Os → Prop} {ps : List Addr} (os rest : Os) {Z : Rg → Om → Prop} (G : GMOk X.prog X.w X.K X.mg X.base k C m fr) (hr : Room k X.A) (tk : L2N.Takes X W) (Cl : Cls X.K C) (hm : (z, Od.ins C fs) ∈ os ++ rest) (hl : (fs.map (·.1)).contains m = false) (hf : fr os [.ad z] Rr)
    (hR : ∀ r os', Rr r os' → Z r ⟨ps, os' ++ rest⟩) (hd : δ[i]? = some (some (.ad z)) := by rfl) (hN : X.N[i]? = some x := by rfl)
    (hv : Vis X.env.scope x := by first | exact Or.inl rfl | exact Or.inr (Or.inl rfl) | exact Or.inr (Or.inr rfl)) (h1 : (x == ("__debug__" : Str)) = false := by decide) (h2 : (x == ("__classdict__" : Str)) = false := by decide) {pl : Sem Bool}
    (ht : MthAs X (.Name x p1) m apos pos [] pl := by rfl) : YX X W T δ ⟨ps, os ++ rest⟩ (.Call (.Attribute (.Name x p1) m apos) [] [] pos) Z := fun σ H rl t Q q q2 => by
  obtain ⟨f, fd, pn, F, M, b⟩ := G.ex
  obtain ⟨v, e1, e2⟩ := rl.sl i _ hd
  have e2 : v = .ref z := e2
  subst e2
  obtain ⟨dx, us, g1, g2⟩ := rl.ro.ob z _ hm
  have nl : us.lookup m = none := sfv_none g2 hl
  refine we (pe_mthS0 (pl := pl) (E := WE W) (pe_var hN hv h1 h2) Cl M F hr b (fun σ => L2N.passAt tk σ) ht) ⟨_, e1, z, dx, us, rfl, g1, nl, ?_⟩
  refine callG_end (T := T) (rs := [.ad z]) rl (.cons rfl .nil) hf fun r os' H' hr st l => ?_
  have w := hR r os' hr
  cases r with
  | ok r => exact fun v hv => q r _ v H' w st l hv
  | er Z => exact q2 Z _ H' w st l
/-- C(..), an __init__ that makes objects -/
theorem yx_makeG {cn : Str} {g : Addr} {fd : FuncData} {pn : List Str} {ps : List Addr} {rest : Os} {Z : Rg → Om → Prop} (M : Mk X.K C g) (F : FnOk X.prog X.w X.K X.mg X.base (L2N.CX X.prog X.w) k g fd pn (spG X.K fr)) (hb : L2.Binds X.K fd pn []) (hr : Room (k + 1) X.A) (tk : L2N.Takes X W) (hmC : X.mg cn = some (.ref C))
    (ha : PSs X δ ⟨ps, rest⟩ (e :: es) rs) (hf : ∀ z, ∃ Rr, fr [(z, .ins C [])] (.ad z :: rs) Rr ∧ ∀ r os', Rr r os' → match r with | .ok r => r = .im .none ∧ Z (.ok (.ad z)) ⟨ps, os' ++ rest⟩ | .er U => Z (.er U) ⟨ps, os' ++ rest⟩) (hg : Gl X cn := by rfl) (hdb : (cn == ("__debug__" : Str)) = false := by decide) (he : starEach (e :: es) X.env = (false, eval e X.env) :: starEach es X.env := by rfl) (hpl : (backTo pos (starEach es X.env)).any (·.1) = false := by rfl) :
    YX X W T δ ⟨ps, rest⟩ (.Call (.Name cn p) (e :: es) [] pos) Z := fun σ H rl t Q q q2 =>
  we (pe_makeS (E := WE W) M F hr hg hmC hb (fun σ => L2N.passAt tk σ) pa_w hdb he hpl) (ha σ H rl _ fun vs H1 s1 d1 z dx nz ndx ne => by
    have rl1 := rl.mono s1
    have sm : Same H1 (upd (upd H1 dx (.own z)) z (.ins C dx [])) := fun b o h => by
      rw [upd_ne (ne_of_none h nz), upd_ne (ne_of_none h ndx)]
      exact h
    have l0 : Rl X.K (upd (upd H1 dx (.own z)) z (.ins C dx [])) σ δ ⟨ps, [(z, .ins C [])] ++ rest⟩ := by
      refine ⟨rl1.len, fun i r hi => ?_, fun b o hz => ?_, ?_, there_mono rl1.ro.th sm⟩
      · obtain ⟨v, h1, h2⟩ := rl1.sl i r hi
        exact ⟨v, h1, sdv_mono (hid_in (ω := ⟨ps, rest⟩) nz sm) h2⟩
      · rcases List.mem_cons.mp hz with w | w
        · cases w
          exact ⟨dx, [], upd_same, .nil⟩
        · exact odv_mono (hid_in (ω := ⟨ps, rest⟩) nz sm) sm (rl1.ro.ob b o w)
      · show (z :: rest.map (·.1)).Nodup
        exact List.nodup_cons.mpr ⟨fun w => new_out rl1.ro.there nz (List.mem_append_right _ w), rl1.ro.nd⟩
    have st0 : Stp T ⟨ps, rest⟩ ⟨ps, [(z, .ins C [])] ++ rest⟩ H1 (upd (upd H1 dx (.own z)) z (.ins C dx [])) := stp_new (ω := ⟨ps, rest⟩) sm nz
    obtain ⟨Rr, hf1, hf2⟩ := hf z
    refine callG_end (T := T) (os := [(z, .ins C [])]) (rest := rest) (rs := .ad z :: rs) l0 (.cons rfl (L2.Paired.mapP d1 fun _ _ w => sdv_mono (hid_in (ω := ⟨ps, rest⟩) nz sm) w)) hf1 fun r os' H' hr st l => ?_
    have w := hf2 r os' hr
    cases r with
    | ok r =>
      intro v hv
      obtain ⟨rfl, w⟩ := w
      cases hv
      exact ⟨rfl, q _ _ _ H' w (((Stp.of s1).trans st0).trans st) l rfl⟩
    | er Z => exact q2 Z _ H' w (((Stp.of s1).trans st0).trans st) l)
/-! ### own lists that stand somewhere -/
theorem pt_truA {xs : List Sd} {ad : Addr} (ha : PS1 X δ ω e (.ad ad)) (hm : (ad, Od.lst xs) ∈ ω.os) (he : ∀ whole, isTrue e X.env whole = (do let v ← whole; standAt e.pos; holding [v] (truthy v)) := by intro _; rfl) : PTd X δ ω e (!xs.isEmpty) := fun σ H r Q q =>
  wt (pt_truth pe_w he) (ha σ H r _ fun v H1 s1 d1 => by
    have d1 : v = .ref ad := d1
    subst d1
    obtain ⟨vs, g1, g2⟩ := (r.mono s1).ro.ob ad _ hm
    refine ⟨!xs.isEmpty, .inl ⟨vs, SqL.of g1, ?_⟩, q H1 s1⟩
    cases g2 <;> rfl)
theorem pd_any {bs : List Bool} (hc : X.calm = true) (hm : X.mg "any" = none) (ha : PL X δ ω a (bs.map .bool)) (hg : Gl X "any" := by rfl)
    (he : starEach [a] X.env = (false, eval a X.env) :: starEach [] X.env := by rfl) : PD X δ ω (.Call (.Name "any" p) [a] [] pos) (.bool (bs.any id)) := fun σ H rl Q k =>
  we (pe_callB (cr_any hc) hg hm (by decide +kernel) (pa_cons pe_w pa_nil he) (he := he)) (ha σ H rl _ fun q vs H1 s1 h1 d1 => by
    have ev : vs = bs.map V.bl := dpa_bl d1
    subst ev
    exact ⟨q, bs, rfl, h1, k _ H1 s1 (.bl _)⟩)
/-- o.append(e), o a list of one's own that stands somewhere -/
theorem sd_appS {ad : Addr} {xs : List Sd} {j : Nat} {apos cpos : Pos} (ho : PS1 X δ ω o (.ad ad)) (hm : ω.os[j]? = some (ad, .lst xs)) (he : PD X δ ω e d) (hk : SD X W T ss δ (putO ω j (ad, .lst (xs ++ [.im d]))) R) (hz : xs.length < 10000)
    (hs : swapsWith (.Call (.Attribute o "append" apos) [e] [] cpos) none pos.line X.env = pure false := by rfl)
    (hbase : attributeBase o "append" X.env (eval o X.env) = eval o X.env := by rfl)
    (hfew : ((backTo cpos (starEach [e] X.env)).all (fun x => !x.1) && (backToKw cpos (keywordEach [] X.env)).all (fun x => x.1.isSome)
      && decide (([e] : List Expr).length + ([] : List Keyword).length + (if ([] : List Keyword).isEmpty then 0 else 1) < 30)) = true := by rfl)
    (hline : (apos.endLine == cpos.line) = true := by rfl) (hst : starEach [e] X.env = (false, eval e X.env) :: starEach [] X.env := by rfl) :
    SD X W T (.Expr (.Call (.Attribute o "append" apos) [e] [] cpos) pos :: ss) δ ω R :=
  sd_cons fun σ H Dd rl t kt => ws (ps_expr (pe_bm PySem.F.plainAttrs_list PySem.F.slot_list_append PySem.F.type_list_append mt_append pe_w (pa_cons pe_w pa_nil hst) hbase hfew hline hst) hs) (ho σ H rl _ fun v H1 s1 d1 => by
    have d1 : v = .ref ad := d1
    subst d1
    obtain ⟨vs, e3, e4⟩ := (rl.mono s1).ro.ob ad _ (at_mem hm)
    refine ⟨.inl ⟨rfl, vs, SqL.of e3⟩, he σ H1 (rl.mono s1) _ fun y H2 s2 d2 => ⟨ad, vs, y, rfl, rfl, s2 ad _ e3, ?_, ?_⟩⟩
    · rw [paired_len e4]
      exact Nat.lt_of_lt_of_le hz (by rw [sizeLine_eq]; decide)
    · have l2 := rl.mono (s1.trans s2)
      have am : ad ∈ ads ω := List.mem_append_right _ (List.mem_map.mpr ⟨_, at_mem hm, rfl⟩)
      have hh : Same (hid (ads ω) H2) (hid (ads ω) (upd H2 ad (.lst (vs ++ [y])))) := fun bb o h => by
        obtain ⟨n, e⟩ := hid_out h
        exact hid_of n (by rw [upd_ne (fun q => n (by rw [q]; exact am))]; exact e)
      obtain ⟨st, l3⟩ := own_at (T := T) (o' := .lst (xs ++ [.im d])) (H' := upd H2 ad (.lst (vs ++ [y]))) l2 hm (s2 ad _ e3) (fun _ q => by cases q) (fun _ _ q => by unfold LamX.CodeO at q; cases q) (fun bb o nb h => by rw [upd_ne nb]; exact h) ⟨_, upd_same, paired_snoc (R := SdV X.K _) (x := Sd.im d) (y := y) (dpm hh d2) (L2.Paired.mapP e4 fun _ _ q => sdv_mono ((hid_same s2).trans hh) q)⟩
      exact kt.nx δ _ σ _ hk ((Stp.of (s1.trans s2)).trans st) l3)
/-- for x in a list of one's own -/
theorem sd_forO (j : Nat) {ad : Addr} {xs : List PyData} (inv : Nat → De → Om → Prop) (he : PS1 X δ ω iter (.ad ad)) (hm : (ad, Od.lst (xs.map .im)) ∈ ω.os) (h0 : inv 0 δ ω) (hin : ∀ i δ' ω', inv i δ' ω' → (ad, Od.lst (xs.map .im)) ∈ ω'.os)
    (hb : ∀ i d δ' ω', xs[i]? = some d → inv i δ' ω' → SD X W T sa (δ'.set j (some (.im d))) ω' (Turn1 inv i (Nxt X W T ss R) R))
    (hd : ∀ δ' ω', inv xs.length δ' ω' → SD X W T ss δ' ω' R) (hg : PG X tg (gName j)) (hp : PassesOwn (model X.prog X.w) X.A X.env X.xe) (hc : X.calm = true) (hs : ∀ x, foldedSetIterable iter X.env x = pure x := by intro _; rfl) : SD X W T (.For tg iter sa [] pos :: ss) δ ω R := by
  refine sd_cons fun σ H D rl t k => ws (ps_for hp hc (pi_list pe_w) hg pss_w hs) (he σ H rl _ fun v H1 s1 d1 => ?_)
  have d1 : v = .ref ad := d1
  subst d1
  obtain ⟨vs0, g0, _⟩ := (rl.mono s1).ro.ob ad _ hm
  refine ⟨ad, rfl, ⟨vs0, SqL.of g0⟩, ?_⟩
  refine ⟨fun i m σ' H' => ∃ δ' ω', m = xs.length - i ∧ i ≤ xs.length ∧ inv i δ' ω' ∧ Stp T ω ω' H1 H' ∧ Rl X.K H' σ' δ' ω', ⟨xs.length, δ, ω, by omega, Nat.zero_le _, h0, .refl, rl.mono s1⟩, ?_⟩
  rintro i m σ' H' ⟨δ', ω', em, hi, iv, st, rl'⟩
  obtain ⟨vs, g1, g2⟩ := rl'.ro.ob ad _ (hin i δ' ω' iv)
  have g3 := dpa_im g2
  have k1 := k.step (Stp.of s1 : Stp T ω ω H H1)
  by_cases hlt : i < xs.length
  · obtain ⟨y, ey, dy⟩ := dpa_get g3 (List.getElem?_eq_getElem hlt)
    refine .inr ⟨⟨vs, y, SqL.of g1, ey⟩, fun σ2 H2 => ∃ δ2 ω2, inv (i + 1) δ2 ω2 ∧ Stp T ω ω2 H1 H2 ∧ Rl X.K H2 σ2 δ2 ω2, fun σ2 H2 ⟨δ2, ω2, a1, a2, a3⟩ => ⟨xs.length - (i + 1), by omega, δ2, ω2, rfl, hlt, a1, a2, a3⟩, fun x H2 hy => ?_⟩
    obtain ⟨e2, e3⟩ := hy
    subst e2
    have e4 := e3 vs (SqL.of g1)
    rw [ey] at e4
    cases e4
    refine hb i _ δ' ω' (List.getElem?_eq_getElem hlt) iv _ _ _ (rl'.set (x := .im _) dy) (st.tab (t.ext s1)) ?_
    have k2 := k1.step st
    exact ⟨fun δ2 ω2 σ2 H2 z q l => ⟨δ2, ω2, z, st.trans q, l⟩, fun r ω2 v H2 z q l dv => k2.rt r ω2 v H2 z q l dv, fun C ω2 σ2 H2 z q l => k2.ex C ω2 σ2 H2 z q l, fun δ2 ω2 σ2 H2 z q l => k2.nx δ2 ω2 σ2 H2 z q l, fun δ2 ω2 σ2 H2 z q l => ⟨δ2, ω2, z, st.trans q, l⟩⟩
  · have e : i = xs.length := by omega
    subst e
    exact .inl ⟨⟨vs, SqL.of g1, Nat.le_of_eq (dpa_len g3)⟩, (k1.step st).nx δ' ω' σ' H' (hd δ' ω' iv) .refl rl'⟩
/-- a if c else b, whatever they are -/
theorem ex_if {kk : Bool} (h : PTd X δ ω c kk) (h1 : kk = true → EX X W T a δ ω R) (h2 : kk = false → EX X W T b δ ω R) : EX X W T (.IfExp c a b pos) δ ω R := fun σ H rl t Q q q2 =>
  we (pe_ifExp pt_w pe_w pe_w) (h σ H rl _ fun H1 s1 => by
    have go : EX X W T a δ ω R → wpe X a σ H1 Q := fun g => g σ H1 (rl.mono s1) (t.ext s1) Q (fun r ω' v H' z st l dv => q r ω' v H' z ((Stp.of s1).trans st) l dv) (fun C ω' σ' H' z st l => q2 C ω' σ' H' z ((Stp.of s1).trans st) l)
    have go2 : EX X W T b δ ω R → wpe X b σ H1 Q := fun g => g σ H1 (rl.mono s1) (t.ext s1) Q (fun r ω' v H' z st l dv => q r ω' v H' z ((Stp.of s1).trans st) l dv) (fun C ω' σ' H' z st l => q2 C ω' σ' H' z ((Stp.of s1).trans st) l)
    cases kk with
    | true => exact iteT (go (h1 rfl))
    | false => exact iteF (go2 (h2 rfl)))
end
end FP

namespace FP
open PySem PySem.Spec PyProof.Rows L2 HotX L2H
section
variable {X : Cx} {T : List (Addr × Str)} {δ : De} {ω : Om} {d : PyData} {pos p : Pos} {k : Nat}
/-- a told lambda, whatever it hands back -/
theorem yx_told {Rz : Sd → Om → Prop} {x a e n wd : Str} {st : Stmt} {Ng : List Str} {CS : Addr} {fw : Addr → PyData → Prop} {p1 p2 p3 p4 p5 p6 p7 p8 p9 p10 lpos : Pos} {params : Arguments} {body : Expr} {scope : Scope} (G : Told X.K X.mg x st) (L : LamT X T) (hT : T ≠ []) (hps : ω.ps = []) (hr : Room (k + 2) X.A)
    (WK : WordOk X.prog X.w X.K X.mg X.base (k + 1) wd fw)
    (hst : defBody st = [.Try [.Return (some (.Call (.Name a p1) [] [] p2)) p3] [.ExceptHandler (some (.Name e p4)) (some n) [.Return (some (.Call (.Name wd p5) [.Name n p6] [] p7)) p8] p9] [] [] p10]) (S : FnScope Ng [a] (defScope st)) (hNd : Ng.Nodup) (hNg : Ng[0]? = some a) (hva : Vis (defScope st) a)
    (hN1 : Ng[1]? = some n) (hkn : (defScope st).names.lookup n = some .local) (hge : (defScope st).names.lookup e = some .globalImplicit) (hgw : (defScope st).names.lookup wd = some .globalImplicit) (hme : X.mg e = some (.ref CS))
    (hbn : ∀ (kV doc pm : Value) (an : Option Addr) (cdv ct : Value) (us : List Value), us.length = [a].length → bindArgs (PySem.W.fnOf x x (defArgs st) (defBody st) (defScope st) .none kV doc pm an cdv ct) ⟨us, []⟩ = pure ([a].zip us))
    (hb : ∀ (A : Around) (outer : List Env) (s : Shared) (H : Hp) (E : XK) (f c' : Addr), Room k (A.deeper (LamX.lamEnv X scope s.heap.objs.size f c')) → YX (lamN X A outer s H E scope f c') (WOf E) T δ ω body (fun r ω1 => match r with | .ok r' => Rz r' ω1 | .er Z => PySem.W.exmOne X.K (.ref Z) (.ref CS) = some true ∧ ∃ d, fw Z d ∧ Rz (.im d) ω1))
    (hL : LamX.LamS X.env.scope scope) (hdef : defaultsOf params X.env = ([], []) := by rfl) (hbind : ∀ (q : Str) (cl : List (Str × Addr)) (pm cv ctv : Value), bindArgs (PySem.W.kla_fn "<lambda>" q params body scope cl pm cv ctv) ⟨[], []⟩ = pure [] := by intros; rfl)
    (hg : Gl X x := by rfl) (hdb : (x == ("__debug__" : Str)) = false := by decide) (hd1 : (a == ("__debug__" : Str)) = false := by decide) (hcd1 : (a == ("__classdict__" : Str)) = false := by decide) (hde : (e == ("__debug__" : Str)) = false := by decide) (hdw : (wd == ("__debug__" : Str)) = false := by decide)
    (hdn : (n == ("__debug__" : Str)) = false := by decide) (hcn : (n == ("__classdict__" : Str)) = false := by decide) : YX X (fun _ _ _ _ => False) T δ ω (.Call (.Name x p) [.Lambda params body scope lpos] [] pos) (fun r ω1 => ∃ r', r = .ok r' ∧ Rz r' ω1) := fun σ H rl tb Q q _ => by
  obtain ⟨g, fd, F, hm⟩ := G.ex
  obtain ⟨c, P, TB, hcode, hmT, hu⟩ := L.ex
  have hbs := FunD.bindsN (ps := [a]) F hbn
  have kp := F.kp
  obtain ⟨oc, od, dV, kV, doc, pm, an, cdv, ct, osl, rfl, lk, hcd, hD, hK⟩ := F.ex
  unfold wpe
  intro pins s I
  refine wpAny_Call_Name_kw (ld_glob I hg hm ?_ hdb)
  refine PySem.W.callWith_K (h₀ := X.base) I.ok.mod.kin kp ?_ (by rfl) (by rfl)
  show wpAny _ _ (spliced ((false, eval (.Lambda params body scope lpos) X.env) :: backTo pos (starEach [] X.env))) _ _ s
  refine Calls.spliced_cons (LamX.lam_make2 I TB hcode hmT hu tb hdef (hL.has I.ok) fun f c' pm' ctv H1 s' I1 eN T1 hf hfn hfr hco => Calls.spliced_nil ⟨I1.kIn, ?_⟩)
  have rl1 : Rl X.K H1 σ δ ω := rl_ext (T := T) eN hps rl
  have st0 : Stp T ω ω H H1 := ⟨fun b o h _ p => eN b o h (p.resolve_left hT), fun a h => .inl h, rfl, fun _ => T1⟩
  have done : ∀ r ω1 v H2, Rz r ω1 → Stp T ω ω1 H1 H2 → Rl X.K H2 σ δ ω1 → SdV X.K (hid (ads ω1) H2) r v → Q v H2 := fun r ω1 v H2 z s2 l2 d2 => q r ω1 v H2 ⟨r, rfl, z⟩ (st0.trans s2) l2 d2
  refine wpAny_call (codeAny_mono (R := CR C8.CX0 X.stack X.prog X.w H1 s' Q C8.E0) (LamX.run_ofS (N := Ng) (ps := [a]) (us := [.ref f]) (vs := [.ref f]) lk hcd S hr I1.env0 (hbs s' [.ref f] I1.kIn rfl) (.cons rfl .nil) rfl fun hr' => ?_) fun rr s2 z => ?_)
  · rw [hst]
    -- the def's own context
    have tryW := L2N.ps_try_as (X := (cxOf C8.CX0 X.prog X.w X.K X.mg X.base Ng x (defScope st) g cdv X.A X.stack s' H1 C8.E0).nox) (x := e) (n := n) (c := .ref CS) (i := 1) (np := p4) (pos := p10) (pos' := p9) (b₀ := .Return (some (.Call (.Name wd p5) [.Name n p6] [] p7)) p8) (suite := [])
      (body := [.Return (some (.Call (.Name a p1) [] [] p2)) p3]) (Wout := fun _ _ _ _ => False)
      (tb := fun W D τ G => τ[0]? = some (some (.ref f)) ∧ G c' = some (LamX.CodeO c' (X.env.qual ++ "<lambda>")) ∧ ∀ (A : Around) (outer : List Env) (t : Shared), Room k (A.deeper (LamX.lamEnv X scope t.heap.objs.size f c')) → wpe (lamN X A outer t G (WE W τ) scope f c') body σ G D.rt)
      (ts := fun b cls dd D τ G => ∃ C d ω1, cls = .ref C ∧ dd = none ∧ fw C d ∧ τ[1]? = some (some (.ref b)) ∧ (∀ a ∈ ads ω1, G a ≠ none) ∧ ∀ v G', Same G G' → Dp X.K (hid (ads ω1) G') v d → D.rt v G')
      rfl rfl hNd hN1 hkn ⟨hge, hde, .inl hme⟩ takesF
      (fun W pn xe tk _ => pss_one (ps_ret (pe_lamN (X := X) (Z := ((cxOf C8.CX0 X.prog X.w X.K X.mg X.base Ng x (defScope st) g cdv X.A X.stack s' H1 C8.E0).nox).tr pn xe) rfl rfl rfl rfl rfl rfl rfl rfl rfl I1 hL hf hfn hfr (hbind _ _ _ _ _) tk hr' hNg hva hd1 hcd1)))
      (fun b oe cls dd pn hz hfd => ⟨fun pins2 s2 τ G D J h => ?_⟩)
    · refine ⟨_, (pss_one tryW).nox, ?_⟩
      refine ⟨rfl, hco, fun A outer t hr2 => ?_⟩
      refine hb A outer t H1 _ f c' hr2 σ H1 rl1 T1 Q (fun r ω1 v H2 z s2 l2 dv => ?_) (fun C ω1 H2 z s2 l2 => ?_)
      · exact done r ω1 v H2 z s2 l2 dv
      · obtain ⟨hx, d, hfw, z⟩ := z
        exact ⟨true, hx, fun _ b nb => ⟨C, d, ω1, rfl, rfl, hfw, by
          rw [List.getElem?_set_self]
          unfold L2.start
          have := (List.getElem?_eq_some_iff.mp hN1).1
          simp
          omega, l2.ro.there, fun v G' s3 dv => done (.im d) ω1 v G' z (s2.trans (.of s3)) (l2.mono s3) dv⟩, fun z => by cases z⟩
    · obtain ⟨C, d, ω1, rfl, rfl, hfw, h1, h2, h3⟩ := h
      obtain ⟨vs, hv⟩ := hfd
      have pw := pe_word (X := ((cxOf C8.CX0 X.prog X.w X.K X.mg X.base Ng x (defScope st) g cdv X.A X.stack s' H1 C8.E0).nox).suite b ((b, oe) :: pn)) (q := (b, oe)) (i := 1) (p5 := p5) (p6 := p6) (p7 := p7) WK ⟨(roomH_of hr').dp, (roomH_of hr').un⟩ ⟨rfl, vs, hv, hz.2.2 vs hv⟩ List.mem_cons_self hz.1 hz.2.1 hfw hgw hN1 (.inl hkn) hdw hdn hcn
      exact (pss_one (ps_ret (pos := p8) pw)).run pins2 s2 τ G D J ⟨h1, ads ω1, h2, h3⟩
  · cases rr with
    | error e => exact False.elim z
    | ok fl =>
      cases fl with
      | ret u => exact I1.after z
      | next => exact False.elim z
      | brk => exact False.elim z
      | cont => exact False.elim z
theorem ze_told {Rz : PyData → Om → Prop} {x a e n wd : Str} {st : Stmt} {Ng : List Str} {CS : Addr} {fw : Addr → PyData → Prop} {p1 p2 p3 p4 p5 p6 p7 p8 p9 p10 lpos : Pos} {params : Arguments} {body : Expr} {scope : Scope} (G : Told X.K X.mg x st) (L : LamT X T) (hT : T ≠ []) (hps : ω.ps = []) (hr : Room (k + 2) X.A)
    (WK : WordOk X.prog X.w X.K X.mg X.base (k + 1) wd fw)
    (hst : defBody st = [.Try [.Return (some (.Call (.Name a p1) [] [] p2)) p3] [.ExceptHandler (some (.Name e p4)) (some n) [.Return (some (.Call (.Name wd p5) [.Name n p6] [] p7)) p8] p9] [] [] p10]) (S : FnScope Ng [a] (defScope st)) (hNd : Ng.Nodup) (hNg : Ng[0]? = some a) (hva : Vis (defScope st) a)
    (hN1 : Ng[1]? = some n) (hkn : (defScope st).names.lookup n = some .local) (hge : (defScope st).names.lookup e = some .globalImplicit) (hgw : (defScope st).names.lookup wd = some .globalImplicit) (hme : X.mg e = some (.ref CS))
    (hbn : ∀ (kV doc pm : Value) (an : Option Addr) (cdv ct : Value) (us : List Value), us.length = [a].length → bindArgs (PySem.W.fnOf x x (defArgs st) (defBody st) (defScope st) .none kV doc pm an cdv ct) ⟨us, []⟩ = pure ([a].zip us))
    (hb : ∀ (A : Around) (outer : List Env) (s : Shared) (H : Hp) (E : XK) (f c' : Addr), Room k (A.deeper (LamX.lamEnv X scope s.heap.objs.size f c')) → YX (lamN X A outer s H E scope f c') (WOf E) T δ ω body (fun r ω1 => match r with | .ok (.im d) => Rz d ω1 | .ok (.ad _) => False | .er Z => PySem.W.exmOne X.K (.ref Z) (.ref CS) = some true ∧ ∃ d, fw Z d ∧ Rz d ω1))
    (hL : LamX.LamS X.env.scope scope) (hdef : defaultsOf params X.env = ([], []) := by rfl) (hbind : ∀ (q : Str) (cl : List (Str × Addr)) (pm cv ctv : Value), bindArgs (PySem.W.kla_fn "<lambda>" q params body scope cl pm cv ctv) ⟨[], []⟩ = pure [] := by intros; rfl)
    (hg : Gl X x := by rfl) (hdb : (x == ("__debug__" : Str)) = false := by decide) (hd1 : (a == ("__debug__" : Str)) = false := by decide) (hcd1 : (a == ("__classdict__" : Str)) = false := by decide) (hde : (e == ("__debug__" : Str)) = false := by decide) (hdw : (wd == ("__debug__" : Str)) = false := by decide)
    (hdn : (n == ("__debug__" : Str)) = false := by decide) (hcn : (n == ("__classdict__" : Str)) = false := by decide) : ZE X T δ ω (.Call (.Name x p) [.Lambda params body scope lpos] [] pos) Rz :=
  YX.ze (YX.imp (yx_told (Rz := fun r ω1 => match r with | .im d => Rz d ω1 | .ad _ => False) G L hT hps hr WK hst S hNd hNg hva hN1 hkn hge hgw hme hbn (fun A outer s H E f c' hr' => YX.imp (hb A outer s H E f c' hr') fun r ω1 z => by
    cases r with
    | ok r => cases r <;> exact z
    | er Z => exact z) hL hdef hbind hg hdb hd1 hcd1 hde hdw hdn hcn) fun r ω1 z => by
    obtain ⟨r', rfl, z⟩ := z
    cases r' <;> exact z)
end
/-! ### [elt for tg in iter if c] -/
def pick (sel : List (Option PyData)) : List PyData := sel.filterMap id
theorem pick_snoc {sel : List (Option PyData)} {i : Nat} {s : Option PyData} (h : sel[i]? = some s) : pick (sel.take (i + 1)) = pick (sel.take i) ++ s.toList := by
  unfold pick
  rw [List.take_add_one, h, List.filterMap_append]
  cases s <;> rfl
theorem pick_len (sel : List (Option PyData)) : (pick sel).length ≤ sel.length := List.length_filterMap_le _ _
section
variable {X : Cx} {W : WX} {T : List (Addr × Str)} {δ : De} {ω : Om} {a b c e tg iter : Expr} {es : List Expr} {d : PyData} {ds : List PyData} {pos p : Pos} {R : Out → Prop} {ss : List Stmt} {x : Str}
theorem lc_dataIf {σ : L2.St} {H : Hp} {Q : VK} {wi : TI} {j : Nat} {te : TE} {tt : TT} {items : List PyData} {sel : List (Option PyData)} (rl : Rl X.K H σ δ ω)
    (hw : ∀ R : It → Hp → Prop, (∀ J H', Same H H' → Wk X.K (Same H') (hid (ads ω) H') J items → R J H') → wi σ H R) (hl : sel.length = items.length) (hz : items.length ≤ 10000)
    (ht : ∀ (i : Nat) (d : PyData) (s : Option PyData), items[i]? = some d → sel[i]? = some s → ∀ D o σ' H', Rl X.K H' σ' (δ.set j (some (.im d))) (omD ω D o) → ∀ Q : Bool → Hp → Prop, (∀ H2, Same H' H2 → Q s.isSome H2) → tt σ' H' Q)
    (he : ∀ (i : Nat) (d y : PyData), items[i]? = some d → sel[i]? = some (some y) → ∀ D o σ' H', Rl X.K H' σ' (δ.set j (some (.im d))) (omD ω D o) → ∀ Q : VK, (∀ v H2, Same H' H2 → Dp X.K (hid (ads (omD ω D o)) H2) v y → Q v H2) → te σ' H' Q)
    (k : ∀ p vs H', Same H H' → H p = none → H' p = some (.lst vs) → DpAll X.K (hid (p :: ads ω) H') vs (pick sel) → Q (.ref p) H') :
    tLc wi (gName j) tt te [j] σ H Q := by
  refine hw _ fun J H1 s1 w => fun D hD => ?_
  have rl1 := rl.mono s1
  refine ⟨fun i m H2 => m = items.length - i ∧ i ≤ items.length ∧ Same H1 H2 ∧ ∃ vs, H2 D = some (.lst vs) ∧ DpAll X.K (hid (ads (FP.omD ω D (.lst ((pick (sel.take i)).map .im)))) H2) vs (pick (sel.take i)), ⟨items.length, by omega, Nat.zero_le _, same_new hD, [], upd_same, ?_⟩, ?_⟩
  · rw [List.take_zero]
    exact .nil
  rintro i m H2 ⟨em, hi, s2, vs, hv, dv⟩
  obtain ⟨go, stop, yld⟩ := w H2 s2
  by_cases hlt : i < items.length
  · refine .inr ⟨go i hlt, fun H3 => Same H1 H3 ∧ ∃ vs, H3 D = some (.lst vs) ∧ DpAll X.K (hid (ads (FP.omD ω D (.lst ((pick (sel.take (i + 1))).map .im)))) H3) vs (pick (sel.take (i + 1))), fun H3 ⟨s3, h3⟩ => ⟨items.length - (i + 1), by omega, rfl, hlt, s3, h3⟩, fun x H3 hy => ?_⟩
    obtain ⟨e3, d, ed, dx⟩ := yld i x H3 hlt hy
    subst e3
    have hys : i < sel.length := by omega
    have ey : sel[i]? = some sel[i] := List.getElem?_eq_getElem hys
    show wipe (((wipe σ [j])).set j (some x)) [j] = wipe σ [j] ∧ _
    have ew : wipe σ [j] = σ.set j none := rfl
    refine ⟨?_, ?_⟩
    · show (((σ.set j none).set j (some x)).set j none) = σ.set j none
      rw [List.set_set, List.set_set]
    show tt (((wipe σ [j])).set j (some x)) H3 _
    rw [ew, List.set_set]
    have rl3 := (rl1.omD hD s2 hv dv)
    have rl4 := rl3.set (i := j) (x := .im d) (v := x) (dpm (hid_in hD s2) dx)
    generalize hsel : sel[i] = sv at ey
    refine ht i d sv ed ey D _ _ _ rl4 _ fun H4 s4 => ?_
    cases sv with
    | none =>
      refine iteF ⟨s2.trans s4, vs, s4 D _ hv, ?_⟩
      rw [pick_snoc ey]
      show DpAll _ _ vs (pick (sel.take i) ++ [])
      rw [List.append_nil]
      exact dpam (hid_same s4) dv
    | some y =>
      refine iteT (he i d y ed ey D _ _ _ (rl4.mono s4) _ fun v H5 s5 d5 => ⟨vs, s5 D _ (s4 D _ hv), ?_, same_upd_new hD ((s2.trans s4).trans s5), vs ++ [v], upd_same, ?_⟩)
      · rw [dpa_len dv]
        refine Nat.lt_of_le_of_lt (pick_len _) ?_
        rw [List.length_take]
        refine Nat.lt_of_le_of_lt (Nat.min_le_left _ _) (Nat.lt_of_lt_of_le hlt (Nat.le_trans hz ?_))
        rw [sizeLine_eq]
        decide
      · rw [pick_snoc ey]
        exact dpa_app (dpam hid_upd (dpam (hid_same (s4.trans s5)) dv)) (.cons (dpm hid_upd d5) .nil)
  · have e : i = items.length := by omega
    subst e
    refine .inl ⟨stop, ?_⟩
    rw [List.take_of_length_le (by omega)] at dv
    exact k D vs H2 (s1.trans s2) (s1.free hD) hv (dpam (hid_more fun b h => ads_omD.mpr (List.mem_cons.mp h)) dv)
def tBlkT (X : Cx) (scope : Scope) (c : Expr) : TT := fun σ H Q => ∀ (s : Shared) (H0 : Hp) (C : Addr) (cl : List (Str × Addr)) (fp : List Addr), wpt (X.blk s H0 scope (compEnvC scope cl C X.env) fp) c σ H Q
theorem pts_blk {scope : Scope} {c : Expr} (s : Shared) (H0 : Hp) (C : Addr) (cl : List (Str × Addr)) (fp : List Addr) : PTs (X.blk s H0 scope (compEnvC scope cl C X.env) fp) [c] (tBlkT X scope c) := pts_one ⟨fun pins s' σ H Q I h => pt_w.run pins s' σ H Q I (h s H0 C cl fp)⟩
theorem pn_lcIf {elt : Expr} {scope : Scope} {y : Str} {j : Nat} {items : List PyData} {sel : List (Option PyData)} (hc : X.calm = true) (hN : X.N.Nodup) (hw : PWs X δ ω tg iter items) (hl : sel.length = items.length) (ok : BlkOk X.N X.env.scope scope [(y, j)])
    (hg : ∀ (s : Shared) (H : Hp) (C : Addr) (cl : List (Str × Addr)) (fp : List Addr), PG (X.blk s H scope (compEnvC scope cl C X.env) fp) tg (gName j))
    (ht : ∀ (i : Nat) (d : PyData) (s : Option PyData), items[i]? = some d → sel[i]? = some s → ∀ D o (sh : Shared) (H : Hp) (C : Addr) (cl : List (Str × Addr)) (fp : List Addr), PTd (X.blk sh H scope (compEnvC scope cl C X.env) fp) (δ.set j (some (.im d))) (omD ω D o) c s.isSome)
    (he : ∀ (i : Nat) (d y : PyData), items[i]? = some d → sel[i]? = some (some y) → ∀ D o (s : Shared) (H : Hp) (C : Addr) (cl : List (Str × Addr)) (fp : List Addr), PD (X.blk s H scope (compEnvC scope cl C X.env) fp) (δ.set j (some (.im d))) (omD ω D o) elt y)
    (hz : items.length ≤ 10000) (hs : ∀ x, foldedSetIterable iter X.env x = pure x := by intro _; rfl) : PN X δ ω (.ListComp elt [⟨tg, iter, [c], 0⟩] scope pos) (pick sel) := fun σ H rl Q k => by
  obtain ⟨wi, h1, h2⟩ := hw
  refine we (pe_lc (own := [(y, j)]) hc hN h1 ok hg (fun s H0 C cl fp => pts_blk s H0 C cl fp) (fun s H0 C cl fp => pe_blk s H0 C cl fp) hs) ?_
  exact lc_dataIf rl (fun R kk => h2 σ H rl R kk) hl hz (fun i d sv hd hy D o σ' H' rl' Q' k' s H0 C cl fp => ht i d sv hd hy D o s H0 C cl fp σ' H' rl' Q' k') (fun i d y hd hy D o σ' H' rl' Q' k' s H0 C cl fp => he i d y hd hy D o s H0 C cl fp σ' H' rl' Q' k') k
/-- x = [elt for tg in iter if c], a list of one's own -/
theorem sd_ownLcIf (i : Nat) {py cpos : Pos} {elt : Expr} {scope : Scope} {y : Str} {j : Nat} {items : List PyData} {sel : List (Option PyData)} (hc : X.calm = true) (hN : X.N.Nodup) (hw : PWs X δ ω tg iter items) (hl : sel.length = items.length) (ok : BlkOk X.N X.env.scope scope [(y, j)])
    (hg : ∀ (s : Shared) (H : Hp) (C : Addr) (cl : List (Str × Addr)) (fp : List Addr), PG (X.blk s H scope (compEnvC scope cl C X.env) fp) tg (gName j))
    (ht : ∀ (i : Nat) (d : PyData) (s : Option PyData), items[i]? = some d → sel[i]? = some s → ∀ D o (sh : Shared) (H : Hp) (C : Addr) (cl : List (Str × Addr)) (fp : List Addr), PTd (X.blk sh H scope (compEnvC scope cl C X.env) fp) (δ.set j (some (.im d))) (omD ω D o) c s.isSome)
    (he : ∀ (i : Nat) (d y : PyData), items[i]? = some d → sel[i]? = some (some y) → ∀ D o (s : Shared) (H : Hp) (C : Addr) (cl : List (Str × Addr)) (fp : List Addr), PD (X.blk s H scope (compEnvC scope cl C X.env) fp) (δ.set j (some (.im d))) (omD ω D o) elt y)
    (hz : items.length ≤ 10000) (hk : ∀ D, SD X W T ss (δ.set i (some (.ad D))) (omD ω D (.lst ((pick sel).map .im))) R) (hsw : swapsWith (.ListComp elt [⟨tg, iter, [c], 0⟩] scope cpos) (some (.Name x py)) pos.line X.env = pure true := by rfl)
    (hy : X.N[i]? = some x := by rfl) (hyl : X.env.scope.names.lookup x = some .local := by rfl) (hs : ∀ x, foldedSetIterable iter X.env x = pure x := by intro _; rfl) : SD X W T (.Assign [.Name x py] (.ListComp elt [⟨tg, iter, [c], 0⟩] scope cpos) pos :: ss) δ ω R := by
  obtain ⟨wi, h1, h2⟩ := hw
  refine sd_cons fun σ H D rl t k => ws (ps_setLc (i := i) (own := [(y, j)]) hc hN hy hyl hsw h1 ok hg (fun s H0 C cl fp => pts_blk s H0 C cl fp) (fun s H0 C cl fp => pe_blk s H0 C cl fp) hs) ?_
  refine lc_dataIf rl (fun R kk => h2 σ H rl R kk) hl hz (fun i d sv hd hy D o σ' H' rl' Q' k' s H0 C cl fp => ht i d sv hd hy D o s H0 C cl fp σ' H' rl' Q' k') (fun i d y hd hy D o σ' H' rl' Q' k' s H0 C cl fp => he i d y hd hy D o s H0 C cl fp σ' H' rl' Q' k') (fun q vs H' s n hv dv => ?_)
  have rl2 : Rl X.K H' σ δ (omD ω q (.lst ((pick sel).map .im))) := rl.omD n s hv (dpam (hid_more fun b h => List.mem_cons.mpr (ads_omD.mp h)) dv)
  exact k.nx _ _ _ H' (hk q) (stp_new s n) (rl2.set (x := .ad q) (v := .ref q) rfl)
end
end FP

namespace FP
open PySem PySem.Spec PyProof.Rows L2 HotX L2H
theorem call_str_bool {X : Cx} : CallR X (.type "str") (fun xs H Q => ∃ b, xs = [.bl b] ∧ Q (.str (if b then "True" else "False")) H) := by
  intro pins s σ H xs us Q I r h
  obtain ⟨b, rfl, q⟩ := h
  obtain ⟨u, rfl, r1⟩ := vals1 r
  cases r1
  exact PySem.P.str_of_bool ⟨.str _, H, I.tok _, ⟨_, rfl⟩, q⟩
def boolS (b : Bool) : Str := if b then "True" else "False"
/-- an own object at the end -/
abbrev omB (ω : Om) (D : Addr) (o : Od) : Om := ⟨ω.ps, ω.os ++ [(D, o)]⟩
section
variable {X : Cx} {W : WX} {T : List (Addr × Str)} {δ : De} {ω ω1 : Om} {a b c e o iter tg : Expr} {es : List Expr} {d : PyData} {ds : List PyData} {r : Sd} {rs : List Sd} {pos p p1 apos : Pos} {R : Out → Prop} {ss sa sb : List Stmt} {x m : Str} {k : Nat} {Z : PyData → Om → Prop}
theorem ze_strB (h : ZE X T δ ω a (fun da ω' => ∃ b, da = .bool b ∧ Z (.str (boolS b)) ω')) (hm : X.mg "str" = none) (hg : Gl X "str" := by rfl) (he : starEach [a] X.env = (false, eval a X.env) :: starEach [] X.env := by rfl) : ZE X T δ ω (.Call (.Name "str" p) [a] [] pos) Z := fun σ H rl t Q q =>
  we (pe_callTy call_str_bool hg hm (by decide +kernel) (pa_cons pe_w pa_nil he) (he := he)) (h σ H rl t _ fun da ω' v H1 z s1 l1 d1 => by
    obtain ⟨b, rfl, z⟩ := z
    cases d1
    exact ⟨b, rfl, q _ ω' _ H1 z s1 l1 (.str _)⟩)
theorem pd_strB {b : Bool} (h : PD X δ ω a (.bool b)) (hm : X.mg "str" = none) (hg : Gl X "str" := by rfl) (he : starEach [a] X.env = (false, eval a X.env) :: starEach [] X.env := by rfl) : PD X δ ω (.Call (.Name "str" p) [a] [] pos) (.str (boolS b)) := fun σ H rl Q q =>
  we (pe_callTy call_str_bool hg hm (by decide +kernel) (pa_cons pe_w pa_nil he) (he := he)) (h σ H rl _ fun v H1 s1 d1 => by
    cases d1
    exact ⟨b, rfl, q _ H1 s1 (.str _)⟩)
theorem ze_ixT (ha : ZE X T δ ω a (fun da ω1 => ∃ ds i d, da = .tuple ds ∧ PD X δ ω1 b (.int i) ∧ atI ds i = some d ∧ Z d ω1)) (hs : PlainIx b := by exact fun _ _ => rfl) : ZE X T δ ω (.Subscript a b pos) Z := fun σ H rl t Q q =>
  we (pe_ix ix_tup pe_w pe_w hs) (ha σ H rl t _ fun da ω1 v H1 z s1 l1 d1 => by
    obtain ⟨ds, i, d, rfl, hb, hi, z⟩ := z
    refine hb σ H1 l1 _ fun y H2 s2 d2 => ?_
    cases d2
    cases d1 with
    | tup g1 g2 =>
      obtain ⟨u, h1, h2⟩ := atI_dp g2 hi
      exact ⟨_, _, _, u, rfl, rfl, same_sqt s2 (same_sqt hid_sub g1), h1, q d ω1 u H2 z (s1.trans (.of s2)) (l1.mono s2) (dpm (hid_same s2) h2)⟩)
theorem rd_isntB {K : PySem.W.Frag} {a b : Bool} : RD K (fun x y H Q => ∃ a b, x = .bl a ∧ y = .bl b ∧ Q (.bl (!decide (a = b))) H) (.bool a) (.bool b) (.bool (!decide (a = b))) := fun ps x y H _ hx hy Q q => by
  cases hx
  cases hy
  exact ⟨a, b, rfl, rfl, q _ H (Same.refl H) (.bl _)⟩
theorem rd_isB {K : PySem.W.Frag} {a b : Bool} : RD K (fun x y H Q => ∃ a b, x = .bl a ∧ y = .bl b ∧ Q (.bl (decide (a = b))) H) (.bool a) (.bool b) (.bool (decide (a = b))) := fun ps x y H _ hx hy Q q => by
  cases hx
  cases hy
  exact ⟨a, b, rfl, rfl, q _ H (Same.refl H) (.bl _)⟩
/-! ### a comprehension whose elements write -/
theorem Rl.keep {H H' : Hp} {σ : L2.St} {ω ω' : Om} (rl : Rl X.K H σ δ ω) (st : Stp T ω ω' H H') (ro : Ro X.K H' ω') : Rl X.K H' σ δ ω' := ⟨rl.len, fun i r hi => by
  obtain ⟨v, h1, h2⟩ := rl.sl i r hi
  exact ⟨v, h1, stp_sd (X := X) st h2⟩, ro⟩
theorem Rl.permO {H : Hp} {σ : L2.St} {ps : List Addr} {os os' : Os} (hp : os.Perm os') (rl : Rl X.K H σ δ ⟨ps, os⟩) : Rl X.K H σ δ ⟨ps, os'⟩ := by
  have hma : ∀ a, a ∈ os.map (·.1) ↔ a ∈ os'.map (·.1) := fun a => (hp.map _).mem_iff
  have hh : hid (ads ⟨ps, os⟩) H = hid (ads ⟨ps, os'⟩) H := by
    funext b
    unfold hid
    have e : b ∈ ads ⟨ps, os⟩ ↔ b ∈ ads ⟨ps, os'⟩ := by
      show b ∈ ps ++ os.map (·.1) ↔ b ∈ ps ++ os'.map (·.1)
      rw [List.mem_append, List.mem_append, hma]
    by_cases h : b ∈ ads ⟨ps, os⟩
    · rw [if_pos h, if_pos (e.mp h)]
    · rw [if_neg h, if_neg (fun z => h (e.mpr z))]
  refine ⟨rl.len, fun i r hi => ?_, fun z o hz => ?_, (hp.map _).nodup rl.ro.nd, rl.ro.th⟩
  · obtain ⟨v, h1, h2⟩ := rl.sl i r hi
    rw [hh] at h2
    exact ⟨v, h1, h2⟩
  · have g := rl.ro.ob z o (hp.mem_iff.mpr hz)
    rw [hh] at g
    exact g
theorem stp_perm {H H' : Hp} {ps : List Addr} {os os' : Os} {ω : Om} (hp : os.Perm os') (st : Stp T ω ⟨ps, os⟩ H H') : Stp T ω ⟨ps, os'⟩ H H' := ⟨st.keep, fun a ha => st.new a ((hp.map _).mem_iff.mpr ha), st.ps, st.tab⟩
theorem lc_X {σ : L2.St} {H : Hp} {Q : VK} {wi : TI} {j : Nat} {te : TE} {items ys : List PyData} {ωs : Nat → Om} (rl : Rl X.K H σ δ (ωs 0)) (tb : LamX.Tabs T H)
    (hw : ∀ R : It → Hp → Prop, (∀ J H', Same H H' → (∀ T, Wk X.K (Ke T (hid (ads (ωs 0)) H')) (hid (ads (ωs 0)) H') J items) → R J H') → wi σ H R) (hl : ys.length = items.length) (hz : items.length ≤ 10000)
    (he : ∀ (i : Nat) (d y : PyData), items[i]? = some d → ys[i]? = some y → ∀ D o σ' H', Rl X.K H' σ' (δ.set j (some (.im d))) (omB (ωs i) D o) → LamX.Tabs T H' → ∀ Q : VK, (∀ v H2, Stp T (omB (ωs i) D o) (omB (ωs (i + 1)) D o) H' H2 → Rl X.K H2 σ' (δ.set j (some (.im d))) (omB (ωs (i + 1)) D o) → Dp X.K (hid (ads (omB (ωs (i + 1)) D o)) H2) v y → Q v H2) → te σ' H' Q)
    (k : ∀ D H', Stp T (ωs 0) (ωs items.length) H H' → Rl X.K H' σ δ (ωs items.length) → Dp X.K (hid (ads (ωs items.length)) H') (.ref D) (.list ys) → Q (.ref D) H') :
    tLc wi (gName j) tYes te [j] σ H Q := by
  refine hw _ fun J H1 s1 w => fun D hD => ?_
  have rl1 := rl.mono s1
  have perm0 : ((D, Od.lst (([] : List PyData).map .im)) :: (ωs 0).os).Perm ((ωs 0).os ++ [(D, Od.lst (([] : List PyData).map .im))]) := (List.perm_append_singleton _ _).symm
  have rlD0 : Rl X.K (upd H1 D (.lst [])) σ δ (omD (ωs 0) D (.lst (([] : List PyData).map .im))) := rl1.omD hD (same_new hD) upd_same .nil
  have rlD : Rl X.K (upd H1 D (.lst [])) σ δ (omB (ωs 0) D (.lst (([] : List PyData).map .im))) := rlD0.permO perm0
  have stD : Stp T (ωs 0) (omB (ωs 0) D (.lst (([] : List PyData).map .im))) H1 (upd H1 D (.lst [])) := stp_perm perm0 (stp_new (same_new hD) hD)
  refine ⟨fun i m H2 => m = items.length - i ∧ i ≤ items.length ∧ Stp T (ωs 0) (omB (ωs i) D (.lst ((ys.take i).map .im))) H1 H2 ∧ Rl X.K H2 σ δ (omB (ωs i) D (.lst ((ys.take i).map .im))), ⟨items.length, by omega, Nat.zero_le _, stD, rlD⟩, ?_⟩
  rintro i m H2 ⟨em, hi, st, r2⟩
  obtain ⟨go, stop, yld⟩ := w T H2 (fun b o z p => (hid_out (st.seen b o z p)).2)
  by_cases hlt : i < items.length
  · refine .inr ⟨go i hlt, fun H3 => Stp T (ωs 0) (omB (ωs (i + 1)) D (.lst ((ys.take (i + 1)).map .im))) H1 H3 ∧ Rl X.K H3 σ δ (omB (ωs (i + 1)) D (.lst ((ys.take (i + 1)).map .im))), fun H3 ⟨s3, h3⟩ => ⟨items.length - (i + 1), by omega, rfl, hlt, s3, h3⟩, fun x H3 hy => ?_⟩
    obtain ⟨e3, d, ed, dx⟩ := yld i x H3 hlt hy
    subst e3
    have hys : i < ys.length := by omega
    have ey : ys[i]? = some ys[i] := List.getElem?_eq_getElem hys
    show wipe (((wipe σ [j])).set j (some x)) [j] = wipe σ [j] ∧ _
    have ew : wipe σ [j] = σ.set j none := rfl
    refine ⟨?_, ?_⟩
    · show (((σ.set j none).set j (some x)).set j none) = σ.set j none
      rw [List.set_set, List.set_set]
    show te (((wipe σ [j])).set j (some x)) H3 _
    rw [ew, List.set_set]
    have dx2 : Dp X.K (hid (ads (omB (ωs i) D (.lst ((ys.take i).map .im)))) H3) x d := dp_ke st.seen _ x dx
    have r4 := r2.set (i := j) (x := .im d) (v := x) dx2
    refine he i d ys[i] ed ey D _ _ _ r4 (st.tab (tb.ext s1)) _ fun v H4 s4 l4 d4 => ?_
    have om : ((ωs (i + 1)).os ++ [(D, Od.lst ((ys.take i).map .im))])[(ωs (i + 1)).os.length]? = some (D, .lst ((ys.take i).map .im)) := by
      rw [List.getElem?_append_right (Nat.le_refl _), Nat.sub_self]
      rfl
    obtain ⟨vs, g1, g2⟩ := l4.ro.ob D (.lst ((ys.take i).map .im)) (List.mem_append_right _ List.mem_cons_self)
    refine ⟨vs, g1, ?_, ?_⟩
    · rw [paired_len g2, List.length_map, List.length_take]
      refine Nat.lt_of_le_of_lt (Nat.min_le_left _ _) (Nat.lt_of_lt_of_le hlt (Nat.le_trans hz ?_))
      rw [sizeLine_eq]
      decide
    · have r5 : Rl X.K H4 σ δ (omB (ωs (i + 1)) D (.lst ((ys.take i).map .im))) := Rl.keep r2 s4 l4.ro
      have am : D ∈ ads (omB (ωs (i + 1)) D (.lst ((ys.take i).map .im))) := List.mem_append_right _ (List.mem_map.mpr ⟨_, List.mem_append_right _ List.mem_cons_self, rfl⟩)
      have hh : Same (hid (ads (omB (ωs (i + 1)) D (.lst ((ys.take i).map .im)))) H4) (hid (ads (omB (ωs (i + 1)) D (.lst ((ys.take i).map .im)))) (upd H4 D (.lst (vs ++ [v])))) := fun bb o h => by
        obtain ⟨n, e⟩ := hid_out h
        exact hid_of n (by rw [upd_ne (fun q => n (by rw [q]; exact am))]; exact e)
      obtain ⟨st6, r6⟩ := own_at (T := T) (j := (ωs (i + 1)).os.length) (o' := .lst ((ys.take i).map .im ++ [.im ys[i]])) (H' := upd H4 D (.lst (vs ++ [v]))) r5 om g1 (fun _ q => by cases q) (fun _ _ q => by unfold LamX.CodeO at q; cases q) (fun b o nb h => by rw [upd_ne nb]; exact h) ⟨_, upd_same, paired_snoc (R := SdV X.K _) (x := Sd.im ys[i]) (y := v) (dpm hh d4) (L2.Paired.mapP g2 fun _ _ q => sdv_mono hh q)⟩
      have e7 : putO (omB (ωs (i + 1)) D (.lst ((ys.take i).map .im))) (ωs (i + 1)).os.length (D, .lst ((ys.take i).map .im ++ [.im ys[i]])) = omB (ωs (i + 1)) D (.lst ((ys.take (i + 1)).map .im)) := by
        have et : ys.take (i + 1) = ys.take i ++ [ys[i]] := by rw [List.take_add_one, ey]; rfl
        rw [et, List.map_append]
        show (⟨_, ((ωs (i + 1)).os ++ [_]).set _ _⟩ : Om) = _
        rw [List.set_append_right _ _ (Nat.le_refl _), Nat.sub_self]
        rfl
      rw [e7] at st6 r6
      exact ⟨(st.trans s4).trans st6, r6⟩
  · have e : i = items.length := by omega
    subst e
    refine .inl ⟨stop, ?_⟩
    rw [List.take_of_length_le (by omega)] at st r2
    have sub : (ωs items.length).os.Sublist ((ωs items.length).os ++ [(D, Od.lst (ys.map .im))]) := List.sublist_append_left _ _
    have nd : (((ωs items.length).os ++ [(D, Od.lst (ys.map .im))]).map (·.1)).Nodup := r2.ro.nd
    rw [List.map_append] at nd
    have nD : D ∉ ads (ωs items.length) := fun z => by
      rcases List.mem_append.mp z with q | q
      · rw [st.ps] at q
        exact rl1.ro.th D q hD
      · exact (List.nodup_append.mp nd).2.2 D q D (by simp) rfl
    have sm : Same (hid (ads (omB (ωs items.length) D (.lst (ys.map .im)))) H2) (hid (ads (ωs items.length)) H2) := hid_more fun b hb => by
      rcases List.mem_append.mp hb with q | q
      · exact List.mem_append_left _ q
      · exact List.mem_append_right _ ((sub.map _).subset q)
    have r0 : Rl X.K H2 σ δ (ωs items.length) := ⟨r2.len, fun i r hi => by
      obtain ⟨v, h1, h2⟩ := r2.sl i r hi
      exact ⟨v, h1, sdv_mono sm h2⟩, fun z o hz => odv_mono sm (Same.refl H2) (r2.ro.ob z o (sub.subset hz)), (sub.map _).nodup r2.ro.nd, r2.ro.th⟩
    obtain ⟨vs, g1, g2⟩ := r2.ro.ob D (.lst (ys.map .im)) (List.mem_append_right _ List.mem_cons_self)
    refine k D H2 ((Stp.of s1).trans ⟨st.keep, fun a ha => st.new a ((sub.map _).subset ha), st.ps, st.tab⟩) r0 (.lst (SqL.of (hid_of nD g1)) (dpam sm (dpa_im g2)))
theorem ze_lcX {elt : Expr} {scope : Scope} {y : Str} {j : Nat} {items ys : List PyData} (ωs : Nat → Om) (h0 : ωs 0 = ω) (hc : X.calm = true) (hN : X.N.Nodup) (hw : PWk X δ ω tg iter items) (hl : ys.length = items.length) (ok : BlkOk X.N X.env.scope scope [(y, j)])
    (hg : ∀ (s : Shared) (H : Hp) (C : Addr) (cl : List (Str × Addr)) (fp : List Addr), PG (X.blk s H scope (compEnvC scope cl C X.env) fp) tg (gName j))
    (he : ∀ (i : Nat) (d y : PyData), items[i]? = some d → ys[i]? = some y → ∀ D o (s : Shared) (H : Hp) (C : Addr) (cl : List (Str × Addr)) (fp : List Addr), YE (X.blk s H scope (compEnvC scope cl C X.env) fp) T (δ.set j (some (.im d))) (omB (ωs i) D o) elt y (omB (ωs (i + 1)) D o))
    (hz : items.length ≤ 10000) (hk : Z (.list ys) (ωs items.length)) (hs : ∀ x, foldedSetIterable iter X.env x = pure x := by intro _; rfl) : ZE X T δ ω (.ListComp elt [⟨tg, iter, [], 0⟩] scope pos) Z := fun σ H rl t Q q => by
  subst h0
  obtain ⟨wi, h1, h2⟩ := hw
  refine we (pe_lc (own := [(y, j)]) hc hN h1 ok hg (fun _ _ _ _ _ => pts_nil) (fun s H0 C cl fp => pe_blk s H0 C cl fp) hs) ?_
  exact lc_X rl t (fun R kk => h2 σ H rl R kk) hl hz (fun i d y hd hy D o σ' H' rl' t' Q' k' s H0 C cl fp => he i d y hd hy D o s H0 C cl fp σ' H' rl' t' Q' k') (fun D H' st l dv => q _ _ _ H' hk st l dv)
end
end FP

namespace FP
open PySem PySem.Spec PyProof.Rows L2 HotX L2H
def cutA {α : Type} (xs : List α) (lo hi : Option Int) : List α := (xs.drop (HT.sIx xs.length 0 lo)).take (HT.sIx xs.length xs.length hi - HT.sIx xs.length 0 lo)
theorem cutA_to {α : Type} (ds : List α) (n : Nat) : cutA ds none (some (n : Int)) = ds.take n := by
  unfold cutA
  rw [HT.sIx_none, HT.sIx_nat, List.drop_zero, Nat.sub_zero]
  rcases Nat.le_total n ds.length with h | h
  · rw [Nat.min_eq_left h]
  · rw [Nat.min_eq_right h, List.take_length, List.take_of_length_le h]
theorem cutA_from {α : Type} (ds : List α) (n : Nat) : cutA ds (some (n : Int)) none = ds.drop n := by
  unfold cutA
  rw [HT.sIx_none, HT.sIx_nat]
  rcases Nat.le_total n ds.length with h | h
  · rw [Nat.min_eq_left h, List.take_of_length_le (by rw [List.length_drop]; exact Nat.le_refl _)]
  · rw [Nat.min_eq_right h, List.drop_length, List.drop_of_length_le h, List.take_nil]
theorem cutV_ref (As : List Addr) (lo hi : Option Int) : cutV (As.map V.ref) lo hi = (cutA As lo hi).map V.ref := by
  unfold cutV cutA
  rw [List.length_map, List.map_take, List.map_drop]
section
variable {X : Cx} {W : WX} {T : List (Addr × Str)} {δ : De} {ω ω1 : Om} {a b c e o iter tg : Expr} {es : List Expr} {d : PyData} {ds : List PyData} {r : Sd} {rs : List Sd} {pos p p1 apos : Pos} {R : Out → Prop} {ss sa sb : List Stmt} {x m : Str} {k : Nat}
/-- a list of own lists -/
def PLa (X : Cx) (δ : De) (ω : Om) (e : Expr) (As : List Addr) : Prop := ∀ σ H, Rl X.K H σ δ ω → ∀ Q : VK, (∀ p H', Same H H' → SqL X.K H' p (As.map V.ref) → Q (.ref p) H') → wpe X e σ H Q
theorem pla_var (i : Nat) {D : Addr} {As : List Addr} (hm : (D, Od.lst (As.map .ad)) ∈ ω.os) (hd : δ[i]? = some (some (.ad D)) := by rfl) (hN : X.N[i]? = some x := by rfl) (hv : Vis X.env.scope x := by first | exact Or.inl rfl | exact Or.inr (Or.inl rfl) | exact Or.inr (Or.inr rfl))
    (h1 : (x == ("__debug__" : Str)) = false := by decide) (h2 : (x == ("__classdict__" : Str)) = false := by decide) : PLa X δ ω (.Name x pos) As := fun σ H rl Q k => by
  obtain ⟨v, e1, e2⟩ := rl.sl i _ hd
  have e2 : v = .ref D := e2
  subst e2
  obtain ⟨vs, g1, g2⟩ := rl.ro.ob D _ hm
  have ev := pair_ad g2
  subst ev
  exact we (pe_var hN hv h1 h2) ⟨_, e1, k D H (Same.refl H) (SqL.of g1)⟩
theorem pla_sl {lo hi : Option Expr} {i j : Option Int} {p2 : Pos} {As : List Addr} (ha : PLa X δ ω a As) (hl : PO1 X δ ω lo i) (hh : PO1 X δ ω hi j) : PLa X δ ω (.Subscript a (.Slice lo hi none p2) pos) (cutA As i j) := fun σ H rl Q k =>
  we (pe_slice sl_list pe_w po_w po_w) (ha σ H rl _ fun l H1 s1 h1 => po_run hl σ H1 (rl.mono s1) _ fun H2 s2 => po_run hh σ H2 (rl.mono (s1.trans s2)) _ fun H3 s3 =>
    ⟨l, _, rfl, (s2.trans s3).seq h1, fun p hp => k p _ (((s1.trans s2).trans s3).trans (same_new hp)) (by rw [← cutV_ref]; exact SqL.of upd_same)⟩)
theorem PLa.eq {As Bs : List Addr} (h : PLa X δ ω e As) (q : As = Bs) : PLa X δ ω e Bs := q ▸ h
/-- x = a + b, lists of own lists -/
theorem nw_catA {As Bs : List Addr} (ha : PLa X δ ω a As) (hb : PLa X δ ω b Bs) (hz : As.length + Bs.length ≤ 10000) : NW X T δ ω (.BinOp a .Add b pos) (.lst ((As ++ Bs).map .ad)) := fun σ H rl t Q k =>
  we (pe_op op_catQ pe_w pe_w) (ha σ H rl _ fun q H1 s1 h1 => hb σ H1 (rl.mono s1) _ fun r H2 s2 h2 =>
    ⟨q, r, _, _, rfl, rfl, s2.seq h1, h2, by rw [List.length_map, List.length_map, sizeLine_eq]; omega, fun p hp => by
      have sm : Same H2 (upd H2 p (.lst (As.map V.ref ++ Bs.map V.ref))) := same_new hp
      have l2 := rl.mono (s1.trans s2)
      refine k p _ (((Stp.of (s1.trans s2)).trans (stp_new sm hp))) ⟨l2.len, fun i r hi => ?_, fun z o hz => ?_, ?_, there_mono l2.ro.th sm⟩
      · obtain ⟨v, h1, h2⟩ := l2.sl i r hi
        exact ⟨v, h1, sdv_mono (hid_in hp sm) h2⟩
      · rcases List.mem_cons.mp hz with w | w
        · cases w
          exact ⟨_, upd_same, by rw [← List.map_append]; exact ad_pair _⟩
        · exact odv_mono (hid_in hp sm) sm (l2.ro.ob z o w)
      · show (p :: ω.os.map (·.1)).Nodup
        exact List.nodup_cons.mpr ⟨fun w => new_out l2.ro.there hp (List.mem_append_right _ w), l2.ro.nd⟩⟩)
theorem stp_permL {H H' : Hp} {ps : List Addr} {os os' : Os} {ω : Om} (hp : os.Perm os') (st : Stp T ⟨ps, os'⟩ ω H H') : Stp T ⟨ps, os⟩ ω H H' := ⟨fun b x h n p => st.keep b x h (fun z => n ((hp.map _).mem_iff.mpr z)) p, fun a ha => (st.new a ha).imp (fun z => (hp.map _).mem_iff.mpr z) id, st.ps, st.tab⟩
theorem ZE.perm {ps : List Addr} {os os' : Os} {Z : PyData → Om → Prop} (hp : os.Perm os') (h : ZE X T δ ⟨ps, os'⟩ e Z) : ZE X T δ ⟨ps, os⟩ e Z := fun σ H rl t Q q => h σ H (rl.permO hp) t Q fun d ω' v H' z s l dv => q d ω' v H' z (stp_permL hp s) l dv
theorem YX.perm {ps : List Addr} {os os' : Os} {Z : Rg → Om → Prop} (hp : os.Perm os') (h : YX X W T δ ⟨ps, os'⟩ e Z) : YX X W T δ ⟨ps, os⟩ e Z := fun σ H rl t Q q q2 => h σ H (rl.permO hp) t Q (fun r ω' v H' z s l dv => q r ω' v H' z (stp_permL hp s) l dv) (fun Z ω' H' z s l => q2 Z ω' H' z (stp_permL hp s) l)
theorem ax_yx {Z : List Sd → Om → Prop} (h : YX X (fun _ _ _ _ => False) T δ ω e (fun r ω' => ∃ r', r = .ok r' ∧ AX X T δ ω' es (fun rs ω'' => Z (r' :: rs) ω''))) (hs : starEach (e :: es) X.env = (false, eval e X.env) :: starEach es X.env := by rfl) : AX X T δ ω (e :: es) Z := fun σ H rl t Q k =>
  wa (pa_cons pe_w pa_w hs) (h σ H rl t _ (fun r ω' v H1 z s1 l1 d1 => by
    obtain ⟨r', e1, hr⟩ := z
    cases e1
    exact hr σ H1 l1 (s1.tab t) _ fun rs ω2 vs H2 z2 s2 l2 d2 => k (r :: rs) ω2 (v :: vs) H2 z2 (s1.trans s2) l2 (.cons (stp_sd (X := X) s2 d1) d2)) (fun Z ω' H' z _ _ => by
    obtain ⟨r', e1, _⟩ := z
    cases e1))
theorem sd_cont (hR : R (.ct δ ω)) : SD X W T (.Continue pos :: ss) δ ω R := sd_cons fun σ H D rl t k => ws ps_continue (k.ct δ ω σ H hR .refl rl)
end
/-- y = a new object, none of the caller's -/
theorem sd_newP {X : Cx} {W : WX} {δ : De} {ω : Om} {e : Expr} {pos : Pos} {R : Out → Prop} {ss : List Stmt} (i : Nat) {y : Str} {o : Od} {py : Pos} (he : NW X [] δ ω e o) (hk : ∀ D, D ∉ ω.ps → SD X W [] ss (δ.set i (some (.ad D))) (omD ω D o) R) (hN : X.N.Nodup) (hi : X.N[i]? = some y := by rfl) (hx : Loc X.env.scope y := by first | exact Or.inl rfl | exact Or.inr rfl)
    (hs : swapsWith e (some (.Name y py)) pos.line X.env = pure false := by rfl) (hf : X.fn y = true ∨ X.env.scope.names.lookup y = some .local := by first | exact .inl rfl | exact .inr rfl | assumption) : SD X W [] (.Assign [.Name y py] e pos :: ss) δ ω R :=
  sd_cons fun σ H D rl t kt => ws (ps_set hN hi hx pe_w hs hf) (he σ H rl t _ fun z H' st l => by
    have nz : z ∉ ω.ps := fun hz => by
      rcases st.new z (List.mem_cons_self) with q | q
      · have nd : (z :: ω.os.map (·.1)).Nodup := l.ro.nd
        exact (List.nodup_cons.mp nd).1 q
      · have := rl.ro.th z hz
        cases e : H z with
        | none => exact this e
        | some o => exact q o e (.inl rfl)
    exact kt.nx _ _ _ H' (hk z nz) st (l.set (x := .ad z) (v := .ref z) rfl))
theorem inL_app {As Bs : List Addr} {rs ts : List (List PyData)} (h : As.length = rs.length) : inL (As ++ Bs) (rs ++ ts) = inL As rs ++ inL Bs ts := by
  unfold inL
  rw [List.zipWith_append h]
theorem inL_rot {As : List Addr} {rows : List (List PyData)} (h : As.length = rows.length) (n : Nat) : (inL As rows).Perm (inL (As.drop n ++ As.take n) (rows.drop n ++ rows.take n)) := by
  have e : inL As rows = inL (As.take n) (rows.take n) ++ inL (As.drop n) (rows.drop n) := by
    rw [← inL_app (by rw [List.length_take, List.length_take, h]), List.take_append_drop, List.take_append_drop]
  rw [e, inL_app (by rw [List.length_drop, List.length_drop, h])]
  exact List.perm_append_comm
/-- x is b, b a truth -/
def flatV : V → Prop
  | .non => True
  | .bl _ => True
  | .int _ => True
  | .str _ => True
  | _ => False
theorem op_isFlat {X : Cx} : OpR X (compareOp .Is) (fun x y H Q => ∃ b, y = .bl b ∧ flatV x ∧ Q (.bl (decide (x = .bl b))) H) := by
  intro pins s σ H x y v u Q I rx ry h
  obtain ⟨b, rfl, hf, q⟩ := h
  cases (show u = Value.bool b from ry)
  cases x with
  | non =>
    cases rx
    exact wpAny_is_other rfl (fun z => by cases z) ⟨.bl false, H, I, rfl, by simpa using q⟩
  | bl a =>
    cases (show v = Value.bool a from rx)
    by_cases e : a = b
    · subst e
      exact wpAny_is_self rfl ⟨.bl true, H, I, rfl, by simpa using q⟩
    · exact wpAny_is_other rfl (fun z => e (Value.bool.inj z)) ⟨.bl false, H, I, rfl, by simpa [e] using q⟩
  | int i =>
    obtain ⟨t, rfl⟩ := rx
    exact wpAny_is_other rfl (fun z => by cases z) ⟨.bl false, H, I, rfl, by simpa using q⟩
  | str z =>
    obtain ⟨t, rfl⟩ := rx
    exact wpAny_is_other rfl (fun z => by cases z) ⟨.bl false, H, I, rfl, by simpa using q⟩
  | _ => exact False.elim hf
def isTrueD : PyData → Bool
  | .bool true => true
  | _ => false
def flatD : PyData → Bool
  | .list _ => false
  | .tuple _ => false
  | .dict _ => false
  | _ => true
theorem rd_isT {K : PySem.W.Frag} {d : PyData} (hf : flatD d = true) : RD K (fun x y H Q => ∃ b, y = .bl b ∧ flatV x ∧ Q (.bl (decide (x = .bl b))) H) d (.bool true) (.bool (isTrueD d)) := fun ps x y H _ hx hy Q q => by
  cases hy
  cases hx with
  | non => exact ⟨true, rfl, trivial, q _ H (Same.refl H) (.bl _)⟩
  | bl b =>
    refine ⟨true, rfl, trivial, ?_⟩
    cases b with
    | true => exact q _ H (Same.refl H) (.bl true)
    | false => exact q _ H (Same.refl H) (.bl false)
  | int i => exact ⟨true, rfl, trivial, q _ H (Same.refl H) (.bl _)⟩
  | str z => exact ⟨true, rfl, trivial, q _ H (Same.refl H) (.bl _)⟩
  | lst _ _ => cases hf
  | tup _ _ => cases hf
end FP

namespace FP
open PySem PySem.Spec PyProof.Rows L2 HotX L2H
theorem eqv_nil (xs : List PyData) : PyData.eqv (.list xs) (.list []) = xs.isEmpty := by
  cases xs <;> rfl
section
variable {X : Cx} {W : WX} {T : List (Addr × Str)} {δ : De} {ω ω1 : Om} {a b c e o iter tg : Expr} {es : List Expr} {d da db : PyData} {ds : List PyData} {r : Sd} {rs : List Sd} {pos p p1 apos : Pos} {R : Out → Prop} {ss sa sb : List Stmt} {x m : Str} {k : Nat} {fr : FrG}
theorem pt_eqL (hu : X.A.units + 64 < cLine) (h1 : SeqAt.shaped (.list ds) = true) (h2 : SeqAt.shaped db = true) (ha : PL X δ ω a ds) (hb : PD X δ ω b db) : PTd X δ ω (.Compare a [.Eq] [b] pos) (PyData.eqv (.list ds) db) := fun σ H rl Q q =>
  wt (pt_cmpR (op_eqD hu) pe_w pe_w (nomark _)) (ha σ H rl _ fun p vs H1 s1 h3 d1 => hb σ H1 (rl.mono s1) _ fun y H2 s2 d2 =>
    ⟨.list ds, db, .lst (s2.seq h3) (dpam hid_sub (dpam (hid_same s2) d1)), dpm hid_sub d2, h1, h2, _, rfl, q H2 (s1.trans s2)⟩)
theorem pd_eqL (hu : X.A.units + 64 < cLine) (h1 : SeqAt.shaped (.list ds) = true) (h2 : SeqAt.shaped db = true) (ha : PL X δ ω a ds) (hb : PD X δ ω b db) : PD X δ ω (.Compare a [.Eq] [b] pos) (.bool (PyData.eqv (.list ds) db)) := fun σ H rl Q q =>
  we (pe_cmpR (op_eqD hu) pe_w pe_w (nomark _)) (ha σ H rl _ fun p vs H1 s1 h3 d1 => hb σ H1 (rl.mono s1) _ fun y H2 s2 d2 =>
    ⟨.list ds, db, .lst (s2.seq h3) (dpam hid_sub (dpam (hid_same s2) d1)), dpm hid_sub d2, h1, h2, q _ H2 (s1.trans s2) (.bl _)⟩)
theorem pd_neL (hu : X.A.units + 64 < cLine) (h1 : SeqAt.shaped (.list ds) = true) (h2 : SeqAt.shaped db = true) (ha : PL X δ ω a ds) (hb : PD X δ ω b db) : PD X δ ω (.Compare a [.NotEq] [b] pos) (.bool (!PyData.eqv (.list ds) db)) := fun σ H rl Q q =>
  we (pe_cmpR (op_neD hu) pe_w pe_w (nomark _)) (ha σ H rl _ fun p vs H1 s1 h3 d1 => hb σ H1 (rl.mono s1) _ fun y H2 s2 d2 =>
    ⟨.list ds, db, .lst (s2.seq h3) (dpam hid_sub (dpam (hid_same s2) d1)), dpm hid_sub d2, h1, h2, q _ H2 (s1.trans s2) (.bl _)⟩)
/-- x(..), a def that is handed own objects -/
theorem yx_callG {Rr : Rg → Os → Prop} {ps : List Addr} (os rest : Os) {Z : Rg → Om → Prop} (G : GOk X.prog X.w X.K X.mg X.base k x fr) (hr : Room k X.A) (tk : L2N.Takes X W) (ha : PSs X δ ⟨ps, os ++ rest⟩ (e :: es) rs) (hf : fr os rs Rr)
    (hR : ∀ r os', Rr r os' → Z r ⟨ps, os' ++ rest⟩) (hg : Gl X x := by rfl)
    (hdb : (x == ("__debug__" : Str)) = false := by decide) (he : starEach (e :: es) X.env = (false, eval e X.env) :: starEach es X.env := by rfl) (hpl : (backTo pos (starEach es X.env)).any (·.1) = false := by rfl) : YX X W T δ ⟨ps, os ++ rest⟩ (.Call (.Name x p) (e :: es) [] pos) Z := fun σ H rl t Q q q2 => by
  obtain ⟨f, fd, pn, F, m, kp, b⟩ := G.ex
  refine we (pe_callS (E := WE W) F hr hg m kp b (fun σ => L2N.passAt tk σ) pa_w hdb he hpl) (ha σ H rl _ fun vs H1 s1 d1 => ?_)
  refine callG_end (T := T) (rl.mono s1) d1 hf fun r os' H' hr st l => ?_
  have z := hR r os' hr
  cases r with
  | ok r => exact fun v hv => q r _ v H' z ((Stp.of s1).trans st) l hv
  | er Z => exact q2 Z _ H' z ((Stp.of s1).trans st) l
/-- a value is told, an own object is dropped -/
theorem sd_retD (j : Nat) {ps : List Addr} {os : Os} (he : PD X δ ⟨ps, os⟩ e d) (hR : R (.rt (.im d) ⟨ps, os.eraseIdx j⟩)) : SD X W T (.Return (some e) pos :: ss) δ ⟨ps, os⟩ R :=
  sd_cons fun σ H D rl t k => ws (ps_ret pe_w) (he σ H rl _ fun v H' s dv => by
    have sub : (os.eraseIdx j).Sublist os := List.eraseIdx_sublist os j
    have sm : Same (hid (ads ⟨ps, os⟩) H') (hid (ads ⟨ps, os.eraseIdx j⟩) H') := hid_more fun b hb => by
      rcases List.mem_append.mp hb with q | q
      · exact List.mem_append_left _ q
      · exact List.mem_append_right _ ((sub.map _).subset q)
    have l := rl.mono s
    exact k.rt _ ⟨ps, os.eraseIdx j⟩ v H' hR ((Stp.of s).trans ⟨fun b o e _ _ => e, fun a ha => .inl ((sub.map _).subset ha), rfl, fun t => t⟩) ⟨fun z o hz => odv_mono sm (Same.refl H') (l.ro.ob z o (sub.subset hz)), (sub.map _).nodup l.ro.nd, l.ro.th⟩ (dpm sm dv))
theorem sd_retZ (he : ZE X T δ ω e (fun d ω1 => R (.rt (.im d) ω1))) : SD X W T (.Return (some e) pos :: ss) δ ω R :=
  sd_cons fun σ H D rl t k => ws (ps_ret pe_w) (he σ H rl t _ fun d ω1 v H' z s l dv => k.rt _ ω1 v H' z s l.ro dv)
theorem ze_op {op : Operator} {r : R2} {Z : PyData → Om → Prop} (ho : OpR X (binaryOp op) r) (ha : ZE X T δ ω a (fun da ω1 => ZE X T δ ω1 b (fun db ω2 => ∃ dz, RD X.K r da db dz ∧ Z dz ω2))) : ZE X T δ ω (.BinOp a op b pos) Z := fun σ H rl t Q q =>
  we (pe_op ho pe_w pe_w) (ha σ H rl t _ fun da ω1 x H1 hb s1 l1 d1 => hb σ H1 l1 (s1.tab t) _ fun db ω2 y H2 hr s2 l2 d2 => by
    obtain ⟨dz, hr, z⟩ := hr
    exact hr _ x y H2 l2.ro.there (stp_sd (X := X) (r := .im da) s2 d1) d2 _ fun w H3 s3 d3 => q dz ω2 w H3 z ((s1.trans s2).trans (.of s3)) (l2.mono s3) d3)
theorem ze_tupleT {Z : PyData → Om → Prop} (hm : X.mg "tuple" = none) (ha : ZE X T δ ω a (fun da ω1 => ∃ ds, da = .tuple ds ∧ Z (.tuple ds) ω1)) (hg : Gl X "tuple" := by rfl) (he : starEach [a] X.env = (false, eval a X.env) :: starEach [] X.env := by rfl) : ZE X T δ ω (.Call (.Name "tuple" p) [a] [] pos) Z := fun σ H rl t Q q =>
  we (pe_callTy call_tuple_of hg hm (by decide +kernel) (pa_cons pe_w pa_nil he) (he := he)) (ha σ H rl t _ fun da ω1 v H1 z s1 l1 d1 => by
    obtain ⟨ds, rfl, z⟩ := z
    cases d1 with
    | tup g1 g2 => exact ⟨_, _, rfl, .inr ⟨same_sqt hid_sub g1, q _ ω1 _ H1 z s1 l1 (.tup g1 g2)⟩⟩)
end
end FP

namespace FP
open PySem PySem.Spec PyProof.Rows L2 HotX L2H
theorem paired_app {α β : Type} {R : α → β → Prop} : ∀ {xs xs2 : List α} {ys ys2 : List β}, Paired R xs ys → Paired R xs2 ys2 → Paired R (xs ++ xs2) (ys ++ ys2)
  | _, _, _, _, .nil, h => h
  | _, _, _, _, .cons a b, h => .cons a (paired_app b h)
section
variable {X : Cx} {W : WX} {T : List (Addr × Str)} {δ : De} {ω : Om} {a b e o iter : Expr} {pos p tpos : Pos} {R : Out → Prop} {ss sa : List Stmt}
/-- how often a number stands in a list of numbers -/
theorem pd_count {ns : List Int} {k : Int} {apos : Pos} (ha : PL X δ ω a (ns.map .int)) (hb : PD X δ ω b (.int k)) (hbase : attributeBase a "count" X.env (eval a X.env) = eval a X.env := by rfl)
    (hfew : ((backTo pos (starEach [b] X.env)).all (fun x => !x.1) && (backToKw pos (keywordEach [] X.env)).all (fun x => x.1.isSome)
      && decide (([b] : List Expr).length + ([] : List Keyword).length + (if ([] : List Keyword).isEmpty then 0 else 1) < 30)) = true := by rfl)
    (hline : (apos.endLine == pos.line) = true := by rfl) (hst : starEach [b] X.env = (false, eval b X.env) :: starEach [] X.env := by rfl) : PD X δ ω (.Call (.Attribute a "count" apos) [b] [] pos) (.int ((ns.count k : Nat) : Int)) := fun σ H rl Q q =>
  we (pe_bm PySem.F.plainAttrs_list PySem.F.slot_list_count PySem.F.type_list_count mt_lcount pe_w (pa_cons pe_w pa_nil hst) hbase hfew hline hst) (ha σ H rl _ fun l vs H1 s1 h1 d1 => ⟨.inl ⟨rfl, vs, h1⟩, hb σ H1 (rl.mono s1) _ fun v H2 s2 d2 => by
    cases d2
    have e := dpa_int d1
    subst e
    exact ⟨l, ns, k, rfl, rfl, s2.seq h1, q _ H2 (s1.trans s2) (.int _)⟩⟩)
/-- o.extend(e), o a list of one's own, e a new list -/
theorem sd_extS {ad : Addr} {xs : List Sd} {ds : List PyData} {j : Nat} {apos cpos : Pos} (ho : PS1 X δ ω o (.ad ad)) (hm : ω.os[j]? = some (ad, .lst xs)) (he : PN X δ ω e ds) (hk : SD X W T ss δ (putO ω j (ad, .lst (xs ++ ds.map .im))) R) (hz : xs.length + ds.length < 10000)
    (hs : swapsWith (.Call (.Attribute o "extend" apos) [e] [] cpos) none pos.line X.env = pure false := by rfl)
    (hbase : attributeBase o "extend" X.env (eval o X.env) = eval o X.env := by rfl)
    (hfew : ((backTo cpos (starEach [e] X.env)).all (fun x => !x.1) && (backToKw cpos (keywordEach [] X.env)).all (fun x => x.1.isSome)
      && decide (([e] : List Expr).length + ([] : List Keyword).length + (if ([] : List Keyword).isEmpty then 0 else 1) < 30)) = true := by rfl)
    (hline : (apos.endLine == cpos.line) = true := by rfl) (hst : starEach [e] X.env = (false, eval e X.env) :: starEach [] X.env := by rfl) :
    SD X W T (.Expr (.Call (.Attribute o "extend" apos) [e] [] cpos) pos :: ss) δ ω R :=
  sd_cons fun σ H Dd rl t kt => ws (ps_expr (pe_bm PySem.F.plainAttrs_list PySem.F.slot_list_extend PySem.F.type_list_extend mt_extend pe_w (pa_cons pe_w pa_nil hst) hbase hfew hline hst) hs) (ho σ H rl _ fun v H1 s1 d1 => by
    have d1 : v = .ref ad := d1
    subst d1
    obtain ⟨vs, e3, e4⟩ := (rl.mono s1).ro.ob ad _ (at_mem hm)
    refine ⟨.inl ⟨rfl, vs, SqL.of e3⟩, he σ H1 (rl.mono s1) _ fun p ys H2 s2 np h2 d2 => ⟨ad, p, vs, ys, rfl, rfl, s2 ad _ e3, h2, ?_, ?_⟩⟩
    · rw [paired_len e4, dpa_len d2]
      exact Nat.le_of_lt (Nat.lt_of_lt_of_le hz (by rw [sizeLine_eq]; decide))
    · have l2 := rl.mono (s1.trans s2)
      have am : ad ∈ ads ω := List.mem_append_right _ (List.mem_map.mpr ⟨_, at_mem hm, rfl⟩)
      have hh : Same (hid (ads ω) H2) (hid (ads ω) (upd H2 ad (.lst (vs ++ ys)))) := fun bb o h => by
        obtain ⟨n, e⟩ := hid_out h
        exact hid_of n (by rw [upd_ne (fun q => n (by rw [q]; exact am))]; exact e)
      obtain ⟨st, l3⟩ := own_at (T := T) (o' := .lst (xs ++ ds.map .im)) (H' := upd H2 ad (.lst (vs ++ ys))) l2 hm (s2 ad _ e3) (fun _ q => by cases q) (fun _ _ q => by unfold LamX.CodeO at q; cases q) (fun bb o nb h => by rw [upd_ne nb]; exact h) ⟨_, upd_same, paired_app (L2.Paired.mapP e4 fun _ _ q => sdv_mono ((hid_same s2).trans hh) q) (im_dpa (dpam hh (dpam hid_cons d2)))⟩
      exact kt.nx δ _ σ _ hk ((Stp.of (s1.trans s2)).trans st) l3)
/-- o[b] = e, the place told from the end, or from the front -/
theorem sd_lsetK {c : Addr} {sp : Pos} {n : Nat} {k : Int} (he : EX X W T e δ ω (Val1 (fun r ω1 => ∃ j xs, PS1 X δ ω1 o (.ad c) ∧ ω1.os[j]? = some (c, .lst xs) ∧ PD X δ ω1 b (.int k) ∧ ixN xs.length k = some n ∧ SD X W T ss δ (putO ω1 j (c, .lst (xs.set n r))) R) R))
    (ha : ∀ v, assign (.Subscript o b sp) X.env v = (do
      let ov ← holding [v] (eval o X.env)
      let iv ← holding [v, ov] (eval b X.env)
      standAt sp
      holding [v, ov, iv] (setItem ov iv v)
      release [v, ov, iv] []) := by intro _; rfl)
    (hs : swapsWithSole [.Subscript o b sp] e pos.line X.env = pure false := by rfl) (hw : swappedStores [.Subscript o b sp] e X.env = pure none := by rfl) (h3 : (assignEach [.Subscript o b sp] X.env).map (·.2) = [assign (.Subscript o b sp) X.env] := by rfl) :
    SD X W T (.Assign [.Subscript o b sp] e pos :: ss) δ ω R :=
  sd_cons fun σ H Dd rl t kt => ws (ps_asg pe_w (pg_sub pe_w pe_w set_list ha) hs hw h3) (he σ H rl t _ (fun r ω1 y H1 z1 st l dv => by
    obtain ⟨j, xs, hx, ho, hb, hn, z1⟩ := z1
    refine hx σ H1 l _ fun v H2 s2 d2 => hb σ H2 (l.mono s2) _ fun iv H3 s3 d3 => ?_
    have d2 : v = .ref c := d2
    subst d2
    cases d3
    have l3 := l.mono (s2.trans s3)
    obtain ⟨vs, g1, g2⟩ := l3.ro.ob c _ (at_mem ho)
    have lv : vs.length = xs.length := paired_len g2
    refine ⟨c, vs, k, n, rfl, rfl, g1, ?_, ?_⟩
    · rw [lv]
      exact hn
    · have am : c ∈ ads ω1 := List.mem_append_right _ (List.mem_map.mpr ⟨_, at_mem ho, rfl⟩)
      have hh : Same (hid (ads ω1) H3) (hid (ads ω1) (upd H3 c (.lst (vs.set n y)))) := fun bb o h => by
        obtain ⟨n, e⟩ := hid_out h
        exact hid_of n (by rw [upd_ne (fun q => n (by rw [q]; exact am))]; exact e)
      obtain ⟨st2, l4⟩ := own_at (T := T) (o' := .lst (xs.set n r)) (H' := upd H3 c (.lst (vs.set n y))) l3 ho g1 (fun _ q => by cases q) (fun _ _ q => by unfold LamX.CodeO at q; cases q) (fun bb o nb h => by rw [upd_ne nb]; exact h) ⟨_, upd_same, paired_set (sdv_mono ((hid_same (s2.trans s3)).trans hh) dv) n (L2.Paired.mapP g2 fun _ _ q => sdv_mono hh q)⟩
      exact kt.nx δ _ σ _ z1 ((st.trans (.of (s2.trans s3))).trans st2) l4) (fun C ω' σ' H' z q l => kt.ex C ω' σ' H' z q l))
end
end FP

namespace FP
open PySem PySem.Spec PyProof.Rows L2 HotX L2H
/-! ### min(xs, key=f), f a def that raises nothing -/
section
variable {X : Cx}
theorem run_fn1 {k : Nat} {f : Addr} {fd : FuncData} {ps : List Str} {sp : Sp} {pins : List (Addr × Obj)} {σ : L2.St} {H : Hp} {s : Shared} {Q : VK} {us : List Value} {vs : List V} (F : FnOk X.prog X.w X.K X.mg X.base (L2N.CX X.prog X.w) k f fd ps sp) (hr : Room k X.A.in1) (hb : Binds X.K fd ps [])
    (I : Inv X pins σ H s) (r : Vals vs us) (h : sp vs H Q (fun _ _ _ => False)) : wpAny (model X.prog X.w) X.A.in1 (call (.ref f) us) (EP X pins σ Q) (fun _ _ => False) s := by
  have hl : us.length = ps.length := by rw [← r.length]; exact F.len _ _ _ _ h
  have hb2 := hb s us I.kIn (by rw [List.append_nil]; exact hl)
  rw [List.append_nil] at hb2
  refine wpAny_call (codeAny_mono (F.run X.A.in1 X.stack s H ⟨us, []⟩ us vs Q (fun _ _ _ => False) hr I.env0.in1 hb2 r h) fun r s' hq => ?_)
  cases r with
  | error e =>
    obtain ⟨_, _, _, _, _, _, _, _, _, _, _, _, z⟩ := hq
    exact z
  | ok fl =>
    cases fl with
    | ret u => exact I.after hq
    | next => exact False.elim hq
    | brk => exact False.elim hq
    | cont => exact False.elim hq
/-- the two objects of the loop -/
theorem two_pins {pins : List (Addr × Obj)} {σ : L2.St} {H : Hp} {s : Shared} {S I : Addr} {oS oI : Obj} (J : Inv X pins σ H s) (fS : FpOk X pins H S) (fI : FpOk X pins H I) (gS : s.heap.get? S = some oS) (gI : s.heap.get? I = some oI) (dS : ∀ v, oS.data ≠ .cell v) (dI : ∀ v, oI.data ≠ .cell v) :
    Inv X (pins ++ [(S, oS), (I, oI)]) σ H s := J.pins_of fun p hp => by
  rcases List.mem_append.mp hp with z | z
  · exact J.pin p (List.mem_append_right _ z)
  · rcases List.mem_cons.mp z with rfl | z
    · exact ⟨gS, fS.1, fS.2.1, fS.2.2.1, dS⟩
    · rw [List.mem_singleton.mp z]
      exact ⟨gI, fI.1, fI.2.1, fI.2.2.1, dI⟩
/-- what the loop keeps: nothing yet, or the best so far and its key -/
inductive MinSt (items : List V) (kf : Nat → Int) : Nat → Array Value → Prop
  | nil : MinSt items kf 0 #[]
  | best {j i : Nat} {x : V} {vb : Value} {tb : Tok} (lt : i < j) (at_ : items[i]? = some x) (rel : RelV x vb) (first : ∀ j', j' < j → kf i ≤ kf j' ∧ (j' < i → kf i < kf j')) : MinSt items kf j #[vb, .int (kf i) tb]
theorem MinSt.one {items : List V} {kf : Nat → Int} {x : V} {v : Value} {t : Tok} (h : items[0]? = some x) (r : RelV x v) : MinSt items kf 1 #[v, .int (kf 0) t] :=
  .best Nat.one_pos h r fun j' hj => by
    obtain rfl : j' = 0 := by omega
    exact ⟨Int.le_refl _, fun z => absurd z (Nat.lt_irrefl _)⟩
theorem MinSt.less {items : List V} {kf : Nat → Int} {j i : Nat} {x : V} {v : Value} {t : Tok} (f : ∀ j', j' < j → kf i ≤ kf j' ∧ (j' < i → kf i < kf j')) (hx : items[j]? = some x) (r : RelV x v) (lt : kf j < kf i) : MinSt items kf (j + 1) #[v, .int (kf j) t] :=
  .best (Nat.lt_succ_self j) hx r fun j' hj => by
    rcases Nat.lt_or_ge j' j with z | z
    · have := (f j' z).1
      omega
    · obtain rfl : j' = j := by omega
      omega
theorem MinSt.more {items : List V} {kf : Nat → Int} {j i : Nat} {x : V} {v : Value} {t : Tok} (lt : i < j) (hx : items[i]? = some x) (r : RelV x v) (f : ∀ j', j' < j → kf i ≤ kf j' ∧ (j' < i → kf i < kf j')) (ge : ¬ kf j < kf i) : MinSt items kf (j + 1) #[v, .int (kf i) t] :=
  .best (Nat.lt_succ_of_lt lt) hx r fun j' hj => by
    rcases Nat.lt_or_ge j' j with z | z
    · exact f j' z
    · obtain rfl : j' = j := by omega
      omega
set_option maxHeartbeats 16000000 in
/-- one theorem for all turns: by how many are still to come -/
theorem min_loop {k : Nat} {q l S I : Addr} {fd : FuncData} {ps : List Str} {sp : Sp} (F : FnOk X.prog X.w X.K X.mg X.base (L2N.CX X.prog X.w) k q fd ps sp) (hr : Room k X.A.in1) (hb : Binds X.K fd ps []) (hc : X.calm = true) {items : List V} (kf : Nat → Int) {H0 : Hp} (hl : H0 l = some (.lst items)) (hne : 0 < items.length)
    (turn : ∀ i x H, Same H0 H → items[i]? = some x → ∀ Q : VK, (∀ H', Same H H' → Q (.int (kf i)) H') → sp [x] H Q (fun _ _ _ => False)) {pins : List (Addr × Obj)} {σ : L2.St} {R : Result → Shared → Prop} (hSI : S ≠ I)
    (hR : ∀ i x u H s, Inv X pins σ H s → Same H0 H → items[i]? = some x → RelV x u → (∀ j, j < items.length → kf i ≤ kf j ∧ (j < i → kf i < kf j)) → R (.ok (.ret u)) s) :
    ∀ (n j : Nat) (s : Shared) (H : Hp) (arr : Array Value) (c : Nat), j + n = items.length → MinSt items kf j arr → Inv X pins σ H s → Same H0 H → FpOk X pins H S → FpOk X pins H I → s.heap.get? S = some (seqObj "list" arr c) → s.heap.IsListIter I l j →
      codeAny (model X.prog X.w) X.A (.builtin "min.loop" ⟨[.ref I, .ref q, .ref S], []⟩) R s := by
  have again : "min.loop" = (toString "min" ++ toString ".loop" : String) := by decide
  intro n
  induction n with
  | zero =>
    intro j s H arr c hj st J sm fS fI gS hit
    have hj : j = items.length := hj
    cases st with
    | nil => exact absurd hne (by omega)
    | best lt hx rx first =>
      rename_i i x vb tb
      subst hj
      obtain ⟨us, rv, pl, _⟩ := J.list (SqL.of (sm l _ hl))
      have apart : l ≠ I := fun z => nomatch (z ▸ sm l _ hl).symm.trans fI.1
      have size : us.toArray.size = items.length := by rw [List.size_toArray, ← rv.length]
      refine codeAny_builtin PySem.F.entry_min_loop ?_; rw [Around.under_plainId PySem.F.plain_min_loop _]
      refine wpAny_bind (wpAny_seqItems gS rfl (wpAny_bind (wpAny_tryCatch ((Walks.list (prog := X.prog) (w := X.w) (A := X.A.in1) (J.ok.hd hc) I l apart us.toArray).done _ _ _ ⟨by rw [size]; exact hit, pl.isList⟩ fun h1 t1 k1 => wpAny_bind (wpAny_updateSeq (k1 S _ (by simpa using hSI) gS) rfl (wpAny_bind (wpAny_letGo (wpAny_pure ?_))))))))
      have J1 : Inv X pins σ H { s with heap := h1, toks := t1 } := J.turnedL (ch := [I]) (fun b o hb q => k1 b o hb q) (fun b hb => (List.mem_singleton.mp hb) ▸ fI)
      exact hR i x vb H _ (J1.turnedL (t' := t1) (h' := h1.update S (Obj.mapSeq fun _ => (#[] : Array Value))) (ch := [S]) (fun b o hb q => ((Heap.SameBut.update h1 S _).2 b (fun z => hb (by simp [z]))).trans q) (fun b hb => (List.mem_singleton.mp hb) ▸ fS)) sm hx rx first
  | succ n ih =>
    intro j s H arr c hj st J sm fS fI gS hit
    have hlt : j < items.length := by omega
    obtain ⟨us, rv, pl, _⟩ := J.list (SqL.of (sm l _ hl))
    have apart : l ≠ I := fun z => nomatch (z ▸ sm l _ hl).symm.trans fI.1
    have size : us.toArray.size = items.length := by rw [List.size_toArray, ← rv.length]
    obtain ⟨y, hy⟩ : ∃ y, items[j]? = some y := ⟨_, List.getElem?_eq_getElem hlt⟩
    refine codeAny_builtin PySem.F.entry_min_loop ?_; rw [Around.under_plainId PySem.F.plain_min_loop _]
    refine wpAny_bind (wpAny_seqItems gS rfl (wpAny_bind (wpAny_tryCatch ((Walks.list (prog := X.prog) (w := X.w) (A := X.A.in1) (J.ok.hd hc) I l apart us.toArray).item j _ _ _ (by rw [size]; exact hlt) ⟨hit, pl.isList⟩ fun v h1 t1 hv hst k1 => ?_))))
    obtain ⟨v', hv', ry⟩ := rv.get hy
    obtain rfl : v' = v := by simpa [hv'] using hv
    obtain ⟨oI, hoI, hoc, hod⟩ := hst.1
    have J1 : Inv X pins σ H { s with heap := h1, toks := t1 } := J.turnedL (ch := [I]) (fun b o hb q => k1 b o hb q) (fun b hb => (List.mem_singleton.mp hb) ▸ fI)
    have J2 := two_pins J1 fS fI (k1 S _ (by simpa using hSI) gS) hoI (fun v q => nomatch q) (fun v q => by rw [hod] at q; cases q)
    refine wpAny_bind (wpAny_tryCatch (wpAny_holding (wpAny_mono (run_fn1 F hr hb J2 (.cons ry .nil) (turn j y H sm hy (fun u H2 => u = .int (kf j) ∧ Same H H2) fun H2 s2 => ⟨rfl, s2⟩)) (fun u s'' he => ?_) fun _ _ hF => hF.elim)))
    obtain ⟨u', H2, J3, ru, rfl, s2⟩ := he
    obtain ⟨t2, rfl⟩ := ru
    have pS := J3.pin (S, seqObj "list" arr c) (List.mem_append_right _ (List.mem_append_right _ List.mem_cons_self))
    have pI := J3.pin (I, oI) (List.mem_append_right _ (List.mem_append_right _ (List.mem_cons_of_mem _ List.mem_cons_self)))
    have J4 : Inv X pins σ H2 s'' := J3.pins_of fun p hp => J3.pin p (List.mem_append_right _ (List.mem_append_left _ hp))
    have fS2 : FpOk X pins H2 S := ⟨pS.2.1, fS.2⟩
    have fI2 : FpOk X pins H2 I := ⟨pI.2.1, fI.2⟩
    -- the key is new, and the loop goes on
    have put : MinSt items kf (j + 1) #[v', .int (kf j) t2] → codeAny (model X.prog X.w) X.A (.builtin "min.loop" ⟨[.ref I, .ref q, .ref S], []⟩) R { s'' with heap := s''.heap.update S (Obj.mapSeq fun _ => #[v', .int (kf j) t2]) } := fun st2 =>
      have sb := Heap.SameBut.update s''.heap S (Obj.mapSeq fun _ => #[v', .int (kf j) t2])
      ih (j + 1) _ H2 _ _ (by omega) st2 (J4.turnedL (t' := s''.toks) (ch := [S]) (fun b o hb q => (sb.2 b (fun z => hb (by simp [z]))).trans q) (fun b hb => (List.mem_singleton.mp hb) ▸ fS2)) (sm.trans s2) fS2 fI2 (get?_update_seq pS.1 fun _ => #[v', .int (kf j) t2]) ⟨oI, (sb.2 I hSI.symm).trans pI.1, hoc, hod⟩
    cases st with
    | nil => exact wpAny_bind (wpAny_updateSeq pS.1 rfl (again ▸ wpAny_pure ⟨plainId_quiet PySem.F.plain_min_loop _, put (.one hy ry)⟩))
    | best lt hx rx first =>
      rename_i i x vb tb
      refine wpAny_bind (wpAny_tryCatch (wpAny_holding (wpAny_bind (CmpOf.ints_lt (prog := X.prog) (w := X.w) (A := X.A.in1) (P := fun i v => ∃ t, v = .int (kf i) t) kf (fun i v h => h) j i _ _ _ _ _ ⟨t2, rfl⟩ ⟨tb, rfl⟩ (wpAny_bind (wpAny_holding (wpAny_truthy_bool (wpAny_bind (wpAny_letGo (wpAny_pure ?_))))))))))
      by_cases less : kf j < kf i
      · rw [if_pos (show (fun i j => decide (kf i < kf j)) j i = true from decide_eq_true less)]
        exact wpAny_bind (wpAny_updateSeq pS.1 rfl (wpAny_bind (wpAny_letGo (again ▸ wpAny_pure ⟨plainId_quiet PySem.F.plain_min_loop _, put (.less first hy ry less)⟩))))
      · rw [if_neg (show ¬ (fun i j => decide (kf i < kf j)) j i = true from fun z => less (of_decide_eq_true z))]
        exact wpAny_bind (wpAny_letGo (again ▸ wpAny_pure ⟨plainId_quiet PySem.F.plain_min_loop _, ih (j + 1) _ H2 _ c (by omega) (.more lt hx rx first less) J4 (sm.trans s2) fS2 fI2 pS.1 ⟨oI, pI.1, hoc, hod⟩⟩))
set_option maxHeartbeats 16000000 in
theorem call_minK {k : Nat} {q l : Addr} {fd : FuncData} {ps : List Str} {sp : Sp} (F : FnOk X.prog X.w X.K X.mg X.base (L2N.CX X.prog X.w) k q fd ps sp) (hr : Room k X.A.in1) (hb : Binds X.K fd ps []) (hc : X.calm = true) {items : List V} (kf : Nat → Int) {H0 : Hp} (hl : H0 l = some (.lst items)) (hne : 0 < items.length)
    (turn : ∀ i x H, Same H0 H → items[i]? = some x → ∀ Q : VK, (∀ H', Same H H' → Q (.int (kf i)) H') → sp [x] H Q (fun _ _ _ => False)) {pins : List (Addr × Obj)} {σ : L2.St} {s : Shared} {Q : VK} (J : Inv X pins σ H0 s)
    (hQ : ∀ i x H, Same H0 H → items[i]? = some x → (∀ j, j < items.length → kf i ≤ kf j ∧ (j < i → kf i < kf j)) → Q x H) :
    wpAny (model X.prog X.w) X.A (call (.builtin "min") [.ref l] [(Str.ofString "key", .ref q)]) (EP X pins σ Q) X.xe s := by
  have again : "min.loop" = (toString "min" ++ toString ".loop" : String) := by decide
  obtain ⟨us, rv, pl, _⟩ := J.list (SqL.of hl)
  have one : (s.heap.push { cls := .type "list_iterator", data := .fields #[.ref l, .int 0 0] }).objs.size = s.heap.objs.size + 1 := Heap.size_push ..
  have apart : (s.heap.push { cls := .type "list_iterator", data := .fields #[.ref l, .int 0 0] }).objs.size ≠ s.heap.objs.size := fun z => Nat.succ_ne_self _ (one.symm.trans z)
  have new : ∀ b, s.heap.objs.size ≤ b → FpOk X pins H0 b := fun b h => J.fpOk h (J.hok.fresh h)
  refine kmk_tree PySem.F.kind_min PySem.F.plain_min PySem.F.entry_min (kmk_min_key _ _) (wpAny_bind (wpAny_of_eq (a := [some (.ref q), none]) rfl (wpAny_bind (wpAny_pure (wpAny_bind (wpAny_pyIter_list pl.isList (wpAny_bind (wpAny_newList ?_ (Nat.zero_le _)))))))))
  exact again ▸ wpAny_pure ⟨plainId_quiet PySem.F.plain_min_loop _, min_loop F hr hb hc kf hl hne turn apart (fun i x u H s J sm hx rx first => ⟨x, H, J, rx, hQ i x H sm hx first⟩) items.length 0 _ H0 #[] 0 (Nat.zero_add _) .nil (J.kept (t' := s.toks) fun b o e => Heap.get?_push_of_some _ (Heap.get?_push_of_some _ e)) (Same.refl H0) (new _ (by rw [one]; exact Nat.le_succ _)) (new _ (Nat.le_refl _)) (Heap.get?_push_size _ rfl) ⟨_, Heap.get?_push_of_some _ (Heap.get?_push_size _ rfl), rfl, rfl⟩⟩
def rMinK (f : Addr) (sp : Sp) (kf : Nat → Int) : List V → List V → Hp → VK → Prop := fun vs zs H Q => ∃ (l : Addr) (items : List V), vs = [.ref l] ∧ zs = [.ref f] ∧ H l = some (.lst items) ∧ 0 < items.length ∧
  (∀ i x H', Same H H' → items[i]? = some x → ∀ Q : VK, (∀ H2, Same H' H2 → Q (.int (kf i)) H2) → sp [x] H' Q (fun _ _ _ => False)) ∧ ∀ i x H', Same H H' → items[i]? = some x → (∀ j, j < items.length → kf i ≤ kf j ∧ (j < i → kf i < kf j)) → Q x H'
theorem cr_minKey {k : Nat} {q : Addr} {fd : FuncData} {ps : List Str} {sp : Sp} (F : FnOk X.prog X.w X.K X.mg X.base (L2N.CX X.prog X.w) k q fd ps sp) (hr : Room k X.A.in1) (hb : Binds X.K fd ps []) (hc : X.calm = true) (kf : Nat → Int) : CallRK X (.builtin "min") [Str.ofString "key"] (rMinK q sp kf) := by
  intro pins s σ H xs zs us ws Q I r1 r2 h
  obtain ⟨l, items, rfl, rfl, hl, hne, turn, hQ⟩ := h
  cases r1 with
  | cons a b =>
    cases b
    cases a
    cases r2 with
    | cons a b =>
      cases b
      cases a
      exact call_minK F hr hb hc kf hl hne turn I hQ
variable {δ : De} {ω : Om} {a : Expr} {d : PyData} {ds : List PyData} {pos p : Pos}
theorem pd_minK {k : Nat} {kx : Str} {kp kpos : Pos} {kf : Nat → Int} {fr : List PyData → Rs → Prop} (G : DefOk X.prog X.w X.K X.mg X.base k kx fr) (hr : Room (k + 1) X.A) (hc : X.calm = true) (hm : X.mg "min" = none) (ha : PN X δ ω a ds) (hne : 0 < ds.length) (hf : ∀ i e, ds[i]? = some e → fr [e] (.ok (.int (kf i))))
    (hd : ∀ i e, ds[i]? = some e → (∀ j, j < ds.length → kf i ≤ kf j ∧ (j < i → kf i < kf j)) → e = d) (hg : Gl X "min" := by rfl) (hgk : Gl X kx := by rfl) (hdk : (kx == ("__debug__" : Str)) = false := by decide) (hs : starEach [a] X.env = (false, eval a X.env) :: starEach [] X.env := by rfl)
    (he : backTo pos (starEach [a] X.env) = (false, eval a X.env) :: backTo pos (starEach [] X.env) := by rfl) (hpl : (backTo pos (starEach [a] X.env)).any (·.1) = false := by rfl)
    (hall : (backToKw pos (keywordEach [⟨some "key", .Name kx kp, kpos⟩] X.env)).all (·.1.isSome) = true := by rfl) (hnone : (backToKw pos (keywordEach [⟨some "key", .Name kx kp, kpos⟩] X.env)).any (·.1.isNone) = false := by rfl) (hks : (backToKw pos (keywordEach [⟨some "key", .Name kx kp, kpos⟩] X.env)).filterMap (·.1) = [Str.ofString "key"] := by rfl) :
    PD X δ ω (.Call (.Name "min" p) [a] [⟨some "key", .Name kx kp, kpos⟩] pos) d := fun σ H rl Q q => by
  obtain ⟨f, fd, ps, F, m, kpp, b⟩ := G.ex
  refine we (pe_callBK (cr_minKey F hr.in1 b hc kf) hg hm PyProof.Rows.boot_min (pa_cons pe_w pa_nil hs) (pk_cons (pe_glob (v := .ref f) hgk m rfl hdk) pk_nil) (by decide) (by decide) he hpl hall hnone hks) ?_
  refine ha σ H rl _ fun l vs H1 s1 np h1 d1 => ?_
  have lv : vs.length = ds.length := dpa_len d1
  have get : ∀ i x, vs[i]? = some x → ∃ e, ds[i]? = some e ∧ Dp X.K (hid (l :: ads ω) H1) x e := fun i x hx => dpa_get' d1 hx
  refine ⟨l, vs, rfl, rfl, h1, by rw [lv]; exact hne, fun i x H2 s2 hx Q2 hQ2 => ?_, fun i x H2 s2 hx hbest => ?_⟩
  · obtain ⟨e, h3, h4⟩ := get i x hx
    exact ⟨ads ω, [e], .ok (.int (kf i)), there_mono rl.ro.there (s1.trans s2), .cons (dpm (hid_cons.trans (hid_same s2)) h4) .nil, hf i e h3, fun v H3 s3 d3 => by
      cases d3
      exact hQ2 H3 s3⟩
  · obtain ⟨e, h3, h4⟩ := get i x hx
    have ed := hd i e h3 (by rw [← lv]; exact hbest)
    subst ed
    exact q x H2 (s1.trans s2) (dpm (hid_cons.trans (hid_same s2)) h4)
end
end FP

namespace FP
open PySem PySem.Spec PyProof.Rows L2 HotX L2H
/-! ### sorted(range(a, b), key=abs) -/
section
variable {X : Cx} {pins : List (Addr × Obj)} {σ : L2.St} {H : Hp} {s : Shared} {h' : Heap}
theorem inv_nsNew {t' : Nat} {T : Addr} {ob : HO} {m : Str → Option Value} (J : Inv X pins σ H s) (hm : s.heap.Ns X.env.locals m) (hm' : h'.Ns X.env.locals m) (k : ∀ b o, b ≠ X.env.locals → s.heap.get? b = some o → h'.get? b = some o) (hT : s.heap.objs.size ≤ T)
    (new : ObjOk X.prog X.w (upd H T ob) h' T ob) : Inv X pins σ (upd H T ob) { s with heap := h', toks := t' } := by
  have hn : H T = none := J.hok.fresh hT
  have nL : ∀ b u, H b = some u → b ≠ X.env.locals := fun b u e z => by
    rw [z, J.free] at e
    cases e
  refine J.step (g' := s.gens) (d' := s.drawn) (ch := []) (fun b hb => (List.not_mem_nil hb).elim) (fun b o nb _ _ e _ => k b o nb e) (fun b o nb _ _ e _ => ⟨o.slots, k b o nb e⟩)
    (fun b o _ e n => ?_) (fun b o _ e => ?_) (fun b xs e => ?_) (fun b o u e => ?_) (fun b ps e => ⟨#[], ?_⟩) (fun m2 h2 => ?_) (fun b u e => ?_) J.bare
  · rw [upd_ne (Nat.ne_of_lt (Nat.lt_of_lt_of_le (Heap.lt_size e) hT))]; exact n
  · by_cases hb : b = X.env.locals
    · obtain ⟨o2, _, _, ho2, _⟩ := hm'
      rw [hb]
      exact ⟨o2, ho2⟩
    · exact ⟨o, k b o hb e⟩
  · rw [upd_ne (ne_of_none e hn)]; exact e
  · rw [upd_ne (ne_of_none e hn)]; exact e
  · rw [upd_ne (ne_of_none e hn), e]; simp
  · have : m2 = m := funext fun x => h2.agree hm x
    rw [this]
    exact hm'
  · by_cases hb : b = T
    · subst hb
      rw [upd_same] at e
      cases e
      exact new
    · rw [upd_ne hb] at e
      refine (J.hok b u e).stay (fun c v hc q => k c v ?_ q) (fun c q => by rw [upd_ne (ne_of_none q hn)]; exact q) fun c xs q => by rw [upd_ne (ne_of_none q hn)]; exact q
      rcases hc with z | z
      · rw [z]; exact nL b u e
      · exact nL c _ z
theorem vals_ints : ∀ {us : List Value} {ns : List Int}, IntsAre us ns → Vals (ns.map V.int) us
  | _, _, .nil => .nil
  | _, _, .cons n t h => .cons ⟨t, rfl⟩ (vals_ints h)
def absI (n : Int) : Int := if n < 0 then -n else n
/-- how the numbers stand then -/
structure AbsSorted (ns' ns : List Int) : Prop where
  perm : ns'.Perm ns
  ord : ns'.Pairwise fun x y => absI x ≤ absI y
  stay : ∀ z, ns'.filter (fun x => absI x == z) = ns.filter (fun x => absI x == z)
def rgI (a b : Int) : List Int := (List.range (b - a).toNat).map fun (i : Nat) => a + (i : Int)
theorem rgV_I (a b : Int) : rgV a b = (rgI a b).map V.int := by
  unfold rgV rgI
  rw [List.map_map]
  rfl
/-- a number with its key -/
def kyd (v : Value) : Int × Value := (absI (numOf v), v)
theorem zip_kyd : ∀ {vs : List Value} {ns : List Int}, IntsAre vs ns → (ns.map absI).zip vs = vs.map kyd ∧ ns = vs.map numOf
  | _, _, .nil => ⟨rfl, rfl⟩
  | _, _, .cons n t h => by
    obtain ⟨e1, e2⟩ := zip_kyd h
    refine ⟨?_, congrArg (List.cons n) e2⟩
    exact congrArg (List.cons (absI n, _)) e1
theorem ints_num : ∀ {vs : List Value}, (∀ v ∈ vs, ∃ n t, v = .int n t) → IntsAre vs (vs.map numOf)
  | [], _ => .nil
  | v :: vs, h => by
    obtain ⟨n, t, rfl⟩ := h v List.mem_cons_self
    exact .cons n t (ints_num fun u hu => h u (List.mem_cons_of_mem _ hu))
theorem ints_all : ∀ {vs : List Value} {ns : List Int}, IntsAre vs ns → ∀ v ∈ vs, ∃ n t, v = Value.int n t
  | _, _, .nil, v, hv => (List.not_mem_nil hv).elim
  | _, _, .cons n t h, v, hv => (List.mem_cons.mp hv).elim (fun e => ⟨n, t, e⟩) fun e => ints_all h v e
theorem out_abs {ns : List Int} {vs out : List Value} (hi : IntsAre vs ns) (ko : KskOutSt false (ns.map absI) vs out) : ∃ ns', IntsAre out ns' ∧ AbsSorted ns' ns := by
  obtain ⟨ez, en⟩ := zip_kyd hi
  obtain ⟨ps, pm, eo, od, st⟩ := ko
  rw [ez] at pm st
  -- each pair is a number with its key
  have eps : ps = out.map kyd := by
    rw [eo, List.map_map]
    conv => lhs; rw [← List.map_id ps]
    refine List.map_congr_left fun p hp => ?_
    obtain ⟨v, _, rfl⟩ := List.mem_map.mp (pm.mem_iff.mp hp)
    rfl
  have po : out.Perm vs := by
    have := pm.map Prod.snd
    rw [← eo, List.map_map] at this
    have e : vs.map (Prod.snd ∘ kyd) = vs := List.map_id'' (fun _ => rfl) vs
    rwa [e] at this
  refine ⟨out.map numOf, ints_num fun v hv => ints_all hi v (po.mem_iff.mp hv), by rw [en]; exact po.map numOf, ?_, fun z => ?_⟩
  · rw [eps, List.pairwise_map] at od
    rw [List.pairwise_map]
    exact od.imp fun h => by simpa [kyd] using h
  · have := congrArg (List.map fun p : Int × Value => numOf p.2) (st z)
    rw [eps, List.filter_map, List.filter_map, List.map_map, List.map_map] at this
    rw [en, List.filter_map, List.filter_map]
    exact this
set_option maxHeartbeats 16000000 in
theorem call_sortedAbs {r : Addr} {a b : Int} {t u v : Tok} {Q : VK} (J : Inv X pins σ H s) (hc : X.calm = true) (hr : IsRange s.heap r a b 1 t u v) (ok : RgOk a b) (hn : (b - a).toNat ≤ 100000)
    (q : ∀ (ns' : List Int) (p : Addr), AbsSorted ns' (rgI a b) → H p = none → Q (.ref p) (upd H p (.lst (ns'.map V.int)))) :
    wpAny (model X.prog X.w) X.A (call (.builtin "sorted") [.ref r] [(Str.ofString "key", .builtin "abs")]) (EP X pins σ Q) X.xe s := by
  obtain ⟨b1, b2, b3, b4, b5⟩ := ok
  refine call_function_entry_kw kind_sorted plain_sorted entry_sorted (ksk_s1 _ _) ?_
  unfold Builtin.«sorted»
  refine wpAny_bind (m := checkCount "sorted" 1 1 _) (wpAny_pure ?_)
  refine wpAny_bind (collect_range (n := (b - a).toNat) (J.ok.hd hc) hr (small_one b1 b2 b3 b4) (rangeSize_nat a b) b5 fun h1 tk1 acc hk1 hi => ?_)
  have V1 := vals_rg hi
  rw [rgV_I] at V1
  have I1 : IntsAre acc.toList (rgI a b) := RZ.intsAre_vals V1
  have la : acc.toList.length = (b - a).toNat := by rw [← V1.length, List.length_map]; unfold rgI; simp
  refine wpAny_bind (wpAny_newList ?_ (by rw [la, sizeLine_eq]; omega))
  have J1 : Inv X pins σ H { s with heap := h1, toks := tk1 } := J.kept hk1
  have J2 : Inv X pins σ H { s with heap := h1.push (seqObj "list" acc.toList.toArray 0), toks := tk1 } := J.kept fun b o e => Heap.get?_push_of_some _ (hk1 b o e)
  have hoL : (h1.push (seqObj "list" acc.toList.toArray 0)).get? h1.objs.size = some (seqObj "list" acc.toList.toArray 0) := Heap.get?_push_size _ rfl
  obtain ⟨m, F⟩ := J2.fr
  have hL1 : X.env.locals < h1.objs.size := J1.lt
  have hDL : h1.objs.size ≠ X.env.locals := Nat.ne_of_gt hL1
  have hD0 : X.base.get? h1.objs.size = none := Heap.get?_none_of_le (Nat.le_trans F.above (Nat.le_of_lt hL1))
  generalize hG : h1.push (seqObj "list" acc.toList.toArray 0) = G at J2 hoL F
  have newsN : ∃ news : List (Addr × Obj), News X.base X.env.locals G news ∧ (∀ p ∈ news, p.1 ≠ h1.objs.size) ∧ ∀ b o, b ≠ X.env.locals → b ≠ h1.objs.size → X.base.get? b = none → G.get? b = some o → (b, o) ∈ news := by
    refine ⟨(List.range G.objs.size).filterMap fun b => if b = X.env.locals ∨ b = h1.objs.size ∨ X.base.get? b ≠ none then none else (G.get? b).map fun o => (b, o), fun p hp => ?_, fun p hp => ?_, fun b o n1 n2 n3 e => ?_⟩
    · obtain ⟨b, _, hb⟩ := List.mem_filterMap.mp hp
      split at hb
      · cases hb
      · rename_i hn'
        cases e : G.get? b with
        | none => rw [e] at hb; cases hb
        | some o =>
          rw [e] at hb
          cases hb
          refine ⟨e, fun z => hn' (.inl z), ?_⟩
          cases z : X.base.get? b with
          | none => rfl
          | some y => exact (hn' (.inr (.inr (by rw [z]; exact fun w => by cases w)))).elim
    · obtain ⟨b, _, hb⟩ := List.mem_filterMap.mp hp
      split at hb
      · cases hb
      · rename_i hn'
        cases e : G.get? b with
        | none => rw [e] at hb; cases hb
        | some o =>
          rw [e] at hb
          cases hb
          exact fun z => hn' (.inr (.inl z))
    · refine List.mem_filterMap.mpr ⟨b, List.mem_range.mpr (Heap.lt_size e), ?_⟩
      rw [if_neg (by
        rintro (z | z | z)
        · exact n1 z
        · exact n2 z
        · exact z n3), e]
      rfl
  obtain ⟨news, N, hna, full⟩ := newsN
  have hlen : ((rgI a b).map absI).length = acc.toList.length := by rw [List.length_map, I1.length]
  refine wpAny_bind (wpAny_holding (wpAny_call_entry_kw slot_list_sort (s := { s with heap := G, toks := tk1 }) ⟨_, hoL, rfl⟩ entry_list_sort ?body (ksk_l1 _ _)))
  case body =>
    show wpAny (model X.prog X.w) X.A.in1.in1 (Builtin.«list.sort» ⟨[.ref h1.objs.size], [(Str.ofString "key", .builtin "abs")]⟩) _ _ _
    rw [ksk_t4]
    refine ksk_sortSt (b := false) (kz := (rgI a b).map absI) (vs := acc.toList) (s := { s with heap := G, toks := tk1 }) F N hoL hDL hD0 hna hlen (by rw [la, sizeLine_eq]; omega) (fun i v k hv hk h tk own F' N' => ?_) fun h2 tk out c F' N' k' => ⟨_, rfl, ?_⟩
    · rw [List.getElem?_map] at hk
      cases qn : (rgI a b)[i]? with
      | none => rw [qn] at hk; cases hk
      | some n =>
        rw [qn] at hk
        cases hk
        obtain ⟨t2, ht2⟩ := I1.get i n qn
        rw [ht2] at hv
        cases hv
        exact call_abs_int fun u2 tk2 => KskEnd.intro F' N' fun p hp => hp
    · refine wpAny_pure ⟨_, rfl, ?_⟩
      obtain ⟨ns', hI', srt⟩ := out_abs I1 k'
      have pD := N' (h1.objs.size, seqObj "list" out c) List.mem_cons_self
      have keep : ∀ b o, b ≠ X.env.locals → h1.get? b = some o → h2.get? b = some o := fun b o n1 e => by
        have nD : b ≠ h1.objs.size := Nat.ne_of_lt (Heap.lt_size e)
        have eG : G.get? b = some o := by rw [← hG]; exact Heap.get?_push_of_some _ e
        cases eb : X.base.get? b with
        | none => exact (N' (b, o) (List.mem_cons_of_mem _ (full b o n1 nD eb eG))).1
        | some o2 =>
          have e2 := F.keep b o2 eb
          rw [eG] at e2
          cases e2
          exact F'.keep b _ eb
      have nsG : h1.Ns X.env.locals m := by
        obtain ⟨o, es, ep, ho, rr⟩ := F.ns
        refine ⟨o, es, ep, ?_, rr⟩
        rw [← hG, Heap.get?_push_ne _ _ _ (Ne.symm hDL)] at ho
        exact ho
      have lo : ns'.length = (b - a).toNat := by rw [srt.perm.length_eq]; unfold rgI; simp
      have new : ObjOk X.prog X.w (upd H h1.objs.size (.lst (ns'.map V.int))) h2 h1.objs.size (.lst (ns'.map V.int)) := ⟨by rw [List.length_map, lo, sizeLine_eq]; omega, out.toList, c, vals_ints hI', by rw [Array.toArray_toList]; exact pD.1⟩
      have J3 := inv_nsNew (t' := tk) J1 nsG F'.ns keep (Nat.le_refl _) new
      exact ⟨.ref h1.objs.size, _, J3, rfl, q ns' _ srt (J1.hok.fresh (Nat.le_refl _))⟩
/-! ### which list it is -/
theorem abs_unique : ∀ (l1 l2 : List Int), l1.Pairwise (fun x y => absI x ≤ absI y) → l2.Pairwise (fun x y => absI x ≤ absI y) → (∀ z, l1.filter (fun x => absI x == z) = l2.filter (fun x => absI x == z)) → l1 = l2
  | [], [], _, _, _ => rfl
  | [], y :: t, _, _, h => by
    have := h (absI y)
    rw [List.filter_cons, if_pos (by simp)] at this
    cases this
  | x :: t, [], _, _, h => by
    have := h (absI x)
    rw [List.filter_cons, if_pos (by simp)] at this
    cases this
  | x :: t1, y :: t2, h1, h2, h => by
    obtain ⟨a1, b1⟩ := List.pairwise_cons.mp h1
    obtain ⟨a2, b2⟩ := List.pairwise_cons.mp h2
    have le1 : absI y ≤ absI x := by
      have m : x ∈ (y :: t2).filter (fun w => absI w == absI x) := by
        rw [← h (absI x)]
        exact List.mem_filter.mpr ⟨List.mem_cons_self, by simp⟩
      rcases List.mem_cons.mp (List.mem_filter.mp m).1 with e | e
      · rw [e]; exact Int.le_refl _
      · exact a2 x e
    have le2 : absI x ≤ absI y := by
      have m : y ∈ (x :: t1).filter (fun w => absI w == absI y) := by
        rw [h (absI y)]
        exact List.mem_filter.mpr ⟨List.mem_cons_self, by simp⟩
      rcases List.mem_cons.mp (List.mem_filter.mp m).1 with e | e
      · rw [e]; exact Int.le_refl _
      · exact a1 y e
    have ek : absI x = absI y := by omega
    have hh := h (absI x)
    rw [List.filter_cons, if_pos (by simp), List.filter_cons, if_pos (by simp [ek])] at hh
    injection hh with e1 e2
    subst e1
    have rest : t1 = t2 := abs_unique t1 t2 b1 b2 fun z => by
      by_cases hz : absI x = z
      · subst hz
        exact e2
      · have := h z
        rw [List.filter_cons, if_neg (by simpa using hz), List.filter_cons, if_neg (by simpa using hz)] at this
        exact this
    rw [rest]
open Classical in
noncomputable def rollsOf (ns : List Int) : List Int := if h : ∃ l, AbsSorted l ns then Classical.choose h else []
theorem rolls_is {l ns : List Int} (h : AbsSorted l ns) : l = rollsOf ns ∧ AbsSorted (rollsOf ns) ns := by
  have hex : ∃ l, AbsSorted l ns := ⟨l, h⟩
  have hs : AbsSorted (rollsOf ns) ns := by
    unfold rollsOf
    rw [dif_pos hex]
    exact Classical.choose_spec hex
  exact ⟨abs_unique _ _ h.ord hs.ord fun z => (h.stay z).trans (hs.stay z).symm, hs⟩
variable {δ : De} {ω : Om} {a b : Expr} {d : PyData} {ds : List PyData} {pos p : Pos}
def tSortRg (te : L2.St → Hp → (Int → Int → Hp → Prop) → Prop) : TE := fun σ H Q => te σ H fun i j H1 => RgOk i j ∧ (j - i).toNat ≤ 100000 ∧ ∀ ns' q, AbsSorted ns' (rgI i j) → H1 q = none → Q (.ref q) (upd H1 q (.lst (ns'.map V.int)))
theorem pe_sortedAbs {te : L2.St → Hp → (Int → Int → Hp → Prop) → Prop} {e : Expr} {kp kpos : Pos} (hc : X.calm = true) (hg : Gl X "sorted") (hm : X.mg "sorted" = none) (hga : Gl X "abs") (hma : X.mg "abs" = none) (he : PRg X e te) (na : starEach [e] X.env = (false, eval e X.env) :: starEach [] X.env := by rfl)
    (hb : backTo pos (starEach [e] X.env) = (false, eval e X.env) :: backTo pos (starEach [] X.env) := by rfl) (hpl : (backTo pos (starEach [e] X.env)).any (·.1) = false := by rfl) : PE X (.Call (.Name "sorted" p) [e] [⟨some "key", .Name "abs" kp, kpos⟩] pos) (tSortRg te) := by
  refine ⟨fun pins s σ H Q I h => ?_⟩
  refine wpAny_Call_Name_kw (ld_blt I hg hm PyProof.Rows.boot_sorted ?_)
  refine PyProof.Rows.callWith_kw (args_cons (thn (he pins s σ H _ I h) fun x s1 ⟨r, i, j, t, u, v, H1, ex, hr, I1, ok, hn, q⟩ => args_nil ?_) na) hb hpl (by rfl) (by rfl)
  subst ex
  show wpAny _ _ (evalAll ((do let v ← eval (.Name "abs" kp) X.env; standAt pos; pure v) :: [])) _ _ s1
  refine wpAny_evalAll_cons (wpAny_bind (ld_blt I1 hga hma PyProof.Rows.boot_abs (wpAny_bind (wpAny_standAt (wpAny_pure (wpAny_evalAll_nil ?_))))))
  exact call_sortedAbs I1 hc hr ok hn q
theorem pn_sortedAbs {i j : Int} {p2 q2 kp kpos : Pos} (hc : X.calm = true) (hm : X.mg "sorted" = none) (hmr : X.mg "range" = none) (hma : X.mg "abs" = none) (ha : PD X δ ω a (.int i)) (hb : PD X δ ω b (.int j)) (ok : RgOk i j) (hn : (j - i).toNat ≤ 100000)
    (hg : Gl X "sorted" := by rfl) (hgr : Gl X "range" := by rfl) (hga : Gl X "abs" := by rfl) (na : starEach [a, b] X.env = (false, eval a X.env) :: starEach [b] X.env := by rfl)
    (nb : starEach [b] X.env = (false, eval b X.env) :: starEach [] X.env := by rfl) (hp : (backTo q2 (starEach [b] X.env)).any (·.1) = false := by rfl) (ne : starEach [.Call (.Name "range" p2) [a, b] [] q2] X.env = (false, eval (.Call (.Name "range" p2) [a, b] [] q2) X.env) :: starEach [] X.env := by rfl)
    (hb2 : backTo pos (starEach [.Call (.Name "range" p2) [a, b] [] q2] X.env) = (false, eval (.Call (.Name "range" p2) [a, b] [] q2) X.env) :: backTo pos (starEach [] X.env) := by rfl) (hpl : (backTo pos (starEach [.Call (.Name "range" p2) [a, b] [] q2] X.env)).any (·.1) = false := by rfl) :
    PN X δ ω (.Call (.Name "sorted" p) [.Call (.Name "range" p2) [a, b] [] q2] [⟨some "key", .Name "abs" kp, kpos⟩] pos) ((rollsOf (rgI i j)).map .int) := fun σ H rl Q k => by
  refine we (pe_sortedAbs hc hg hm hga hma (prg_2 hgr hmr pe_w pe_w na nb hp) ne hb2 hpl) ?_
  refine ha σ H rl _ fun x H1 s1 d1 => hb σ H1 (rl.mono s1) _ fun y H2 s2 d2 => ?_
  cases d1
  cases d2
  refine ⟨i, j, rfl, rfl, ok, hn, fun ns' q srt nq => ?_⟩
  obtain ⟨e, _⟩ := rolls_is srt
  subst e
  have sq : Same H2 (upd H2 q (.lst ((rollsOf (rgI i j)).map V.int))) := fun b o h => by
    rw [upd_ne (fun z => by rw [z, nq] at h; cases h)]
    exact h
  refine k q _ _ ((s1.trans s2).trans sq) ?_ upd_same (dpa_ints _)
  cases e0 : H q with
  | none => rfl
  | some o =>
    have := (s1.trans s2) q o e0
    rw [nq] at this
    cases this
end
end FP

namespace FP
open PySem PySem.Spec PyProof.Rows L2 HotX L2H
/-! ### [elt for a, b in pairs] -/
section
variable {X : Cx} {δ : De} {ω : Om} {iter elt : Expr} {pos : Pos}
theorem pn_lc2 {scope : Scope} {n1 n2 : Str} {j1 j2 : Nat} {es : List Expr} {kk : Nat} {tp : Pos} (ls : List (PyData × PyData)) {zs : List PyData} (hc : X.calm = true) (hN : X.N.Nodup) (hw : PWs X δ ω (.Tuple es kk tp) iter (ls.map fun q => .tuple [q.1, q.2])) (hl : zs.length = ls.length) (hz : ls.length ≤ 10000)
    (ok : BlkOk X.N X.env.scope scope [(n1, j1), (n2, j2)]) (hg : ∀ (s : Shared) (H : Hp) (C : Addr) (cl : List (Str × Addr)) (fp : List Addr), PG (X.blk s H scope (compEnvC scope cl C X.env) fp) (.Tuple es kk tp) (gTup X.K 2 (gAll [j1, j2])))
    (he : ∀ (i : Nat) (l m z : PyData), ls[i]? = some (l, m) → zs[i]? = some z → ∀ D o (s : Shared) (H : Hp) (C : Addr) (cl : List (Str × Addr)) (fp : List Addr), PD (X.blk s H scope (compEnvC scope cl C X.env) fp) (((wipeD δ [j1, j2]).set j1 (some (.im l))).set j2 (some (.im m))) (omD ω D o) elt z)
    (hs : ∀ x, foldedSetIterable iter X.env x = pure x := by intro _; rfl) : PN X δ ω (.ListComp elt [⟨.Tuple es kk tp, iter, [], 0⟩] scope pos) zs := fun σ H rl Q k => by
  obtain ⟨wi, h1, h2⟩ := hw
  refine we (pe_lc (own := [(n1, j1), (n2, j2)]) hc hN h1 ok hg (fun _ _ _ _ _ => pts_nil) (fun s H0 C cl fp => pe_blk s H0 C cl fp) hs) ?_
  refine h2 σ H rl _ fun J H1 s1 w => fun D hD => ?_
  have rl1 := rl.mono s1
  refine ⟨fun i m H2 => m = ls.length - i ∧ i ≤ ls.length ∧ Same H1 H2 ∧ ∃ vs, H2 D = some (.lst vs) ∧ DpAll X.K (hid (ads (omD ω D (.lst ((zs.take i).map .im)))) H2) vs (zs.take i), ⟨ls.length, by omega, Nat.zero_le _, same_new hD, [], upd_same, by rw [List.take_zero]; exact .nil⟩, ?_⟩
  rintro i m H2 ⟨em, hi, s2, vs, hv, dv⟩
  obtain ⟨go, stop, yld⟩ := w H2 s2
  rw [List.length_map] at go stop yld
  by_cases hlt : i < ls.length
  · have el : ls[i]? = some ls[i] := List.getElem?_eq_getElem hlt
    have ez : zs[i]? = some zs[i] := List.getElem?_eq_getElem (by omega)
    refine .inr ⟨go i hlt, fun H3 => Same H1 H3 ∧ ∃ vs, H3 D = some (.lst vs) ∧ DpAll X.K (hid (ads (omD ω D (.lst ((zs.take (i + 1)).map .im)))) H3) vs (zs.take (i + 1)), fun H3 ⟨s3, h3⟩ => ⟨ls.length - (i + 1), by omega, rfl, hlt, s3, h3⟩, fun x H3 hy => ?_⟩
    obtain ⟨e3, d, ed, dx⟩ := yld i x H3 hlt hy
    subst e3
    rw [List.getElem?_map, el] at ed
    cases ed
    cases dx with
    | tup c1 c2 =>
      cases c2 with
      | cons c3 c4 =>
        cases c4 with
        | cons c5 c6 =>
          cases c6
          rename_i qw w1 w2
          refine ⟨qw, [w1, w2], rfl, same_sqt s2 (same_sqt hid_sub c1), rfl, ?_⟩
          refine ⟨w1, _, rfl, ?_⟩
          refine ⟨w2, [], rfl, ?_⟩
          refine ⟨rfl, ?_, ?_⟩
          · rw [wipe_mem (by simp), wipe_mem (by simp), wipe_wipe (fun v h => h)]
          · have rl3 := rl1.omD hD s2 hv dv
            have rl4 := rl_wipe rl3 [j1, j2]
            have up := hid_in (ω := ω) (o := .lst ((zs.take i).map .im)) hD s2
            have rl5 := (rl4.set (i := j1) (x := .im ls[i].1) (v := w1) (dpm up c3)).set (i := j2) (x := .im ls[i].2) (v := w2) (dpm up c5)
            intro s H0 C cl fp
            refine he i ls[i].1 ls[i].2 zs[i] el ez D _ s H0 C cl fp _ _ rl5 _ fun v H4 s4 d4 => ⟨vs, s4 D _ hv, ?_, same_upd_new hD (s2.trans s4), vs ++ [v], upd_same, ?_⟩
            · rw [dpa_len dv, List.length_take]
              refine Nat.lt_of_le_of_lt (Nat.min_le_left _ _) (Nat.lt_of_lt_of_le hlt (Nat.le_trans hz ?_))
              rw [sizeLine_eq]
              decide
            · rw [List.take_add_one, ez]
              exact dpa_app (dpam hid_upd (dpam (hid_same s4) dv)) (.cons (dpm hid_upd d4) .nil)
  · have e : i = ls.length := by omega
    subst e
    refine .inl ⟨stop, ?_⟩
    rw [List.take_of_length_le (by omega)] at dv
    exact k D vs H2 (s1.trans s2) (s1.free hD) hv (dpam (hid_more fun b h => ads_omD.mpr (List.mem_cons.mp h)) dv)
end
end FP

namespace FP
open PySem
/-! ### zip, whatever became of the pair that it told last -/
abbrev zr (f0 : Value) (f : Bool) (TI TO : Addr) : Obj := { cls := .type "zip", dict := none, data := .fields #[f0, .bool f, .bool false, .ref TI, .ref TO], slots := #[] }
def Lent (v : Value) : Prop := v = .none ∨ ∃ T : Addr, v = rawInt T
/-- within a turn: base is the heap at its start -/
structure Zm (S1 S2 : Nat → Heap → Prop) (z TI TO i1 i2 : Addr) (base : Heap) (j1 j2 : Nat) (f0 : Value) (f : Bool) (a b : Value) (h : Heap) : Prop where
  sz : h.objs.size = base.objs.size
  kp : ∀ c o, c ∉ [z, TO, i1, i2] → base.get? c = some o → h.get? c = some o
  rz : h.get? z = some (zr f0 f TI TO)
  ri : IsPair h TI (.ref i1) (.ref i2)
  ro : IsPair h TO a b
  s1 : S1 j1 h
  s2 : S2 j2 h
/-- behind a turn: the new pair stands at the end -/
structure Zf (S1 S2 : Nat → Heap → Prop) (z TI TO i1 i2 : Addr) (base : Heap) (j : Nat) (f0 : Value) (x y : Value) (h : Heap) : Prop where
  sz : h.objs.size = base.objs.size + 1
  kp : ∀ c o, c ∉ [z, TO, i1, i2] → base.get? c = some o → h.get? c = some o
  rz : ∃ f, h.get? z = some (zr f0 f TI TO)
  ri : IsPair h TI (.ref i1) (.ref i2)
  ro : ∃ a b, IsPair h TO a b
  s1 : S1 j h
  s2 : S2 j h
  new : IsPair h base.objs.size x y
section
variable {prog : Program} {w : World} {A : Around} {E : Value → Shared → Prop} {s : Shared} {z TI TO i1 i2 : Addr} {fp1 fp2 : List Addr} {n1 n2 i j1 j2 : Nat} {P1 P2 : Nat → Value → Prop} {S1 S2 : Nat → Heap → Prop} {a b a' b' f0 f0' : Value} {f f' : Bool} {base h h' : Heap}
theorem Zm.setz (m : Zm S1 S2 z TI TO i1 i2 base j1 j2 f0 f a b h) (S : ZipSep2 z TI TO i1 i2 fp1 fp2) (D1 : Draws prog w A i1 fp1 n1 P1 S1) (D2 : Draws prog w A i2 fp2 n2 P2 S2) (sb : Heap.SameBut z h h') (e : h'.get? z = some (zr f0' f' TI TO)) : Zm S1 S2 z TI TO i1 i2 base j1 j2 f0' f' a b h' :=
  ⟨sb.1.trans m.sz, fun c o hc q => (sb.2 c fun y => hc (by simp [y])).trans (m.kp c o hc q), e, (sb.2 _ S.TIz).trans m.ri, (sb.2 _ S.TOz).trans m.ro, D1.over m.s1 sb S.zf1, D2.over m.s2 sb S.zf2⟩
theorem Zm.seto (m : Zm S1 S2 z TI TO i1 i2 base j1 j2 f0 f a b h) (S : ZipSep2 z TI TO i1 i2 fp1 fp2) (D1 : Draws prog w A i1 fp1 n1 P1 S1) (D2 : Draws prog w A i2 fp2 n2 P2 S2) (sb : Heap.SameBut TO h h') (e : IsPair h' TO a' b') : Zm S1 S2 z TI TO i1 i2 base j1 j2 f0 f a' b' h' :=
  ⟨sb.1.trans m.sz, fun c o hc q => (sb.2 c fun y => hc (by simp [y])).trans (m.kp c o hc q), (sb.2 _ S.TOz.symm).trans m.rz, (sb.2 _ S.TITO).trans m.ri, e, D1.over m.s1 sb S.Tf1, D2.over m.s2 sb S.Tf2⟩
theorem Zm.one (m : Zm S1 S2 z TI TO i1 i2 base j1 j2 f0 f a b h) (S : ZipSep2 z TI TO i1 i2 fp1 fp2) (D2 : Draws prog w A i2 fp2 n2 P2 S2) (sb : Heap.SameBut i1 h h') (e : S1 (j1 + 1) h') : Zm S1 S2 z TI TO i1 i2 base (j1 + 1) j2 f0 f a b h' :=
  ⟨sb.1.trans m.sz, fun c o hc q => (sb.2 c fun y => hc (by simp [y])).trans (m.kp c o hc q), (sb.2 _ S.zi1).trans m.rz, (sb.2 _ S.TIi1).trans m.ri, (sb.2 _ S.Ti1).trans m.ro, e, D2.over m.s2 sb S.sep1_2⟩
theorem Zm.two (m : Zm S1 S2 z TI TO i1 i2 base j1 j2 f0 f a b h) (S : ZipSep2 z TI TO i1 i2 fp1 fp2) (D1 : Draws prog w A i1 fp1 n1 P1 S1) (sb : Heap.SameBut i2 h h') (e : S2 (j2 + 1) h') : Zm S1 S2 z TI TO i1 i2 base j1 (j2 + 1) f0 f a b h' :=
  ⟨sb.1.trans m.sz, fun c o hc q => (sb.2 c fun y => hc (by simp [y])).trans (m.kp c o hc q), (sb.2 _ S.zi2).trans m.rz, (sb.2 _ S.TIi2).trans m.ri, (sb.2 _ S.Ti2).trans m.ro, D1.over m.s1 sb S.sep2_1, e⟩
theorem Zm.push {x y : Value} (m : Zm S1 S2 z TI TO i1 i2 base i i f0 f a b h) (D1 : Draws prog w A i1 fp1 n1 P1 S1) (D2 : Draws prog w A i2 fp2 n2 P2 S2) : Zf S1 S2 z TI TO i1 i2 base i f0 x y (h.push { cls := .type "tuple", data := .seq #[x, y] }) :=
  have up : ∀ c o, h.get? c = some o → (h.push { cls := .type "tuple", data := .seq #[x, y] }).get? c = some o := fun c o q => Heap.get?_push_of_some _ q
  ⟨by rw [Heap.size_push, m.sz], fun c o hc q => up c o (m.kp c o hc q), ⟨f, up _ _ m.rz⟩, up _ _ m.ri, ⟨a, b, up _ _ m.ro⟩, D1.frame _ _ _ m.s1 fun c _ o q => up c o q, D2.frame _ _ _ m.s2 fun c _ o q => up c o q, by rw [← m.sz]; exact Heap.get?_push_size _ rfl⟩
theorem Zf.setz {x y : Value} (m : Zf S1 S2 z TI TO i1 i2 base i f0 x y h) (S : ZipSep2 z TI TO i1 i2 fp1 fp2) (D1 : Draws prog w A i1 fp1 n1 P1 S1) (D2 : Draws prog w A i2 fp2 n2 P2 S2) (hl : z < base.objs.size) (sb : Heap.SameBut z h h') (e : h'.get? z = some (zr f0' f' TI TO)) : Zf S1 S2 z TI TO i1 i2 base i f0' x y h' :=
  ⟨sb.1.trans m.sz, fun c o hc q => (sb.2 c fun y => hc (by simp [y])).trans (m.kp c o hc q), ⟨f', e⟩, (sb.2 _ S.TIz).trans m.ri, m.ro.imp fun _ q => q.imp fun _ q => (sb.2 _ S.TOz).trans q, D1.over m.s1 sb S.zf1, D2.over m.s2 sb S.zf2, (sb.2 _ (Nat.ne_of_gt hl)).trans m.new⟩
theorem seen_obj {c : Addr} {Q : Option Obj → Shared → Prop} (q : Q (s.heap.get? c) s) : wpAny (model prog w) A (loadIfAlive c) Q E s := fun _ _ _ => q
/-- is the last pair still out? Either answer, and only a mark may change -/
theorem zr_free {Q : Bool → Shared → Prop} (hz : s.heap.get? z = some (zr f0 f TI TO)) (h0 : Lent f0) (k : ∀ t h' f', h'.get? z = some (zr f0 f' TI TO) → Heap.SameBut z s.heap h' → Q t { s with heap := h' }) : wpAny (model prog w) A (Builtin.SmallTypes.ownedTupleIsFree (.ref z)) Q E s := by
  have same := fun t => k t s.heap f hz (.refl _ _)
  rcases h0 with rfl | ⟨T, rfl⟩
  all_goals unfold Builtin.SmallTypes.ownedTupleIsFree
  · exact wpAny_bind (wpAny_field hz rfl rfl (wpAny_pure (same true)))
  · refine wpAny_bind (wpAny_field hz rfl rfl (wpAny_bind (seen_obj ?_)))
    cases s.heap.get? (T : Int).toNat with
    | none => exact wpAny_pure (same true)
    | some o =>
      refine wpAny_bind (wpAny_field hz rfl rfl ?_)
      cases f with
      | true => exact wpAny_pure (same false)
      | false => exact wpAny_bind (wpAny_setField_rec hz (by simp) fun h1 z1 sb => wpAny_pure (k false h1 true z1 sb))
/-- one turn that tells a pair -/
theorem zr_core {Q : Value → Shared → Prop} (S : ZipSep2 z TI TO i1 i2 fp1 fp2) (D1 : Draws prog w A i1 fp1 n1 P1 S1) (D2 : Draws prog w A i2 fp2 n2 P2 S2) (m : Zm S1 S2 z TI TO i1 i2 s.heap i i f0 f a b s.heap) (h0 : Lent f0) (l1 : i < n1) (l2 : i < n2)
    (k : ∀ x1 x2 h' tk g0, P1 i x1 → P2 i x2 → Lent g0 → Zf S1 S2 z TI TO i1 i2 s.heap (i + 1) g0 x1 x2 h' → Q (.ref s.heap.objs.size) { s with heap := h', toks := tk }) :
    wpAny (model prog w) A (Builtin.«zip.__next__» ⟨[.ref z], []⟩) (fun fin s' => ∃ v, fin = .done (.ret v) ∧ Q v s') E s := by
  obtain ⟨hp, g, d, tk0, os⟩ := s
  have zl := Heap.lt_size m.rz
  refine wpAny_bind (wpAny_of_eq (a := (.ref z, [])) rfl (wpAny_bind (wpAny_field m.rz rfl rfl (wpAny_bind (wpAny_field m.rz rfl rfl (wpAny_bind (wpAny_seqItems m.ri rfl (wpAny_bind (zr_free m.rz h0 fun t h1 f1 q1 b1 => ?_)))))))))
  have m1 := m.setz S D1 D2 b1 q1
  clear b1 q1 m
  cases t with
  | true =>
    refine wpAny_bind (wpAny_rule (wpAny_bind (wpAny_field m1.rz rfl rfl (wpAny_bind (wpAny_setField_rec m1.rz (by simp) fun h2 q2 b2 => wpAny_bind ?_)))))
    have m2 := m1.setz S D1 D2 b2 (f0' := .ellipsis) (f' := f1) q2
    simp only [List.zipIdx_cons, List.zipIdx_nil, List.forIn_cons, List.forIn_nil]
    refine wpAny_bind (wpAny_bind (wpAny_onRaise (wpAny_bind (D1.item i _ _ _ l1 m2.s1 fun x1 h3 t3 p1 e3 b3 => wpAny_pure ?_))))
    have m3 := m2.one S D2 b3 e3
    refine wpAny_bind (wpAny_seqItems m3.ro rfl (wpAny_bind (wpAny_updateSeq_pair m3.ro fun h4 q4 b4 => wpAny_bind (wpAny_letGo (wpAny_pure ?_)))))
    have m4 := m3.seto S D1 D2 b4 (a' := x1) (b' := b) q4
    refine wpAny_bind (wpAny_bind (wpAny_onRaise (wpAny_bind (D2.item i _ _ _ l2 m4.s2 fun x2 h5 t5 p2 e5 b5 => wpAny_pure ?_))))
    have m5 := m4.two S D1 b5 e5
    refine wpAny_bind (wpAny_seqItems m5.ro rfl (wpAny_bind (wpAny_updateSeq_pair m5.ro fun h6 q6 b6 => wpAny_bind (wpAny_letGo (wpAny_pure (wpAny_pure ?_))))))
    have m6 := m5.seto S D1 D2 b6 (a' := x1) (b' := x2) q6
    refine wpAny_bind (wpAny_seqItems m6.ro rfl (wpAny_bind (wpAny_newTuple (wpAny_bind ?_) (hsz := by show 2 ≤ sizeLine; decide))))
    have m7 : Zf S1 S2 z TI TO i1 i2 hp (i + 1) .ellipsis x1 x2 _ := m6.push (x := x1) (y := x2) D1 D2
    obtain ⟨f7, z7⟩ := m7.rz
    refine wpAny_bind (wpAny_setField_rec z7 (by simp) fun h8 q8 b8 => wpAny_setField_rec q8 (by simp) fun h9 q9 b9 => wpAny_pure ⟨_, rfl, ?_⟩)
    have m8 := m7.setz S D1 D2 zl b8 (f0' := rawInt h6.objs.size) (f' := f7) q8
    have m9 := m8.setz S D1 D2 zl b9 (f0' := rawInt h6.objs.size) (f' := false) q9
    have e := k x1 x2 h9 t5 _ p1 p2 (.inr ⟨_, rfl⟩) m9
    rw [← m6.sz] at e
    exact e
  | false =>
    refine wpAny_bind ?_
    rw [← Array.forIn_toList]
    simp only [List.forIn_cons, List.forIn_nil]
    refine wpAny_bind (wpAny_bind (wpAny_holding (wpAny_bind (D1.item i _ _ _ l1 m1.s1 fun x1 h3 t3 p1 e3 b3 => wpAny_pure (wpAny_pure ?_)))))
    have m3 := m1.one S D2 b3 e3
    refine wpAny_bind (wpAny_bind (wpAny_holding (wpAny_bind (D2.item i _ _ _ l2 m3.s2 fun x2 h5 t5 p2 e5 b5 => wpAny_pure (wpAny_pure (wpAny_pure ?_))))))
    have m5 := m3.two S D1 b5 e5
    refine wpAny_bind (wpAny_newTuple (wpAny_pure ⟨_, rfl, ?_⟩) (hsz := by show 2 ≤ sizeLine; decide))
    have e := k x1 x2 _ t5 _ p1 p2 h0 (m5.push (x := x1) (y := x2) D1 D2)
    rw [← m5.sz] at e
    exact e
/-- one turn that tells a pair -/
theorem zr_item {Q : Value → Shared → Prop} (S : ZipSep2 z TI TO i1 i2 fp1 fp2) (D1 : Draws prog w A.in1 i1 fp1 n1 P1 S1) (D2 : Draws prog w A.in1 i2 fp2 n2 P2 S2) (m : Zm S1 S2 z TI TO i1 i2 s.heap i i f0 f a b s.heap) (h0 : Lent f0) (l1 : i < n1) (l2 : i < n2)
    (k : ∀ x1 x2 h' tk g0, P1 i x1 → P2 i x2 → Lent g0 → Zf S1 S2 z TI TO i1 i2 s.heap (i + 1) g0 x1 x2 h' → Q (.ref s.heap.objs.size) { s with heap := h', toks := tk }) :
    wpAny (model prog w) A (Builtin.SmallTypes.nextOf (.ref z)) Q E s := by
  have ty : s.TypeIs (.ref z) "zip" := ⟨_, m.rz, rfl⟩
  unfold Builtin.SmallTypes.nextOf
  exact wpAny_bind (wpAny_callSpecial?_slot ty F.slot_zip_next (wpAny_call_entry F.slot_zip_next ty F.entry_zip_next (zr_core S D1 D2 m h0 l1 l2 fun x1 x2 h' tk g0 q1 q2 lg zf => wpAny_pure (k x1 x2 h' tk g0 q1 q2 lg zf)) (F.args_zip_next_1 _)))
theorem zr_next {Q : Option Value → Shared → Prop} (S : ZipSep2 z TI TO i1 i2 fp1 fp2) (D1 : Draws prog w A.in1 i1 fp1 n1 P1 S1) (D2 : Draws prog w A.in1 i2 fp2 n2 P2 S2) (m : Zm S1 S2 z TI TO i1 i2 s.heap i i f0 f a b s.heap) (h0 : Lent f0) (l1 : i < n1) (l2 : i < n2)
    (k : ∀ x1 x2 h' tk g0, P1 i x1 → P2 i x2 → Lent g0 → Zf S1 S2 z TI TO i1 i2 s.heap (i + 1) g0 x1 x2 h' → Q (some (.ref s.heap.objs.size)) { s with heap := h', toks := tk }) :
    wpAny (model prog w) A (pyNext (.ref z)) Q E s := by
  have ty : s.TypeIs (.ref z) "zip" := ⟨_, m.rz, rfl⟩
  unfold pyNext
  exact wpAny_bind (wpAny_attempt (wpAny_callSpecial?_slot ty F.slot_zip_next (wpAny_call_entry F.slot_zip_next ty F.entry_zip_next (zr_core S D1 D2 m h0 l1 l2 fun x1 x2 h' tk g0 q1 q2 lg zf => wpAny_pure (k x1 x2 h' tk g0 q1 q2 lg zf)) (F.args_zip_next_1 _))))
/-- the first row is at its end -/
theorem zr_over {Q : PySem.Fin → Shared → Prop} (S : ZipSep2 z TI TO i1 i2 fp1 fp2) (D1 : Draws prog w A i1 fp1 n1 P1 S1) (D2 : Draws prog w A i2 fp2 n2 P2 S2) (m : Zm S1 S2 z TI TO i1 i2 s.heap n1 i f0 f a b s.heap) (h0 : Lent f0)
    (k : ∀ h' e, (∀ c o, c ∉ [z, TO, i1, i2] → s.heap.get? c = some o → h'.get? c = some o) → (∃ o, h'.get? e = some o ∧ o.cls = .type "StopIteration") → E (.ref e) { s with heap := h' }) :
    wpAny (model prog w) A (Builtin.«zip.__next__» ⟨[.ref z], []⟩) Q E s := by
  obtain ⟨hp, g, d, tk0, os⟩ := s
  refine wpAny_bind (wpAny_of_eq (a := (.ref z, [])) rfl (wpAny_bind (wpAny_field m.rz rfl rfl (wpAny_bind (wpAny_field m.rz rfl rfl (wpAny_bind (wpAny_seqItems m.ri rfl (wpAny_bind (zr_free m.rz h0 fun t h1 f1 q1 b1 => ?_)))))))))
  have m1 := m.setz S D1 D2 b1 q1
  clear b1 q1 m
  cases t with
  | true =>
    refine wpAny_bind (wpAny_rule (wpAny_bind (wpAny_field m1.rz rfl rfl (wpAny_bind (wpAny_setField_rec m1.rz (by simp) fun h2 q2 b2 => wpAny_bind ?_)))))
    have m2 := m1.setz S D1 D2 b2 (f0' := .ellipsis) (f' := f1) q2
    simp only [List.zipIdx_cons, List.zipIdx_nil, List.forIn_cons, List.forIn_nil]
    refine wpAny_bind (wpAny_bind (wpAny_onRaise (wpAny_bind (D1.done _ _ _ m2.s1 fun h3 e b3 ⟨oe, he, ce⟩ => ?_))))
    have hz : h3.get? z = some _ := b3 _ _ S.zi1 m2.rz
    have ne : e ≠ z := fun q => by
      rw [q, hz] at he
      cases he
      simp at ce
    exact wpAny_setField_rec hz (by simp) fun h4 _ b4 => k h4 e (fun c o hc q => (b4.2 c fun y => hc (by simp [y])).trans (b3 c o (fun y => hc (by simp [y])) (m2.kp c o hc q))) ⟨oe, (b4.2 _ ne).trans he, ce⟩
  | false =>
    refine wpAny_bind ?_
    rw [← Array.forIn_toList]
    simp only [List.forIn_cons, List.forIn_nil]
    exact wpAny_bind (wpAny_bind (wpAny_holding (wpAny_bind (D1.done _ _ _ m1.s1 fun h3 e b3 he => k h3 e (fun c o hc q => b3 c o (fun y => hc (by simp [y])) (m1.kp c o hc q)) he))))
/-- the first row is at its end -/
theorem zr_end {Q : Value → Shared → Prop} (S : ZipSep2 z TI TO i1 i2 fp1 fp2) (D1 : Draws prog w A.in1 i1 fp1 n1 P1 S1) (D2 : Draws prog w A.in1 i2 fp2 n2 P2 S2) (m : Zm S1 S2 z TI TO i1 i2 s.heap n1 i f0 f a b s.heap) (h0 : Lent f0)
    (k : ∀ h' e, (∀ c o, c ∉ [z, TO, i1, i2] → s.heap.get? c = some o → h'.get? c = some o) → (∃ o, h'.get? e = some o ∧ o.cls = .type "StopIteration") → E (.ref e) { s with heap := h' }) :
    wpAny (model prog w) A (Builtin.SmallTypes.nextOf (.ref z)) Q E s := by
  have ty : s.TypeIs (.ref z) "zip" := ⟨_, m.rz, rfl⟩
  unfold Builtin.SmallTypes.nextOf
  exact wpAny_bind (wpAny_callSpecial?_slot ty F.slot_zip_next (wpAny_call_entry F.slot_zip_next ty F.entry_zip_next (zr_over S D1 D2 m h0 k) (F.args_zip_next_1 _)))
theorem zr_stop {Q : Option Value → Shared → Prop} (S : ZipSep2 z TI TO i1 i2 fp1 fp2) (D1 : Draws prog w A.in1 i1 fp1 n1 P1 S1) (D2 : Draws prog w A.in1 i2 fp2 n2 P2 S2) (m : Zm S1 S2 z TI TO i1 i2 s.heap n1 i f0 f a b s.heap) (h0 : Lent f0)
    (k : ∀ h', (∀ c o, c ∉ [z, TO, i1, i2] → s.heap.get? c = some o → h'.get? c = some o) → Q none { s with heap := h' }) :
    wpAny (model prog w) A (pyNext (.ref z)) Q E s := by
  have ty : s.TypeIs (.ref z) "zip" := ⟨_, m.rz, rfl⟩
  unfold pyNext
  exact wpAny_bind (wpAny_attempt (wpAny_callSpecial?_slot ty F.slot_zip_next (wpAny_call_entry F.slot_zip_next ty F.entry_zip_next (zr_over S D1 D2 m h0 fun h' x r ⟨o, ho, hc⟩ => wpAny_bind (wpAny_isInstance (T := "StopIteration") (b := true) ⟨o, ho, hc⟩ isSubtype_stop (wpAny_pure (k h' r)))) (F.args_zip_next_1 _))))
/-! ### enumerate of what makes new things -/
/-- e's record, and nothing but e was touched since base -/
structure Em (base : Heap) (e : Addr) (r : Obj) (h : Heap) : Prop where
  sz : h.objs.size = base.objs.size
  kp : ∀ c o, c ≠ e → base.get? c = some o → h.get? c = some o
  re : h.get? e = some r
theorem Em.set {e : Addr} {r r' : Obj} (m : Em base e r h) (sb : Heap.SameBut e h h') (q : h'.get? e = some r') : Em base e r' h' :=
  ⟨sb.1.trans m.sz, fun c o hc q => (sb.2 c hc).trans (m.kp c o hc q), q⟩
abbrev er (f0 : Value) (it : Addr) (i : Int) (old : Value) : Obj := { cls := .type "enumerate", dict := none, data := .fields #[f0, .bool false, .ref it, rawInt i, .none, old], slots := #[] }
theorem en_item {e it : Addr} {n : Int} {old : Value} {Q : Option Value → Shared → Prop} (R : Value → Heap → Tok → Prop) (he : IsEnum s.heap e it n old)
    (inner : ∀ (Q' : Value → Shared → Prop) (E' : Value → Shared → Prop), (∀ x h1 tk, R x h1 tk → Q' x { s with heap := h1, toks := tk }) → wpAny (model prog w) A.in1 (Builtin.SmallTypes.nextOf (.ref it)) Q' E' s)
    (hR : ∀ x h1 tk, R x h1 tk → IsEnum h1 e it n old)
    (k : ∀ x h1 tk h', R x h1 tk → IsEnumOut h' e it (n + 1) x h1.objs.size → IsPair h' h1.objs.size (.int n tk) x → h'.objs.size = h1.objs.size + 1 → (∀ c o, c ≠ e → h1.get? c = some o → h'.get? c = some o) → Q (some (.ref h1.objs.size)) { s with heap := h', toks := tk + 1 }) :
    wpAny (model prog w) A (pyNext (.ref e)) Q E s := by
  obtain ⟨hp, g, d, tk0, os⟩ := s
  have ty : (Shared.mk hp g d tk0 os).TypeIs (.ref e) "enumerate" := ⟨_, he, rfl⟩
  unfold pyNext
  refine wpAny_bind (wpAny_attempt (wpAny_callSpecial?_slot ty F.slot_enumerate_next (wpAny_call_entry F.slot_enumerate_next ty F.entry_enumerate_next ?_ (F.args_enumerate_next_1 _))))
  refine wpAny_bind (wpAny_of_eq (a := (.ref e, [])) rfl (wpAny_bind (wpAny_field he rfl rfl (wpAny_bind (inner _ _ fun x h1 tk r => ?_)))))
  have m1 : Em h1 e (er .none it n old) h1 := ⟨rfl, fun _ _ _ q => q, hR x h1 tk r⟩
  refine wpAny_bind (wpAny_field m1.re rfl rfl (wpAny_bind (wpAny_field m1.re rfl rfl ?_)))
  refine wpAny_bind (wpAny_mkInt (wpAny_bind (wpAny_setField_rec m1.re (by simp) fun h2 q2 b2 => ?_)))
  have m2 := m1.set (r' := er .none it (n + 1) old) b2 q2
  refine wpAny_bind (wpAny_setField_rec m2.re (by simp) fun h3 q3 b3 => wpAny_bind (wpAny_newTuple (wpAny_bind ?_)))
  have m3 := m2.set (r' := er .none it (n + 1) old) b3 q3
  have z3 : (h3.push { cls := .type "tuple", data := .seq #[.int n tk, x] }).get? e = some (er .none it (n + 1) old) := Heap.get?_push_of_some _ m3.re
  have el : h3.objs.size ≠ e := Nat.ne_of_gt (Heap.lt_size m3.re)
  unfold Builtin.SmallTypes.ownedTupleIsFree
  refine wpAny_bind (wpAny_field z3 rfl rfl (wpAny_pure (wpAny_bind (wpAny_rule (wpAny_bind (wpAny_field z3 rfl rfl (wpAny_bind (wpAny_setField_rec z3 (by simp) fun h4 q4 b4 => wpAny_bind (wpAny_bind (wpAny_setField_rec q4 (by simp) fun h5 q5 b5 => wpAny_setField_rec q5 (by simp) fun h6 q6 b6 => wpAny_bind (wpAny_letGo (wpAny_pure ⟨_, rfl, wpAny_pure ?_⟩))))))))))))
  have up : ∀ c, c ≠ e → h6.get? c = (h3.push { cls := .type "tuple", data := .seq #[.int n tk, x] }).get? c := fun c hc => (b6.2 c hc).trans ((b5.2 c hc).trans (b4.2 c hc))
  have r6 := k x h1 tk h6 r
  rw [← m3.sz] at r6
  exact r6 q6 ((up _ el).trans (Heap.get?_push_size _ rfl)) (by rw [b6.1, b5.1, b4.1]; exact Heap.size_push ..) fun c o hc q => (up c hc).trans (Heap.get?_push_of_some _ (m3.kp c o hc q))
theorem en_end {e it : Addr} {n : Int} {old : Value} {Q : Option Value → Shared → Prop} (R : Heap → Prop) (he : IsEnum s.heap e it n old)
    (inner : ∀ (Q' : Value → Shared → Prop) (E' : Value → Shared → Prop), (∀ h' x, R h' → (∃ o, h'.get? x = some o ∧ o.cls = .type "StopIteration") → E' (.ref x) { s with heap := h' }) → wpAny (model prog w) A.in1 (Builtin.SmallTypes.nextOf (.ref it)) Q' E' s)
    (k : ∀ h', R h' → Q none { s with heap := h' }) : wpAny (model prog w) A (pyNext (.ref e)) Q E s := by
  have ty : s.TypeIs (.ref e) "enumerate" := ⟨_, he, rfl⟩
  unfold pyNext
  refine wpAny_bind (wpAny_attempt (wpAny_callSpecial?_slot ty F.slot_enumerate_next (wpAny_call_entry F.slot_enumerate_next ty F.entry_enumerate_next ?_ (F.args_enumerate_next_1 _))))
  exact wpAny_bind (wpAny_of_eq (a := (.ref e, [])) rfl (wpAny_bind (wpAny_field he rfl rfl (wpAny_bind (inner _ _ fun h' x r ⟨o, ho, hc⟩ => wpAny_bind (wpAny_isInstance (T := "StopIteration") (b := true) ⟨o, ho, hc⟩ isSubtype_stop (wpAny_pure (k h' r))))))))
end
/-- enumerate of a zip begins: the zip is its own iterator -/
theorem en_new (z TI TO : Addr) : Meets (Builtin.«enumerate.__new__» ⟨[.type "enumerate", .ref z], []⟩) fun _ R s => IsZip s.heap z TI TO .none ∧ R (.ok (.ret (.ref s.heap.objs.size))) { s with heap := s.heap.push (er .none z 0 .none) } :=
  .of_wp fun prog w A R s h => by
    obtain ⟨hp, g, d, tk, os⟩ := s
    obtain ⟨hz, hr⟩ := h
    have e0 := sub_enumerate
    have own : ∀ {A' : Around} {E : Value → Shared → Prop} {Q : Value → Shared → Prop}, Q (.ref z) ⟨hp, g, d, tk, os⟩ → wpAny (model prog w) A' (pyIter (.ref z)) Q E ⟨hp, g, d, tk, os⟩ := fun q => wpAny_pyIter_zip (s := ⟨hp, g, d, tk, os⟩) hz q
    wp_walk using own
    refine wpAny_stack_any fun st => wpAny_pure ?_
    split
    · rename_i c _ _ _ _ _
      cases (c == Value.type "enumerate") <;> (wp_walk using own; exact ⟨_, rfl, hr⟩)
    · wp_walk using own
      exact ⟨_, rfl, hr⟩
section
variable {prog : Program} {w : World} {A : Around} {E : Value → Shared → Prop} {s : Shared}
theorem en_call {z TI TO : Addr} {Q : Value → Shared → Prop} (hz : IsZip s.heap z TI TO .none) (k : ∀ h', IsEnum h' s.heap.objs.size z 0 .none → h'.objs.size = s.heap.objs.size + 1 → (∀ c o, s.heap.get? c = some o → h'.get? c = some o) → Q (.ref s.heap.objs.size) { s with heap := h' }) :
    wpAny (model prog w) A (call (.type "enumerate") [.ref z]) Q E s := by
  have new : IsEnum (s.heap.push (er .none z 0 .none)) s.heap.objs.size z 0 .none := Heap.get?_push_size _ rfl
  exact callType_new F.called_enumerate (by decide) (F.typeCall_enumerate_1 _) (F.newCall_enumerate_1 _) (fun obj => F.args_object_init_2 obj _) F.entry_enumerate_new (en_new z TI TO) ⟨hz, ⟨_, new, rfl⟩, k _ new (Heap.size_push ..) fun c o q => Heap.get?_push_of_some _ q⟩
end
end FP

namespace FP
open PySem PySem.Spec PyProof.Rows L2 HotX L2H
/-! ### enumerate(zip(a, b)) of two tuples of one length -/
def ItEZ (K : PySem.W.Frag) (a b : Addr) : It :=
  ⟨fun i H => ∃ xs ys : List V, SqT K H a xs ∧ SqT K H b ys ∧ i < xs.length ∧ i < ys.length,
    fun i H v H' => ∃ T T' x y, v = .ref T' ∧ H T = none ∧ (upd H T (.tup [x, y])) T' = none ∧ H' = upd (upd H T (.tup [x, y])) T' (.tup [.int (i : Nat), .ref T]) ∧ (∀ xs, SqT K H a xs → xs[i]? = some x) ∧ ∀ ys, SqT K H b ys → ys[i]? = some y,
    fun i H => ∃ xs ys : List V, SqT K H a xs ∧ SqT K H b ys ∧ xs.length = i⟩
structure EzSt (e z TI TO i1 i2 a b : Addr) (i : Nat) (h : Heap) : Prop where
  en : ∃ old, IsEnum h e z (i : Int) old
  zp : ∃ f0 f, Lent f0 ∧ h.get? z = some (zr f0 f TI TO)
  ti : IsPair h TI (.ref i1) (.ref i2)
  to : ∃ x y, IsPair h TO x y
  w1 : h.IsTupleIter i1 a i
  w2 : h.IsTupleIter i2 b i
section
variable {P : Program} {w : World} {K : PySem.W.Frag} {elts : List Expr} {kk : Nat} {tpos : Pos} {e z TI TO i1 i2 a b : Addr}
theorem EzSt.obj {i : Nat} {h : Heap} (st : EzSt e z TI TO i1 i2 a b i h) {c : Addr} (hc : c ∈ [e, z, TI, TO, i1, i2]) : ∃ o, h.get? c = some o ∧ ∀ v, o.data ≠ .cell v := by
  obtain ⟨⟨old, g1⟩, ⟨f0, f, _, g2⟩, g3, ⟨x, y, g4⟩, ⟨o1, g5, _, d1⟩, ⟨o2, g6, _, d2⟩⟩ := st
  simp only [List.mem_cons, List.not_mem_nil, or_false] at hc
  rcases hc with rfl | rfl | rfl | rfl | rfl | rfl
  · exact ⟨_, g1, nofun⟩
  · exact ⟨_, g2, nofun⟩
  · exact ⟨_, g3, nofun⟩
  · exact ⟨_, g4, nofun⟩
  · exact ⟨o1, g5, fun v q => by rw [d1] at q; cases q⟩
  · exact ⟨o2, g6, fun v q => by rw [d2] at q; cases q⟩
theorem EzSt.keep {i : Nat} {h h' : Heap} (st : EzSt e z TI TO i1 i2 a b i h) (k : ∀ c ∈ [e, z, TI, TO, i1, i2], ∀ o, h.get? c = some o → h'.get? c = some o) : EzSt e z TI TO i1 i2 a b i h' :=
  ⟨st.en.imp fun _ q => k e (by simp) _ q, st.zp.imp fun _ q => q.imp fun _ q => ⟨q.1, k z (by simp) _ q.2⟩, k TI (by simp) _ st.ti, st.to.imp fun _ q => q.imp fun _ q => k TO (by simp) _ q, st.w1.at fun o q => k i1 (by simp) o q, st.w2.at fun o q => k i2 (by simp) o q⟩
theorem turn_ez (S : ZipSep2 z TI TO i1 i2 [i1, a] [i2, b]) (ha : a ≠ i1) (hb : b ≠ i2) (hlt : ∀ c ∈ [z, TI, TO, i1, i2, a, b], c < e) :
    Turn P w K (.Tuple elts kk tpos) (ItEZ K a b) [e, z, TI, TO, i1, i2] e (EzSt e z TI TO i1 i2 a b) where
  mem := by simp
  obj := fun i h st c hc => st.obj hc
  keep := fun i h h' st k => st.keep k
  item := by
    intro X hP hw hK hc i pins s σ H E I hf st hg
    subst hP hw hK
    obtain ⟨xs, ys, hqx, hqy, lx, ly⟩ := hg
    obtain ⟨its, rv, p, _⟩ := I.tuple hqx
    obtain ⟨its2, rv2, p2, _⟩ := I.tuple hqy
    obtain ⟨x, hx⟩ : ∃ x, xs[i]? = some x := ⟨_, List.getElem?_eq_getElem lx⟩
    obtain ⟨y, hy⟩ : ∃ y, ys[i]? = some y := ⟨_, List.getElem?_eq_getElem ly⟩
    obtain ⟨u, hu, ru⟩ := rv.get hx
    obtain ⟨u2, hu2, ru2⟩ := rv2.get hy
    have D1 := Draws.tuple (prog := X.prog) (w := X.w) (A := X.A.in1.in1) (I.ok.hd hc) i1 a ha its.toArray
    have D2 := Draws.tuple (prog := X.prog) (w := X.w) (A := X.A.in1.in1) (I.ok.hd hc) i2 b hb its2.toArray
    obtain ⟨old, he⟩ := st.en
    obtain ⟨f0, f, l0, hz⟩ := st.zp
    obtain ⟨x0, y0, ho⟩ := st.to
    have ne : e ∉ [z, TO, i1, i2] := fun q => by
      have := hlt e (by simp only [List.mem_cons, List.not_mem_nil, or_false] at q ⊢; rcases q with q | q | q | q <;> simp [q])
      exact Nat.lt_irrefl _ this
    have sizes : i < its.toArray.size ∧ i < its2.toArray.size := ⟨by simpa using (List.getElem?_eq_some_iff.mp hu).1, by simpa using (List.getElem?_eq_some_iff.mp hu2).1⟩
    refine en_item (fun v h1 tk => ∃ x1 x2 g0, v = .ref s.heap.objs.size ∧ its.toArray[i]? = some x1 ∧ its2.toArray[i]? = some x2 ∧ Lent g0 ∧ Zf _ _ z TI TO i1 i2 s.heap (i + 1) g0 x1 x2 h1) he
      (fun Q' E' q => zr_item S D1 D2 ⟨rfl, fun _ _ _ q => q, hz, st.ti, ho, ⟨st.w1, p⟩, ⟨st.w2, p2⟩⟩ l0 sizes.1 sizes.2 fun x1 x2 h' tk g0 q1 q2 lg zf => q _ h' tk ⟨x1, x2, g0, rfl, q1, q2, lg, zf⟩)
      (fun v h1 tk ⟨_, _, _, _, _, _, _, zf⟩ => zf.kp _ _ ne he) ?_
    rintro v h1 tk h' ⟨x1, x2, g0, rfl, q1, q2, lg, zf⟩ heo hpr hsz hkp
    obtain rfl : x1 = u := by simpa [hu] using q1.symm
    obtain rfl : x2 = u2 := by simpa [hu2] using q2.symm
    refine ⟨_, rfl, wpAny_letOwnedTupleGo_enum (s := { s with heap := h', toks := tk + 1 }) heo fun h2 he2 sb => ?_⟩
    have old1 : ∀ c ∈ [e, z, TI, TO, i1, i2], c < s.heap.objs.size := fun c hc => let ⟨_, q, _⟩ := st.obj hc; Heap.lt_size q
    have up : ∀ c o, c ≠ e → h1.get? c = some o → h2.get? c = some o := fun c o hc q => (sb.2 c hc).trans (hkp c o hc q)
    have el : e < s.heap.objs.size := old1 e (by simp)
    have I1 : Inv X pins σ (upd H s.heap.objs.size (.tup [x, y])) { s with heap := h1, toks := tk } :=
      I.turnedNew (ch := [e, z, TI, TO, i1, i2]) (fun c o hc q => zf.kp c o (fun r => hc (by simp only [List.mem_cons, List.not_mem_nil, or_false] at r ⊢; rcases r with r | r | r | r <;> simp [r])) q) hf (Nat.le_refl _) ⟨by show 2 ≤ sizeLine; decide, [x1, x2], .cons ru (.cons ru2 .nil), ⟨_, zf.new, rfl, _, rfl⟩⟩
    have hN : h1.objs.size ≠ e := by rw [zf.sz]; exact Nat.ne_of_gt (Nat.lt_succ_of_lt el)
    have I2 : Inv X pins σ (upd (upd H s.heap.objs.size (.tup [x, y])) h1.objs.size (.tup [.int (i : Nat), .ref s.heap.objs.size])) { s with heap := h2, toks := tk + 1 } :=
      I1.turnedNew (ch := [e]) (fun c o hc q => up c o (by simpa using hc) q) (fun c hc => by
        obtain rfl : c = e := by simpa using hc
        obtain ⟨r0, r⟩ := hf c (by simp)
        exact ⟨by rw [upd_ne (Nat.ne_of_lt el)]; exact r0, r⟩) (Nat.le_refl _) ⟨by show 2 ≤ sizeLine; decide, [.int i tk, .ref s.heap.objs.size], .cons ⟨_, rfl⟩ (.cons rfl .nil), ⟨_, (sb.2 _ hN).trans hpr, rfl, _, rfl⟩⟩
    refine ⟨.ref h1.objs.size, _, I2, rfl, ⟨_, _, x, y, rfl, I.hok.fresh (Nat.le_refl _), I1.hok.fresh (Nat.le_refl _), rfl, fun l hl => by rw [I.tuple_inj hl hqx]; exact hx, fun l hl => by rw [I.tuple_inj hl hqy]; exact hy⟩, ?_, fun c hcm => ?_⟩
    · have off : ∀ c ∈ [z, TI, TO, i1, i2], c ≠ e := fun c hc q => by
        have := hlt c (by simp only [List.mem_cons, List.not_mem_nil, or_false] at hc ⊢; rcases hc with r | r | r | r | r <;> simp [r])
        exact Nat.ne_of_lt this q
      obtain ⟨fz, ez⟩ := zf.rz
      obtain ⟨a3, b3, eo⟩ := zf.ro
      refine ⟨⟨_, by have e1 : ((i + 1 : Nat) : Int) = (i : Int) + 1 := by omega
                     rw [e1]; exact he2⟩, ⟨g0, fz, lg, up _ _ (off z (by simp)) ez⟩, up _ _ (off TI (by simp)) zf.ri, ⟨a3, b3, up _ _ (off TO (by simp)) eo⟩, zf.s1.1.at fun o q => up _ o (off i1 (by simp)) q, zf.s2.1.at fun o q => up _ o (off i2 (by simp)) q⟩
    · have := old1 c hcm
      rw [upd_ne (by rw [zf.sz]; exact Nat.ne_of_lt (Nat.lt_succ_of_lt this)), upd_ne (Nat.ne_of_lt this)]
      exact (hf c hcm).1
  done := by
    intro X hP hw hK hc i pins s σ H E I hf st hg
    subst hP hw hK
    obtain ⟨xs, ys, hqx, hqy, lx⟩ := hg
    obtain ⟨its, rv, p, _⟩ := I.tuple hqx
    obtain ⟨its2, rv2, p2, _⟩ := I.tuple hqy
    have D1 := Draws.tuple (prog := X.prog) (w := X.w) (A := X.A.in1.in1) (I.ok.hd hc) i1 a ha its.toArray
    have D2 := Draws.tuple (prog := X.prog) (w := X.w) (A := X.A.in1.in1) (I.ok.hd hc) i2 b hb its2.toArray
    obtain ⟨old, he⟩ := st.en
    obtain ⟨f0, f, l0, hz⟩ := st.zp
    obtain ⟨x0, y0, ho⟩ := st.to
    have sz : i = its.toArray.size := by rw [List.size_toArray, ← rv.length, lx]
    have w1 := st.w1
    rw [sz] at w1
    exact en_end (fun h' => ∀ c o, c ∉ [z, TO, i1, i2] → s.heap.get? c = some o → h'.get? c = some o) he (fun Q' E' q => zr_end S D1 D2 ⟨rfl, fun _ _ _ q => q, hz, st.ti, ho, ⟨w1, p⟩, ⟨st.w2, p2⟩⟩ l0 q) fun h' r => ⟨rfl, I.turnedL (t' := s.toks) (ch := [e, z, TI, TO, i1, i2]) (fun c o hc q => r c o (fun r => hc (by simp only [List.mem_cons, List.not_mem_nil, or_false] at r ⊢; rcases r with r | r | r | r <;> simp [r])) q) hf⟩
  self := fun A i s Q E st h => let ⟨_, he⟩ := st.en; wpAny_pyIter_enum he h
end
theorem six_lt {N a b : Nat} (ha : a < N) (hb : b < N) : ∀ c ∈ [N + 4, N + 2, N + 3, N, N + 1, a, b], c < N + 5 := fun c hc => by
  simp only [List.mem_cons, List.not_mem_nil, or_false] at hc
  omega
theorem six_le {N : Nat} : ∀ c ∈ [N + 5, N + 4, N + 2, N + 3, N, N + 1], N ≤ c := fun c hc => by
  simp only [List.mem_cons, List.not_mem_nil, or_false] at hc
  omega
def iEZ (K : PySem.W.Frag) (ta : TA) : TI := fun σ H R => ta σ H fun vs H1 => ∃ a b xs ys, vs = [.ref a, .ref b] ∧ SqT K H1 a xs ∧ SqT K H1 b ys ∧ R (ItEZ K a b) H1
theorem pi_ez {X : Cx} {e1 e2 : Expr} {ta : TA} {p p2 zp pos tpos : Pos} {elts : List Expr} {kk : Nat} (hg : Gl X "enumerate") (hm : X.mg "enumerate" = none) (hgz : Gl X "zip") (hmz : X.mg "zip" = none) (ha : PA X [e1, e2] ta) (hs : starEach [Expr.Call (.Name "zip" p2) [e1, e2] [] zp] X.env = [(false, eval (.Call (.Name "zip" p2) [e1, e2] [] zp) X.env)] := by rfl)
    (hsz : starEach [e1, e2] X.env = (false, eval e1 X.env) :: starEach [e2] X.env := by rfl) (hpl : (backTo zp (starEach [e2] X.env)).any (·.1) = false := by rfl) :
    PI X (.Tuple elts kk tpos) (.Call (.Name "enumerate" p) [.Call (.Name "zip" p2) [e1, e2] [] zp] [] pos) (iEZ X.K ta) := by
  refine ⟨fun pins s σ H R I h => ?_⟩
  refine Call_ (ld_blt I hg hm boot_enumerate (PyProof.Rows.callWith_type1 (PyProof.Rows.args_cons ?_ hs) hs rfl))
  refine Call_ (ld_blt I hgz hmz PyProof.Rows.boot_zip (PyProof.Rows.callWith_type1 (thn (ha.run zp pins s σ H _ I h) fun us s1 ⟨vs, H1, I1, r1, q1⟩ => ?_) hsz hpl))
  obtain ⟨a, b, xs, ys, rfl, hqx, hqy, q⟩ := q1
  rcases r1 with _ | ⟨r, r1⟩
  rcases r1 with _ | ⟨r', r1⟩
  cases r1
  cases r
  cases r'
  obtain ⟨its, rv, p1, _⟩ := I1.tuple hqx
  obtain ⟨its2, rv2, p2, _⟩ := I1.tuple hqy
  obtain ⟨la, lb⟩ : a < s1.heap.objs.size ∧ b < s1.heap.objs.size := ⟨let ⟨_, q, _⟩ := p1; Heap.lt_size q, let ⟨_, q, _⟩ := p2; Heap.lt_size q⟩
  refine RZ.call_zipT p1 p2 fun h1 hz hTI hTO w1 w2 sz1 k1 => PyProof.Rows.args_nil (en_call hz fun h2 he sz2 k2 => wpAny_pyIter_enum he ?_)
  have I2 : Inv X pins σ H1 { s1 with heap := h2 } := I1.kept (t' := s1.toks) fun c o q => k2 c o (k1 c o q)
  have sz1' : ({ s1 with heap := h1 } : Shared).heap.objs.size = s1.heap.objs.size + 5 := sz1
  have S : ZipSep2 (s1.heap.objs.size + 4) (s1.heap.objs.size + 2) (s1.heap.objs.size + 3) s1.heap.objs.size (s1.heap.objs.size + 1) [s1.heap.objs.size, a] [s1.heap.objs.size + 1, b] := zip_sep2 (fp1 := [a]) (fp2 := [b]) (fun c hc => by simpa using (show c = a by simpa using hc) ▸ la) (fun c hc => by simpa using (show c = b by simpa using hc) ▸ lb)
  refine ⟨h1.objs.size, [h1.objs.size, s1.heap.objs.size + 4, s1.heap.objs.size + 2, s1.heap.objs.size + 3, s1.heap.objs.size, s1.heap.objs.size + 1], _, _, H1, rfl, I2, turn_ez S (Nat.ne_of_lt la) (Nat.ne_of_lt (Nat.lt_succ_of_lt lb)) (by rw [sz1']; exact six_lt la lb), ⟨⟨_, he⟩, ⟨.none, false, .inl rfl, k2 _ _ hz⟩, k2 _ _ hTI, ⟨_, _, k2 _ _ hTO⟩, w1.at fun o q => k2 _ o q, w2.at fun o q => k2 _ o q⟩, ?_, q⟩
  rw [sz1']
  exact fun c hc => I1.fpOk (six_le c hc) (I1.hok.fresh (six_le c hc))
section
variable {X : Cx} {W : WX} {T : List (Addr × Str)} {δ : De} {ω : Om} {a b : Expr} {pos p p2 zp ep : Pos} {R : Out → Prop} {ss sa : List Stmt} {kk : Nat}
/-- for j1, (j2, j3) in enumerate(zip(a, b)) -/
theorem sd_forEZ (j1 j2 j3 : Nat) {ts : List Expr} {p' : Pos} {xs ys : List PyData} (inv : Nat → De → Om → Prop) (hme : X.mg "enumerate" = none) (hmz : X.mg "zip" = none) (ha : PD X δ ω a (.tuple xs)) (hb : PD X δ ω b (.tuple ys)) (hl : ys.length = xs.length) (h0 : inv 0 δ ω)
    (hbd : ∀ (i : Nat) x y δ' ω', xs[i]? = some x → ys[i]? = some y → inv i δ' ω' → SD X W T sa (((δ'.set j1 (some (.im (.int (i : Int))))).set j2 (some (.im x))).set j3 (some (.im y))) ω' (Turn1 inv i (Nxt X W T ss R) R))
    (hd : ∀ δ' ω', inv xs.length δ' ω' → SD X W T ss δ' ω' R) (hg : PG X (.Tuple ts kk p') (gZ X.K j1 j2 j3)) (hp : PassesOwn (model X.prog X.w) X.A X.env X.xe) (hc : X.calm = true)
    (hge : Gl X "enumerate" := by rfl) (hgz : Gl X "zip" := by rfl) (hs0 : starEach [Expr.Call (.Name "zip" p2) [a, b] [] zp] X.env = [(false, eval (.Call (.Name "zip" p2) [a, b] [] zp) X.env)] := by rfl)
    (hs1 : starEach [a, b] X.env = (false, eval a X.env) :: starEach [b] X.env := by rfl) (hs2 : starEach [b] X.env = (false, eval b X.env) :: starEach [] X.env := by rfl) (hpl : (backTo zp (starEach [b] X.env)).any (·.1) = false := by rfl)
    (hs : ∀ x, foldedSetIterable (.Call (.Name "enumerate" p) [.Call (.Name "zip" p2) [a, b] [] zp] [] ep) X.env x = pure x := by intro _; rfl) :
    SD X W T (.For (.Tuple ts kk p') (.Call (.Name "enumerate" p) [.Call (.Name "zip" p2) [a, b] [] zp] [] ep) sa [] pos :: ss) δ ω R := by
  refine sd_cons fun σ H D rl t k => ws (ps_for hp hc (pi_ez hge hme hgz hmz (pa_cons pe_w (pa_cons pe_w pa_nil hs2) hs1) hs0 hs1 hpl) hg pss_w hs) ?_
  refine ha σ H rl _ fun va H0 s0 da => hb σ H0 (rl.mono s0) _ fun vb H1 s1 db => ?_
  have sH : Same H H1 := s0.trans s1
  have da1 := dpm (hid_same s1) da
  clear da
  cases da1
  cases db
  rename_i qa us a1 a2 qb ws b1 b2
  have la := dpa_len a2
  have lb := dpa_len b2
  refine ⟨qa, qb, us, ws, rfl, same_sqt hid_sub a1, same_sqt hid_sub b1, ?_⟩
  refine ⟨fun i m σ' H' => ∃ δ' ω', m = xs.length - i ∧ i ≤ xs.length ∧ inv i δ' ω' ∧ Stp T ω ω' H1 H' ∧ Rl X.K H' σ' δ' ω', ⟨xs.length, δ, ω, by omega, Nat.zero_le _, h0, .refl, rl.mono sH⟩, ?_⟩
  rintro i m σ' H' ⟨δ', ω', em, hi2, iv, st, rl'⟩
  have ke : Ke T (hid (ads ω) H1) H' := fun b o z p => (hid_out (st.seen b o z p)).2
  have k1 := k.step (Stp.of sH : Stp T ω ω H H1)
  by_cases hlt : i < xs.length
  · refine .inr ⟨⟨us, ws, ke_sqt ke a1, ke_sqt ke b1, by omega, by omega⟩, fun σ2 H2 => ∃ δ2 ω2, inv (i + 1) δ2 ω2 ∧ Stp T ω ω2 H1 H2 ∧ Rl X.K H2 σ2 δ2 ω2, fun σ2 H2 ⟨δ2, ω2, c1, c2, c3⟩ => ⟨xs.length - (i + 1), by omega, δ2, ω2, rfl, hlt, c1, c2, c3⟩, fun v H2 hy => ?_⟩
    obtain ⟨T1, T2, u, v', rfl, n1, n2, rfl, f1, f2⟩ := hy
    obtain ⟨x, ex, dx⟩ := dpa_get' a2 (f1 us (ke_sqt ke a1))
    obtain ⟨y, ey, dy⟩ := dpa_get' b2 (f2 ws (ke_sqt ke b1))
    have sa1 : Same H' (upd H' T1 (.tup [u, v'])) := same_new n1
    have sn : Same H' (upd (upd H' T1 (.tup [u, v'])) T2 (.tup [.int (i : Nat), .ref T1])) := sa1.trans (same_new n2)
    have st2 : Stp T ω ω' H1 (upd (upd H' T1 (.tup [u, v'])) T2 (.tup [.int (i : Nat), .ref T1])) := st.trans (.of sn)
    have k2 := k1.step st2
    have rl2 := rl'.mono sn
    have du := dpm (hid_same sn) (dp_ke st.seen x u dx)
    have dv := dpm (hid_same sn) (dp_ke st.seen y v' dy)
    refine ⟨T2, _, rfl, SqT.of upd_same, rfl, _, _, rfl, _, _, rfl, T1, _, rfl, same_sqt (same_new n2) (SqT.of upd_same), rfl, _, _, rfl, _, _, rfl, rfl, rfl, ?_⟩
    refine hbd i x y δ' ω' ex ey iv _ _ _ (((rl2.set (x := .im (.int (i : Int))) (.int _)).set (x := .im x) du).set (x := .im y) dv) (st2.tab (t.ext sH)) ?_
    exact ⟨fun δ2 ω2 σ2 H2 z q l => ⟨δ2, ω2, z, st2.trans q, l⟩, fun r ω2 v H2 z q l dv => k2.rt r ω2 v H2 z q l dv, fun C ω2 σ2 H2 z q l => k2.ex C ω2 σ2 H2 z q l, fun δ2 ω2 σ2 H2 z q l => k2.nx δ2 ω2 σ2 H2 z q l, fun δ2 ω2 σ2 H2 z q l => ⟨δ2, ω2, z, st2.trans q, l⟩⟩
  · have e : i = xs.length := by omega
    subst e
    exact .inl ⟨⟨us, ws, ke_sqt ke a1, ke_sqt ke b1, la⟩, (k1.step st).nx δ' ω' σ' H' (hd δ' ω' iv) .refl rl'⟩
theorem pn_ifE {c : Expr} {kb : Bool} {ds : List PyData} (h : PTd X δ ω c kb) (h1 : kb = true → PN X δ ω a ds) (h2 : kb = false → PN X δ ω b ds) : PN X δ ω (.IfExp c a b pos) ds := fun σ H rl Q q =>
  we (pe_ifExp pt_w pe_w pe_w) (h σ H rl _ fun H1 s1 => by
    have new : ∀ {p : Addr}, H1 p = none → H p = none := fun {p} n => by
      cases e : H p with
      | none => rfl
      | some o =>
        rw [s1 p o e] at n
        cases n
    cases kb with
    | true => exact iteT (h1 rfl σ H1 (rl.mono s1) Q fun p vs H2 s2 n => q p vs H2 (s1.trans s2) (new n))
    | false => exact iteF (h2 rfl σ H1 (rl.mono s1) Q fun p vs H2 s2 n => q p vs H2 (s1.trans s2) (new n)))
end
end FP

namespace FP
open PySem PySem.Spec PyProof.Rows L2 HotX L2H
/-! ### [.. for p in zip(a, b) if ..]: the pairs are kept -/
def ItZN (K : PySem.W.Frag) (a b : Addr) : It :=
  ⟨fun i H => ∃ xs ys : List V, SqT K H a xs ∧ SqT K H b ys ∧ i < xs.length ∧ i < ys.length,
    fun i H v H' => ∃ T x y, v = .ref T ∧ H T = none ∧ H' = upd H T (.tup [x, y]) ∧ (∀ xs, SqT K H a xs → xs[i]? = some x) ∧ ∀ ys, SqT K H b ys → ys[i]? = some y,
    fun i H => ∃ xs ys : List V, SqT K H a xs ∧ SqT K H b ys ∧ xs.length = i⟩
structure ZnSt (z TI TO i1 i2 a b : Addr) (i : Nat) (h : Heap) : Prop where
  zp : ∃ f0 f, Lent f0 ∧ h.get? z = some (zr f0 f TI TO)
  ti : IsPair h TI (.ref i1) (.ref i2)
  to : ∃ x y, IsPair h TO x y
  w1 : h.IsTupleIter i1 a i
  w2 : h.IsTupleIter i2 b i
theorem zr_iter {prog : Program} {w : World} {A : Around} {E : Value → Shared → Prop} {s : Shared} {z TI TO : Addr} {f0 : Value} {f : Bool} {Q : Value → Shared → Prop} (hz : s.heap.get? z = some (zr f0 f TI TO)) (h : Q (.ref z) s) : wpAny (model prog w) A (pyIter (.ref z)) Q E s :=
  have ty : s.TypeIs (.ref z) "zip" := ⟨_, hz, rfl⟩
  wpAny_pyIter_slot ty PySem.F.slot_zip_iter (wpAny_call_entry PySem.F.slot_zip_iter ty PySem.F.entry_zip_iter (wpAny_pure ⟨_, rfl, "zip", _, ty, PySem.F.slot_zip_next.lookup, h⟩) (PySem.F.args_zip_iter_1 _))
section
variable {P : Program} {w : World} {K : PySem.W.Frag} {n : Str} {tpos : Pos} {z TI TO i1 i2 a b : Addr}
theorem ZnSt.obj {i : Nat} {h : Heap} (st : ZnSt z TI TO i1 i2 a b i h) {c : Addr} (hc : c ∈ [z, TI, TO, i1, i2]) : ∃ o, h.get? c = some o ∧ ∀ v, o.data ≠ .cell v := by
  obtain ⟨⟨f0, f, _, g2⟩, g3, ⟨x, y, g4⟩, ⟨o1, g5, _, d1⟩, ⟨o2, g6, _, d2⟩⟩ := st
  simp only [List.mem_cons, List.not_mem_nil, or_false] at hc
  rcases hc with rfl | rfl | rfl | rfl | rfl
  · exact ⟨_, g2, nofun⟩
  · exact ⟨_, g3, nofun⟩
  · exact ⟨_, g4, nofun⟩
  · exact ⟨o1, g5, fun v q => by rw [d1] at q; cases q⟩
  · exact ⟨o2, g6, fun v q => by rw [d2] at q; cases q⟩
theorem ZnSt.keep {i : Nat} {h h' : Heap} (st : ZnSt z TI TO i1 i2 a b i h) (k : ∀ c ∈ [z, TI, TO, i1, i2], ∀ o, h.get? c = some o → h'.get? c = some o) : ZnSt z TI TO i1 i2 a b i h' :=
  ⟨st.zp.imp fun _ q => q.imp fun _ q => ⟨q.1, k z (by simp) _ q.2⟩, k TI (by simp) _ st.ti, st.to.imp fun _ q => q.imp fun _ q => k TO (by simp) _ q, st.w1.at fun o q => k i1 (by simp) o q, st.w2.at fun o q => k i2 (by simp) o q⟩
theorem turn_zN (S : ZipSep2 z TI TO i1 i2 [i1, a] [i2, b]) (ha : a ≠ i1) (hb : b ≠ i2) : Turn P w K (.Name n tpos) (ItZN K a b) [z, TI, TO, i1, i2] z (ZnSt z TI TO i1 i2 a b) where
  mem := by simp
  obj := fun i h st c hc => st.obj hc
  keep := fun i h h' st k => st.keep k
  item := by
    intro X hP hw hK hc i pins s σ H E I hf st hg
    subst hP hw hK
    obtain ⟨xs, ys, hqx, hqy, lx, ly⟩ := hg
    obtain ⟨us, rv, p, _⟩ := I.tuple hqx
    obtain ⟨us2, rv2, p2, _⟩ := I.tuple hqy
    obtain ⟨x, hx⟩ : ∃ x, xs[i]? = some x := ⟨_, List.getElem?_eq_getElem lx⟩
    obtain ⟨y, hy⟩ : ∃ y, ys[i]? = some y := ⟨_, List.getElem?_eq_getElem ly⟩
    obtain ⟨u, gu, ru⟩ := rv.get hx
    obtain ⟨u2, gu2, ru2⟩ := rv2.get hy
    have D1 := Draws.tuple (prog := X.prog) (w := X.w) (A := X.A.in1) (I.ok.hd hc) i1 a ha us.toArray
    have D2 := Draws.tuple (prog := X.prog) (w := X.w) (A := X.A.in1) (I.ok.hd hc) i2 b hb us2.toArray
    obtain ⟨f0, f, l0, hz⟩ := st.zp
    obtain ⟨x0, y0, ho⟩ := st.to
    have sizes : i < us.toArray.size ∧ i < us2.toArray.size := ⟨by simpa using (List.getElem?_eq_some_iff.mp gu).1, by simpa using (List.getElem?_eq_some_iff.mp gu2).1⟩
    refine zr_next S D1 D2 ⟨rfl, fun _ _ _ q => q, hz, st.ti, ho, ⟨st.w1, p⟩, ⟨st.w2, p2⟩⟩ l0 sizes.1 sizes.2 fun x1 x2 h1 tk g0 q1 q2 lg zf => ⟨_, rfl, wpAny_pure ?_⟩
    obtain rfl : x1 = u := by simpa [gu] using q1.symm
    obtain rfl : x2 = u2 := by simpa [gu2] using q2.symm
    have I1 : Inv X pins σ (upd H s.heap.objs.size (.tup [x, y])) { s with heap := h1, toks := tk } :=
      I.turnedNew (ch := [z, TI, TO, i1, i2]) (fun c o hc q => zf.kp c o (fun r => hc (by simp only [List.mem_cons, List.not_mem_nil, or_false] at r ⊢; rcases r with r | r | r | r <;> simp [r])) q) hf (Nat.le_refl _) ⟨by show 2 ≤ sizeLine; decide, [x1, x2], .cons ru (.cons ru2 .nil), ⟨_, zf.new, rfl, _, rfl⟩⟩
    obtain ⟨fz, ez⟩ := zf.rz
    refine ⟨.ref s.heap.objs.size, _, I1, rfl, ⟨_, x, y, rfl, I.hok.fresh (Nat.le_refl _), rfl, fun l hl => by rw [I.tuple_inj hl hqx]; exact hx, fun l hl => by rw [I.tuple_inj hl hqy]; exact hy⟩, ⟨⟨g0, fz, lg, ez⟩, zf.ri, zf.ro, zf.s1.1, zf.s2.1⟩, fun c hcm => ?_⟩
    obtain ⟨_, q, _⟩ := st.obj hcm
    rw [upd_ne (Nat.ne_of_lt (Heap.lt_size q))]
    exact (hf c hcm).1
  done := by
    intro X hP hw hK hc i pins s σ H E I hf st hg
    subst hP hw hK
    obtain ⟨xs, ys, hqx, hqy, lx⟩ := hg
    obtain ⟨us, rv, p, _⟩ := I.tuple hqx
    obtain ⟨us2, rv2, p2, _⟩ := I.tuple hqy
    have D1 := Draws.tuple (prog := X.prog) (w := X.w) (A := X.A.in1) (I.ok.hd hc) i1 a ha us.toArray
    have D2 := Draws.tuple (prog := X.prog) (w := X.w) (A := X.A.in1) (I.ok.hd hc) i2 b hb us2.toArray
    obtain ⟨f0, f, l0, hz⟩ := st.zp
    obtain ⟨x0, y0, ho⟩ := st.to
    have sz : i = us.toArray.size := by rw [List.size_toArray, ← rv.length, lx]
    have w1 := st.w1
    rw [sz] at w1
    exact zr_stop S D1 D2 ⟨rfl, fun _ _ _ q => q, hz, st.ti, ho, ⟨w1, p⟩, ⟨st.w2, p2⟩⟩ l0 fun h' r => ⟨rfl, I.turnedL (t' := s.toks) (ch := [z, TI, TO, i1, i2]) (fun c o hc q => r c o (fun r => hc (by simp only [List.mem_cons, List.not_mem_nil, or_false] at r ⊢; rcases r with r | r | r | r <;> simp [r])) q) hf⟩
  self := fun A i s Q E st h => let ⟨_, _, _, hz⟩ := st.zp; zr_iter hz h
end
theorem five_le {N : Nat} : ∀ c ∈ [N + 4, N + 2, N + 3, N, N + 1], N ≤ c := fun c hc => by
  simp only [List.mem_cons, List.not_mem_nil, or_false] at hc
  omega
def iZN (K : PySem.W.Frag) (ta : TA) : TI := fun σ H R => ta σ H fun vs H1 => ∃ a b xs ys, vs = [.ref a, .ref b] ∧ SqT K H1 a xs ∧ SqT K H1 b ys ∧ R (ItZN K a b) H1
theorem pi_zN {X : Cx} {e1 e2 : Expr} {ta : TA} {p2 zp tpos : Pos} {n : Str} (hgz : Gl X "zip") (hmz : X.mg "zip" = none) (ha : PA X [e1, e2] ta)
    (hsz : starEach [e1, e2] X.env = (false, eval e1 X.env) :: starEach [e2] X.env := by rfl) (hpl : (backTo zp (starEach [e2] X.env)).any (·.1) = false := by rfl) :
    PI X (.Name n tpos) (.Call (.Name "zip" p2) [e1, e2] [] zp) (iZN X.K ta) := by
  refine ⟨fun pins s σ H R I h => ?_⟩
  refine Call_ (ld_blt I hgz hmz PyProof.Rows.boot_zip (PyProof.Rows.callWith_type1 (thn (ha.run zp pins s σ H _ I h) fun us s1 ⟨vs, H1, I1, r1, q1⟩ => ?_) hsz hpl))
  obtain ⟨a, b, xs, ys, rfl, hqx, hqy, q⟩ := q1
  rcases r1 with _ | ⟨r, r1⟩
  rcases r1 with _ | ⟨r', r1⟩
  cases r1
  cases r
  cases r'
  obtain ⟨us, rv, p1, _⟩ := I1.tuple hqx
  obtain ⟨us2, rv2, p2, _⟩ := I1.tuple hqy
  obtain ⟨la, lb⟩ : a < s1.heap.objs.size ∧ b < s1.heap.objs.size := ⟨let ⟨_, q, _⟩ := p1; Heap.lt_size q, let ⟨_, q, _⟩ := p2; Heap.lt_size q⟩
  refine RZ.call_zipT p1 p2 fun h1 hz hTI hTO w1 w2 sz1 k1 => zr_iter hz ?_
  have I2 : Inv X pins σ H1 { s1 with heap := h1 } := I1.kept (t' := s1.toks) fun c o q => k1 c o q
  have S : ZipSep2 (s1.heap.objs.size + 4) (s1.heap.objs.size + 2) (s1.heap.objs.size + 3) s1.heap.objs.size (s1.heap.objs.size + 1) [s1.heap.objs.size, a] [s1.heap.objs.size + 1, b] := zip_sep2 (fp1 := [a]) (fp2 := [b]) (fun c hc => by simpa using (show c = a by simpa using hc) ▸ la) (fun c hc => by simpa using (show c = b by simpa using hc) ▸ lb)
  exact ⟨s1.heap.objs.size + 4, [s1.heap.objs.size + 4, s1.heap.objs.size + 2, s1.heap.objs.size + 3, s1.heap.objs.size, s1.heap.objs.size + 1], _, _, H1, rfl, I2, turn_zN S (Nat.ne_of_lt la) (Nat.ne_of_lt (Nat.lt_succ_of_lt lb)), ⟨⟨.none, false, .inl rfl, hz⟩, hTI, ⟨_, _, hTO⟩, w1, w2⟩, fun c hc => I1.fpOk (five_le c hc) (I1.hok.fresh (five_le c hc)), q⟩
section
variable {X : Cx} {W : WX} {T : List (Addr × Str)} {δ : De} {ω : Om} {a b c elt : Expr} {pos p : Pos} {R : Out → Prop} {ss : List Stmt} {xs ys : List PyData}
abbrev ta2 (X : Cx) (a b : Expr) : TA := tCons (wpe X a) (tCons (wpe X b) tNil)
def pairsD (xs ys : List PyData) : List PyData := List.zipWith (fun x y => .tuple [x, y]) xs ys
theorem pairsD_get {xs ys : List PyData} {i : Nat} {x y : PyData} (h1 : xs[i]? = some x) (h2 : ys[i]? = some y) : (pairsD xs ys)[i]? = some (.tuple [x, y]) := by
  unfold pairsD
  rw [List.getElem?_zipWith, h1, h2]
theorem lc_zipIf {σ : L2.St} {H : Hp} {Q : VK} {j : Nat} {te : TE} {tt : TT} {sel : List (Option PyData)} (rl : Rl X.K H σ δ ω) (ha : PD X δ ω a (.tuple xs)) (hb : PD X δ ω b (.tuple ys)) (hl : ys.length = xs.length) (hls : sel.length = xs.length) (hz : xs.length ≤ 10000)
    (ht : ∀ (i : Nat) (d : PyData) (s : Option PyData), (pairsD xs ys)[i]? = some d → sel[i]? = some s → ∀ D o σ' H', Rl X.K H' σ' (δ.set j (some (.im d))) (omD ω D o) → ∀ Q : Bool → Hp → Prop, (∀ H2, Same H' H2 → Q s.isSome H2) → tt σ' H' Q)
    (he : ∀ (i : Nat) (d y : PyData), (pairsD xs ys)[i]? = some d → sel[i]? = some (some y) → ∀ D o σ' H', Rl X.K H' σ' (δ.set j (some (.im d))) (omD ω D o) → ∀ Q : VK, (∀ v H2, Same H' H2 → Dp X.K (hid (ads (omD ω D o)) H2) v y → Q v H2) → te σ' H' Q)
    (k : ∀ p vs H', Same H H' → H p = none → H' p = some (.lst vs) → DpAll X.K (hid (p :: ads ω) H') vs (pick sel) → Q (.ref p) H') :
    tLc (iZN X.K (ta2 X a b)) (gName j) tt te [j] σ H Q := by
  refine ha σ H rl _ fun va H0 s0 da => hb σ H0 (rl.mono s0) _ fun vb H1 s1 db => ?_
  have da1 := dpm (hid_same s1) da
  clear da
  have sH : Same H H1 := s0.trans s1
  have rl1 := rl.mono sH
  cases da1
  cases db
  rename_i qa us a1 a2 qb ws b1 b2
  have la := dpa_len a2
  have lb := dpa_len b2
  refine ⟨qa, qb, us, ws, rfl, same_sqt hid_sub a1, same_sqt hid_sub b1, fun D hD => ?_⟩
  refine ⟨fun i m H2 => m = xs.length - i ∧ i ≤ xs.length ∧ Same H1 H2 ∧ ∃ vs, H2 D = some (.lst vs) ∧ DpAll X.K (hid (ads (FP.omD ω D (.lst ((pick (sel.take i)).map .im)))) H2) vs (pick (sel.take i)), ⟨xs.length, by omega, Nat.zero_le _, same_new hD, [], upd_same, ?_⟩, ?_⟩
  · rw [List.take_zero]
    exact .nil
  rintro i m H2 ⟨em, hi, s2, vs, hv, dv⟩
  have qa2 := same_sqt s2 (same_sqt hid_sub a1)
  have qb2 := same_sqt s2 (same_sqt hid_sub b1)
  by_cases hlt : i < xs.length
  · refine .inr ⟨⟨us, ws, qa2, qb2, by omega, by omega⟩, fun H3 => Same H1 H3 ∧ ∃ vs, H3 D = some (.lst vs) ∧ DpAll X.K (hid (ads (FP.omD ω D (.lst ((pick (sel.take (i + 1))).map .im)))) H3) vs (pick (sel.take (i + 1))), fun H3 ⟨s3, h3⟩ => ⟨xs.length - (i + 1), by omega, rfl, hlt, s3, h3⟩, fun x H3 hy => ?_⟩
    obtain ⟨T1, u, v', rfl, n1, rfl, f1, f2⟩ := hy
    obtain ⟨x, ex, dx⟩ := dpa_get' a2 (f1 us qa2)
    obtain ⟨y, ey, dy⟩ := dpa_get' b2 (f2 ws qb2)
    have ed := pairsD_get ex ey
    have hys : i < sel.length := by omega
    have es : sel[i]? = some sel[i] := List.getElem?_eq_getElem hys
    show wipe (((wipe σ [j])).set j (some (.ref T1))) [j] = wipe σ [j] ∧ _
    have ew : wipe σ [j] = σ.set j none := rfl
    refine ⟨?_, ?_⟩
    · show (((σ.set j none).set j (some (.ref T1))).set j none) = σ.set j none
      rw [List.set_set, List.set_set]
    show tt (((wipe σ [j])).set j (some (.ref T1))) _ _
    rw [ew, List.set_set]
    have sn : Same H2 (upd H2 T1 (.tup [u, v'])) := same_new n1
    have rl3 := (rl1.omD hD s2 hv dv)
    have nT : T1 ∉ ads (omD ω D (.lst ((pick (sel.take i)).map .im))) := new_out rl3.ro.there n1
    have dT : Dp X.K (hid (ads (omD ω D (.lst ((pick (sel.take i)).map .im)))) (upd H2 T1 (.tup [u, v']))) (.ref T1) (.tuple [x, y]) :=
      .tup (SqT.of (hid_of nT upd_same)) (dpam (hid_same sn) (.cons (dpm (hid_in hD s2) dx) (.cons (dpm (hid_in hD s2) dy) .nil)))
    have rl4 := (rl3.mono sn).set (i := j) (x := .im (.tuple [x, y])) (v := .ref T1) dT
    generalize hsel : sel[i] = sv at es
    refine ht i _ sv ed es D _ _ _ rl4 _ fun H4 s4 => ?_
    have s24 : Same H2 H4 := sn.trans s4
    cases sv with
    | none =>
      refine iteF ⟨s2.trans s24, vs, s24 D _ hv, ?_⟩
      rw [pick_snoc es]
      show DpAll _ _ vs (pick (sel.take i) ++ [])
      rw [List.append_nil]
      exact dpam (hid_same s24) dv
    | some y2 =>
      refine iteT (he i _ y2 ed es D _ _ _ (rl4.mono s4) _ fun v H5 s5 d5 => ⟨vs, s5 D _ (s24 D _ hv), ?_, same_upd_new hD ((s2.trans s24).trans s5), vs ++ [v], upd_same, ?_⟩)
      · rw [dpa_len dv]
        refine Nat.lt_of_le_of_lt (pick_len _) ?_
        rw [List.length_take]
        refine Nat.lt_of_le_of_lt (Nat.min_le_left _ _) (Nat.lt_of_lt_of_le hlt (Nat.le_trans hz ?_))
        rw [sizeLine_eq]
        decide
      · rw [pick_snoc es]
        exact dpa_app (dpam hid_upd (dpam (hid_same (s24.trans s5)) dv)) (.cons (dpm hid_upd d5) .nil)
  · have e : i = xs.length := by omega
    subst e
    refine .inl ⟨⟨us, ws, qa2, qb2, la⟩, ?_⟩
    rw [List.take_of_length_le (by omega)] at dv
    exact k D vs H2 (sH.trans s2) (sH.free hD) hv (dpam (hid_more fun b h => ads_omD.mpr (List.mem_cons.mp h)) dv)
/-- x = [elt for y in zip(a, b) if c], a list of one's own -/
theorem sd_ownLcZ (i : Nat) {x : Str} {py p' zp cpos : Pos} {scope : Scope} {y : Str} {j : Nat} {sel : List (Option PyData)} (hc : X.calm = true) (hN : X.N.Nodup) (hmz : X.mg "zip" = none) (ha : PD X δ ω a (.tuple xs)) (hb : PD X δ ω b (.tuple ys)) (hl : ys.length = xs.length) (hls : sel.length = xs.length) (ok : BlkOk X.N X.env.scope scope [(y, j)])
    (hg : ∀ (s : Shared) (H : Hp) (C : Addr) (cl : List (Str × Addr)) (fp : List Addr), PG (X.blk s H scope (compEnvC scope cl C X.env) fp) (.Name y p') (gName j))
    (ht : ∀ (i : Nat) (d : PyData) (s : Option PyData), (pairsD xs ys)[i]? = some d → sel[i]? = some s → ∀ D o (sh : Shared) (H : Hp) (C : Addr) (cl : List (Str × Addr)) (fp : List Addr), PTd (X.blk sh H scope (compEnvC scope cl C X.env) fp) (δ.set j (some (.im d))) (omD ω D o) c s.isSome)
    (he : ∀ (i : Nat) (d y : PyData), (pairsD xs ys)[i]? = some d → sel[i]? = some (some y) → ∀ D o (s : Shared) (H : Hp) (C : Addr) (cl : List (Str × Addr)) (fp : List Addr), PD (X.blk s H scope (compEnvC scope cl C X.env) fp) (δ.set j (some (.im d))) (omD ω D o) elt y)
    (hz : xs.length ≤ 10000) (hk : ∀ D, SD X W T ss (δ.set i (some (.ad D))) (omD ω D (.lst ((pick sel).map .im))) R) (hsw : swapsWith (.ListComp elt [⟨.Name y p', .Call (.Name "zip" p) [a, b] [] zp, [c], 0⟩] scope cpos) (some (.Name x py)) pos.line X.env = pure true := by rfl)
    (hy : X.N[i]? = some x := by rfl) (hyl : X.env.scope.names.lookup x = some .local := by rfl) (hgz : Gl X "zip" := by rfl)
    (hs1 : starEach [a, b] X.env = (false, eval a X.env) :: starEach [b] X.env := by rfl) (hs2 : starEach [b] X.env = (false, eval b X.env) :: starEach [] X.env := by rfl) (hpl : (backTo zp (starEach [b] X.env)).any (·.1) = false := by rfl)
    (hs : ∀ x, foldedSetIterable (.Call (.Name "zip" p) [a, b] [] zp) X.env x = pure x := by intro _; rfl) :
    SD X W T (.Assign [.Name x py] (.ListComp elt [⟨.Name y p', .Call (.Name "zip" p) [a, b] [] zp, [c], 0⟩] scope cpos) pos :: ss) δ ω R := by
  refine sd_cons fun σ H D rl t k => ws (ps_setLc (i := i) (own := [(y, j)]) hc hN hy hyl hsw (pi_zN hgz hmz (pa_cons pe_w (pa_cons pe_w pa_nil hs2) hs1) hs1 hpl) ok hg (fun s H0 C cl fp => pts_blk s H0 C cl fp) (fun s H0 C cl fp => pe_blk s H0 C cl fp) hs) ?_
  refine lc_zipIf rl ha hb hl hls hz (fun i d sv hd hy D o σ' H' rl' Q' k' s H0 C cl fp => ht i d sv hd hy D o s H0 C cl fp σ' H' rl' Q' k') (fun i d y hd hy D o σ' H' rl' Q' k' s H0 C cl fp => he i d y hd hy D o s H0 C cl fp σ' H' rl' Q' k') (fun q vs H' s n hv dv => ?_)
  have rl2 : Rl X.K H' σ δ (omD ω q (.lst ((pick sel).map .im))) := rl.omD n s hv (dpam (hid_more fun b h => List.mem_cons.mpr (ads_omD.mp h)) dv)
  exact k.nx _ _ _ H' (hk q) (stp_new s n) (rl2.set (x := .ad q) (v := .ref q) rfl)
end
end FP

namespace FP
open PySem PySem.Spec PyProof.Rows L2 HotX L2H
section
variable {X : Cx} {W : WX} {T : List (Addr × Str)} {δ : De} {ω : Om} {a b c e elt iter : Expr} {pos p : Pos} {R : Out → Prop} {ss body : List Stmt} {d : PyData}
/-- try: .. except ..: nothing is raised -/
theorem sd_tryNo {h0 : ExceptHandler} {hs : List ExceptHandler} (h : SD X.nox W T body δ ω (Nxt X W T ss R)) : SD X W T (.Try body (h0 :: hs) [] [] pos :: ss) δ ω R :=
  sd_cons fun σ H D rl t k => ws (ps_try_thru0 pss_w) (h σ H D rl t ⟨k.nx, k.rt, k.ex, k.bk, k.ct⟩)
/-- a call whose value isn't used -/
theorem sd_exD (he : PD X δ ω e d) (hk : SD X W T ss δ ω R) (hs : swapsWith e none pos.line X.env = pure false := by rfl) : SD X W T (.Expr e pos :: ss) δ ω R :=
  sd_cons fun σ H D rl t k => ws (ps_expr pe_w hs) (he σ H rl _ fun v H1 s1 d1 => k.nx _ _ _ H1 hk (.of s1) (rl.mono s1))
/-- [elt for a, b in pairs if c] -/
theorem pn_lc2If {scope : Scope} {n1 n2 : Str} {j1 j2 : Nat} {es : List Expr} {kk : Nat} {tp : Pos} (ls : List (PyData × PyData)) {sel : List (Option PyData)} (hc : X.calm = true) (hN : X.N.Nodup) (hw : PWs X δ ω (.Tuple es kk tp) iter (ls.map fun q => .tuple [q.1, q.2])) (hl : sel.length = ls.length) (hz : ls.length ≤ 10000)
    (ok : BlkOk X.N X.env.scope scope [(n1, j1), (n2, j2)]) (hg : ∀ (s : Shared) (H : Hp) (C : Addr) (cl : List (Str × Addr)) (fp : List Addr), PG (X.blk s H scope (compEnvC scope cl C X.env) fp) (.Tuple es kk tp) (gTup X.K 2 (gAll [j1, j2])))
    (ht : ∀ (i : Nat) (l m : PyData) (sv : Option PyData), ls[i]? = some (l, m) → sel[i]? = some sv → ∀ D o (s : Shared) (H : Hp) (C : Addr) (cl : List (Str × Addr)) (fp : List Addr), PTd (X.blk s H scope (compEnvC scope cl C X.env) fp) (((wipeD δ [j1, j2]).set j1 (some (.im l))).set j2 (some (.im m))) (omD ω D o) c sv.isSome)
    (he : ∀ (i : Nat) (l m z : PyData), ls[i]? = some (l, m) → sel[i]? = some (some z) → ∀ D o (s : Shared) (H : Hp) (C : Addr) (cl : List (Str × Addr)) (fp : List Addr), PD (X.blk s H scope (compEnvC scope cl C X.env) fp) (((wipeD δ [j1, j2]).set j1 (some (.im l))).set j2 (some (.im m))) (omD ω D o) elt z)
    (hs : ∀ x, foldedSetIterable iter X.env x = pure x := by intro _; rfl) : PN X δ ω (.ListComp elt [⟨.Tuple es kk tp, iter, [c], 0⟩] scope pos) (pick sel) := fun σ H rl Q k => by
  obtain ⟨wi, h1, h2⟩ := hw
  refine we (pe_lc (own := [(n1, j1), (n2, j2)]) hc hN h1 ok hg (fun s H0 C cl fp => pts_blk s H0 C cl fp) (fun s H0 C cl fp => pe_blk s H0 C cl fp) hs) ?_
  refine h2 σ H rl _ fun J H1 s1 w => fun D hD => ?_
  have rl1 := rl.mono s1
  refine ⟨fun i m H2 => m = ls.length - i ∧ i ≤ ls.length ∧ Same H1 H2 ∧ ∃ vs, H2 D = some (.lst vs) ∧ DpAll X.K (hid (ads (omD ω D (.lst ((pick (sel.take i)).map .im)))) H2) vs (pick (sel.take i)), ⟨ls.length, by omega, Nat.zero_le _, same_new hD, [], upd_same, by rw [List.take_zero]; exact .nil⟩, ?_⟩
  rintro i m H2 ⟨em, hi, s2, vs, hv, dv⟩
  obtain ⟨go, stop, yld⟩ := w H2 s2
  rw [List.length_map] at go stop yld
  by_cases hlt : i < ls.length
  · have el : ls[i]? = some ls[i] := List.getElem?_eq_getElem hlt
    have ez : sel[i]? = some sel[i] := List.getElem?_eq_getElem (by omega)
    refine .inr ⟨go i hlt, fun H3 => Same H1 H3 ∧ ∃ vs, H3 D = some (.lst vs) ∧ DpAll X.K (hid (ads (omD ω D (.lst ((pick (sel.take (i + 1))).map .im)))) H3) vs (pick (sel.take (i + 1))), fun H3 ⟨s3, h3⟩ => ⟨ls.length - (i + 1), by omega, rfl, hlt, s3, h3⟩, fun x H3 hy => ?_⟩
    obtain ⟨e3, d, ed, dx⟩ := yld i x H3 hlt hy
    subst e3
    rw [List.getElem?_map, el] at ed
    cases ed
    cases dx with
    | tup c1 c2 =>
      cases c2 with
      | cons c3 c4 =>
        cases c4 with
        | cons c5 c6 =>
          cases c6
          rename_i qw w1 w2
          refine ⟨qw, [w1, w2], rfl, same_sqt s2 (same_sqt hid_sub c1), rfl, ?_⟩
          refine ⟨w1, _, rfl, ?_⟩
          refine ⟨w2, [], rfl, ?_⟩
          refine ⟨rfl, ?_, ?_⟩
          · rw [wipe_mem (by simp), wipe_mem (by simp), wipe_wipe (fun v h => h)]
          · have rl3 := rl1.omD hD s2 hv dv
            have rl4 := rl_wipe rl3 [j1, j2]
            have up := hid_in (ω := ω) (o := .lst ((pick (sel.take i)).map .im)) hD s2
            have rl5 := (rl4.set (i := j1) (x := .im ls[i].1) (v := w1) (dpm up c3)).set (i := j2) (x := .im ls[i].2) (v := w2) (dpm up c5)
            generalize hsel : sel[i] = sv at ez
            intro s H0 C cl fp
            refine ht i ls[i].1 ls[i].2 sv el ez D _ s H0 C cl fp _ _ rl5 _ fun H4 s4 => ?_
            cases sv with
            | none =>
              refine iteF ⟨s2.trans s4, vs, s4 D _ hv, ?_⟩
              rw [pick_snoc ez]
              show DpAll _ _ vs (pick (sel.take i) ++ [])
              rw [List.append_nil]
              exact dpam (hid_same s4) dv
            | some y =>
              refine iteT ?_
              intro s' H0' C' cl' fp'
              refine he i ls[i].1 ls[i].2 y el ez D _ s' H0' C' cl' fp' _ _ (rl5.mono s4) _ fun v H5 s5 d5 => ⟨vs, s5 D _ (s4 D _ hv), ?_, same_upd_new hD ((s2.trans s4).trans s5), vs ++ [v], upd_same, ?_⟩
              · rw [dpa_len dv]
                refine Nat.lt_of_le_of_lt (pick_len _) ?_
                rw [List.length_take]
                refine Nat.lt_of_le_of_lt (Nat.min_le_left _ _) (Nat.lt_of_lt_of_le hlt (Nat.le_trans hz ?_))
                rw [sizeLine_eq]
                decide
              · rw [pick_snoc ez]
                exact dpa_app (dpam hid_upd (dpam (hid_same (s4.trans s5)) dv)) (.cons (dpm hid_upd d5) .nil)
  · have e : i = ls.length := by omega
    subst e
    refine .inl ⟨stop, ?_⟩
    rw [List.take_of_length_le (by omega)] at dv
    exact k D vs H2 (s1.trans s2) (s1.free hD) hv (dpam (hid_more fun b h => ads_omD.mpr (List.mem_cons.mp h)) dv)
theorem pt_truPL {ds : List PyData} (h : PL X δ ω e ds) (he : ∀ whole, isTrue e X.env whole = (do let v ← whole; standAt e.pos; holding [v] (truthy v)) := by intro _; rfl) : PTd X δ ω e (!ds.isEmpty) := fun σ H r Q q =>
  wt (pt_truth pe_w he) (h σ H r _ fun l vs H1 s1 h1 d1 => by
    refine ⟨!ds.isEmpty, .inl ⟨vs, h1, ?_⟩, q H1 s1⟩
    cases d1 <;> rfl)
theorem wk_range2 {tg : Expr} {i j : Int} (hm : X.mg "range" = none) (ha : PD X δ ω a (.int i)) (hb : PD X δ ω b (.int j)) (hz : -100000 ≤ i ∧ i ≤ 100000 ∧ -100000 ≤ j ∧ j ≤ 100000) (hg : Gl X "range" := by rfl) (hs : starEach [a, b] X.env = [(false, eval a X.env), (false, eval b X.env)] := by rfl) (hs2 : starEach [b] X.env = [(false, eval b X.env)] := by rfl)
    (he : starEach [a, b] X.env = (false, eval a X.env) :: starEach [b] X.env := by rfl) (he2 : starEach [b] X.env = (false, eval b X.env) :: starEach [] X.env := by rfl) :
    PWk X δ ω tg (.Call (.Name "range" p) [a, b] [] pos) (rangeD i (j - i).toNat) := by
  refine ⟨_, pi_range2 hg hm (pa_cons pe_w (pa_cons pe_w pa_nil he2) he) hs hs2, fun σ H rl R k => ha σ H rl _ fun v H0 s0 d0 => hb σ H0 (rl.mono s0) _ fun v1 H1 s1 d1 => ?_⟩
  cases d0
  cases d1
  refine ⟨i, j, rfl, ⟨by omega, by omega, by omega, by omega⟩, k _ H1 (s0.trans s1) fun T H2 g => ⟨fun n hn => ?_, ?_, fun n y H3 hn w => ?_⟩⟩
  · rw [rangeD_len] at hn
    exact hn
  · show (j - i).toNat ≤ (rangeD i (j - i).toNat).length
    rw [rangeD_len]
    exact Nat.le_refl _
  · obtain ⟨e1, e2⟩ := w
    subst e2
    rw [rangeD_len] at hn
    exact ⟨e1, _, rangeD_get hn, .int _⟩
end
end FP

namespace FP
open PySem PySem.Spec PyProof.Rows L2 HotX L2H
section
variable {X : Cx} {W : WX} {T : List (Addr × Str)} {δ : De} {ω : Om} {a b c e o elt iter : Expr} {pos p : Pos} {R : Out → Prop} {ss body : List Stmt} {d : PyData}
/-- o.extend(e), e a call that hands back a list of one's own -/
theorem sd_extY {ad : Addr} {xs0 : List Sd} {apos cpos : Pos} (ho : PS1 X δ ω o (.ad ad)) (hm0 : (ad, Od.lst xs0) ∈ ω.os)
    (he : EX X W T e δ ω (Val1 (fun r ω1 => ∃ p j xs ys, r = .ad p ∧ ω1.os[j]? = some (ad, .lst xs) ∧ (p, Od.lst ys) ∈ ω1.os ∧ xs.length + ys.length < 10000 ∧ SD X W T ss δ (putO ω1 j (ad, .lst (xs ++ ys))) R) R))
    (hs : swapsWith (.Call (.Attribute o "extend" apos) [e] [] cpos) none pos.line X.env = pure false := by rfl)
    (hbase : attributeBase o "extend" X.env (eval o X.env) = eval o X.env := by rfl)
    (hfew : ((backTo cpos (starEach [e] X.env)).all (fun x => !x.1) && (backToKw cpos (keywordEach [] X.env)).all (fun x => x.1.isSome)
      && decide (([e] : List Expr).length + ([] : List Keyword).length + (if ([] : List Keyword).isEmpty then 0 else 1) < 30)) = true := by rfl)
    (hline : (apos.endLine == cpos.line) = true := by rfl) (hst : starEach [e] X.env = (false, eval e X.env) :: starEach [] X.env := by rfl) :
    SD X W T (.Expr (.Call (.Attribute o "extend" apos) [e] [] cpos) pos :: ss) δ ω R :=
  sd_cons fun σ H Dd rl t kt => ws (ps_expr (pe_bm PySem.F.plainAttrs_list PySem.F.slot_list_extend PySem.F.type_list_extend mt_extend pe_w (pa_cons pe_w pa_nil hst) hbase hfew hline hst) hs) (ho σ H rl _ fun v H1 s1 d1 => by
    have d1 : v = .ref ad := d1
    subst d1
    obtain ⟨vs0, e3, _⟩ := (rl.mono s1).ro.ob ad _ hm0
    refine ⟨.inl ⟨rfl, vs0, SqL.of e3⟩, he σ H1 (rl.mono s1) (t.ext s1) _ (fun r ω1 y H2 z1 st l dv => ?_) fun C ω' σ' H' z q l => kt.ex C ω' σ' H' z ((Stp.of s1).trans q) l⟩
    obtain ⟨p, j, xs, ys, rfl, hm, hp, hz, hk⟩ := z1
    have dv : y = .ref p := dv
    subst dv
    obtain ⟨vs, g1, g2⟩ := l.ro.ob ad _ (at_mem hm)
    obtain ⟨us, k1, k2⟩ := l.ro.ob p _ hp
    refine ⟨ad, p, vs, us, rfl, rfl, g1, k1, ?_, ?_⟩
    · rw [paired_len g2, paired_len k2]
      exact Nat.le_of_lt (Nat.lt_of_lt_of_le hz (by rw [sizeLine_eq]; decide))
    · have am : ad ∈ ads ω1 := List.mem_append_right _ (List.mem_map.mpr ⟨_, at_mem hm, rfl⟩)
      have hh : Same (hid (ads ω1) H2) (hid (ads ω1) (upd H2 ad (.lst (vs ++ us)))) := fun bb o h => by
        obtain ⟨n, e⟩ := hid_out h
        exact hid_of n (by rw [upd_ne (fun q => n (by rw [q]; exact am))]; exact e)
      obtain ⟨st2, l3⟩ := own_at (T := T) (o' := .lst (xs ++ ys)) (H' := upd H2 ad (.lst (vs ++ us))) l hm g1 (fun _ q => by cases q) (fun _ _ q => by unfold LamX.CodeO at q; cases q) (fun bb o nb h => by rw [upd_ne nb]; exact h) ⟨_, upd_same, paired_app (L2.Paired.mapP g2 fun _ _ q => sdv_mono hh q) (L2.Paired.mapP k2 fun _ _ q => sdv_mono hh q)⟩
      exact kt.nx δ _ σ _ hk (((Stp.of s1).trans st).trans st2) l3)
theorem rd_inD {K : PySem.W.Frag} {da : PyData} {ds : List PyData} (h1 : SeqAt.shaped da = true) (h2 : SeqAt.shaped (.list ds) = true) : RD K (rInD K) da (.list ds) (.bool (ds.any fun z => PyData.eqv z da)) := fun ps x y H _ hx hy Q k =>
  ⟨da, ds, dpm hid_sub hx, dpm hid_sub hy, h1, h2, k _ H (Same.refl H) (.bl _)⟩
/-- [elt for a, b in pairs if c], as a list of one's own -/
theorem lc_two {σ : L2.St} {H : Hp} {Q : VK} {wi : TI} {tt : TT} {te : TE} {j1 j2 : Nat} (ls : List (PyData × PyData)) {sel : List (Option PyData)} (rl : Rl X.K H σ δ ω)
    (hw : ∀ R : It → Hp → Prop, (∀ J H', Same H H' → Wk X.K (Same H') (hid (ads ω) H') J (ls.map fun q => .tuple [q.1, q.2]) → R J H') → wi σ H R) (hl : sel.length = ls.length) (hz : ls.length ≤ 10000)
    (ht : ∀ (i : Nat) (l m : PyData) (sv : Option PyData), ls[i]? = some (l, m) → sel[i]? = some sv → ∀ D o σ' H', Rl X.K H' σ' (((wipeD δ [j1, j2]).set j1 (some (.im l))).set j2 (some (.im m))) (omD ω D o) → ∀ Q : Bool → Hp → Prop, (∀ H2, Same H' H2 → Q sv.isSome H2) → tt σ' H' Q)
    (he : ∀ (i : Nat) (l m z : PyData), ls[i]? = some (l, m) → sel[i]? = some (some z) → ∀ D o σ' H', Rl X.K H' σ' (((wipeD δ [j1, j2]).set j1 (some (.im l))).set j2 (some (.im m))) (omD ω D o) → ∀ Q : VK, (∀ v H2, Same H' H2 → Dp X.K (hid (ads (omD ω D o)) H2) v z → Q v H2) → te σ' H' Q)
    (k : ∀ p vs H', Same H H' → H p = none → H' p = some (.lst vs) → DpAll X.K (hid (p :: ads ω) H') vs (pick sel) → Q (.ref p) H') :
    tLc wi (gTup X.K 2 (gAll [j1, j2])) tt te [j1, j2] σ H Q := by
  refine hw _ fun J H1 s1 w => fun D hD => ?_
  have rl1 := rl.mono s1
  refine ⟨fun i m H2 => m = ls.length - i ∧ i ≤ ls.length ∧ Same H1 H2 ∧ ∃ vs, H2 D = some (.lst vs) ∧ DpAll X.K (hid (ads (omD ω D (.lst ((pick (sel.take i)).map .im)))) H2) vs (pick (sel.take i)), ⟨ls.length, by omega, Nat.zero_le _, same_new hD, [], upd_same, by rw [List.take_zero]; exact .nil⟩, ?_⟩
  rintro i m H2 ⟨em, hi, s2, vs, hv, dv⟩
  obtain ⟨go, stop, yld⟩ := w H2 s2
  rw [List.length_map] at go stop yld
  by_cases hlt : i < ls.length
  · have el : ls[i]? = some ls[i] := List.getElem?_eq_getElem hlt
    have ez : sel[i]? = some sel[i] := List.getElem?_eq_getElem (by omega)
    refine .inr ⟨go i hlt, fun H3 => Same H1 H3 ∧ ∃ vs, H3 D = some (.lst vs) ∧ DpAll X.K (hid (ads (omD ω D (.lst ((pick (sel.take (i + 1))).map .im)))) H3) vs (pick (sel.take (i + 1))), fun H3 ⟨s3, h3⟩ => ⟨ls.length - (i + 1), by omega, rfl, hlt, s3, h3⟩, fun x H3 hy => ?_⟩
    obtain ⟨e3, d, ed, dx⟩ := yld i x H3 hlt hy
    subst e3
    rw [List.getElem?_map, el] at ed
    cases ed
    cases dx with
    | tup c1 c2 =>
      cases c2 with
      | cons c3 c4 =>
        cases c4 with
        | cons c5 c6 =>
          cases c6
          rename_i qw w1 w2
          refine ⟨qw, [w1, w2], rfl, same_sqt s2 (same_sqt hid_sub c1), rfl, ?_⟩
          refine ⟨w1, _, rfl, ?_⟩
          refine ⟨w2, [], rfl, ?_⟩
          refine ⟨rfl, ?_, ?_⟩
          · rw [wipe_mem (by simp), wipe_mem (by simp), wipe_wipe (fun v h => h)]
          · have rl3 := rl1.omD hD s2 hv dv
            have rl4 := rl_wipe rl3 [j1, j2]
            have up := hid_in (ω := ω) (o := .lst ((pick (sel.take i)).map .im)) hD s2
            have rl5 := (rl4.set (i := j1) (x := .im ls[i].1) (v := w1) (dpm up c3)).set (i := j2) (x := .im ls[i].2) (v := w2) (dpm up c5)
            generalize hsel : sel[i] = sv at ez
            refine ht i ls[i].1 ls[i].2 sv el ez D _ _ _ rl5 _ fun H4 s4 => ?_
            cases sv with
            | none =>
              refine iteF ⟨s2.trans s4, vs, s4 D _ hv, ?_⟩
              rw [pick_snoc ez]
              show DpAll _ _ vs (pick (sel.take i) ++ [])
              rw [List.append_nil]
              exact dpam (hid_same s4) dv
            | some y =>
              refine iteT (he i ls[i].1 ls[i].2 y el ez D _ _ _ (rl5.mono s4) _ fun v H5 s5 d5 => ⟨vs, s5 D _ (s4 D _ hv), ?_, same_upd_new hD ((s2.trans s4).trans s5), vs ++ [v], upd_same, ?_⟩)
              · rw [dpa_len dv]
                refine Nat.lt_of_le_of_lt (pick_len _) ?_
                rw [List.length_take]
                refine Nat.lt_of_le_of_lt (Nat.min_le_left _ _) (Nat.lt_of_lt_of_le hlt (Nat.le_trans hz ?_))
                rw [sizeLine_eq]
                decide
              · rw [pick_snoc ez]
                exact dpa_app (dpam hid_upd (dpam (hid_same (s4.trans s5)) dv)) (.cons (dpm hid_upd d5) .nil)
  · have e : i = ls.length := by omega
    subst e
    refine .inl ⟨stop, ?_⟩
    rw [List.take_of_length_le (by omega)] at dv
    exact k D vs H2 (s1.trans s2) (s1.free hD) hv (dpam (hid_more fun b h => ads_omD.mpr (List.mem_cons.mp h)) dv)
theorem sd_ownLc2If (i : Nat) {x : Str} {py cpos : Pos} {scope : Scope} {n1 n2 : Str} {j1 j2 : Nat} {es : List Expr} {kk : Nat} {tp : Pos} (ls : List (PyData × PyData)) {sel : List (Option PyData)} (hc : X.calm = true) (hN : X.N.Nodup) (hw : PWs X δ ω (.Tuple es kk tp) iter (ls.map fun q => .tuple [q.1, q.2])) (hl : sel.length = ls.length) (hz : ls.length ≤ 10000)
    (ok : BlkOk X.N X.env.scope scope [(n1, j1), (n2, j2)]) (hg : ∀ (s : Shared) (H : Hp) (C : Addr) (cl : List (Str × Addr)) (fp : List Addr), PG (X.blk s H scope (compEnvC scope cl C X.env) fp) (.Tuple es kk tp) (gTup X.K 2 (gAll [j1, j2])))
    (ht : ∀ (i : Nat) (l m : PyData) (sv : Option PyData), ls[i]? = some (l, m) → sel[i]? = some sv → ∀ D o (s : Shared) (H : Hp) (C : Addr) (cl : List (Str × Addr)) (fp : List Addr), PTd (X.blk s H scope (compEnvC scope cl C X.env) fp) (((wipeD δ [j1, j2]).set j1 (some (.im l))).set j2 (some (.im m))) (omD ω D o) c sv.isSome)
    (he : ∀ (i : Nat) (l m z : PyData), ls[i]? = some (l, m) → sel[i]? = some (some z) → ∀ D o (s : Shared) (H : Hp) (C : Addr) (cl : List (Str × Addr)) (fp : List Addr), PD (X.blk s H scope (compEnvC scope cl C X.env) fp) (((wipeD δ [j1, j2]).set j1 (some (.im l))).set j2 (some (.im m))) (omD ω D o) elt z)
    (hk : ∀ D, SD X W T ss (δ.set i (some (.ad D))) (omD ω D (.lst ((pick sel).map .im))) R) (hsw : swapsWith (.ListComp elt [⟨.Tuple es kk tp, iter, [c], 0⟩] scope cpos) (some (.Name x py)) pos.line X.env = pure true := by rfl)
    (hy : X.N[i]? = some x := by rfl) (hyl : X.env.scope.names.lookup x = some .local := by rfl) (hs : ∀ x, foldedSetIterable iter X.env x = pure x := by intro _; rfl) : SD X W T (.Assign [.Name x py] (.ListComp elt [⟨.Tuple es kk tp, iter, [c], 0⟩] scope cpos) pos :: ss) δ ω R := by
  obtain ⟨wi, h1, h2⟩ := hw
  refine sd_cons fun σ H D rl t k => ws (ps_setLc (i := i) (own := [(n1, j1), (n2, j2)]) hc hN hy hyl hsw h1 ok hg (fun s H0 C cl fp => pts_blk s H0 C cl fp) (fun s H0 C cl fp => pe_blk s H0 C cl fp) hs) ?_
  refine lc_two ls rl (fun R kk => h2 σ H rl R kk) hl hz (fun i l m sv hd hy D o σ' H' rl' Q' k' s H0 C cl fp => ht i l m sv hd hy D o s H0 C cl fp σ' H' rl' Q' k') (fun i l m z hd hy D o σ' H' rl' Q' k' s H0 C cl fp => he i l m z hd hy D o s H0 C cl fp σ' H' rl' Q' k') (fun q vs H' s n hv dv => ?_)
  have rl2 : Rl X.K H' σ δ (omD ω q (.lst ((pick sel).map .im))) := rl.omD n s hv (dpam (hid_more fun b h => List.mem_cons.mpr (ads_omD.mp h)) dv)
  exact k.nx _ _ _ H' (hk q) (stp_new s n) (rl2.set (x := .ad q) (v := .ref q) rfl)
/-- a < b < c as a test -/
theorem pt_chaind {op op' : CmpOp} {r r' : R2} {da db dc : PyData} {x y : Bool} (ho : OpR X (compareOp op) r) (ho' : OpR X (compareOp op') r') (hr : RD X.K r da db (.bool x)) (hr' : x = true → RD X.K r' db dc (.bool y)) (ha : PD X δ ω a da) (hb : PD X δ ω b db) (hc : x = true → PD X δ ω c dc)
    (h1 : lastMarks [op, op'] [b, c] = false := by with_unfolding_all rfl) : PTd X δ ω (.Compare a [op, op'] [b, c] pos) (x && y) := fun σ H rl Q q =>
  wt (pt_chain ho ho' pe_w pe_w pe_w h1) (ha σ H rl _ fun u H1 s1 d1 => hb σ H1 (rl.mono s1) _ fun v H2 s2 d2 =>
    hr _ u v H2 (there_mono rl.ro.there (s1.trans s2)) (dpm (hid_same s2) d1) d2 _ fun z H3 s3 d3 => by
      cases d3
      refine ⟨x, rfl, ?_⟩
      cases x with
      | true => exact iteT (hc rfl σ H3 (rl.mono ((s1.trans s2).trans s3)) _ fun t H4 s4 d4 => hr' rfl _ v t H4 (there_mono rl.ro.there (((s1.trans s2).trans s3).trans s4)) (dpm (hid_same (s3.trans s4)) d2) d4 _ fun z H5 s5 d5 => by
          cases d5
          exact ⟨y, rfl, q H5 ((((s1.trans s2).trans s3).trans s4).trans s5)⟩)
      | false => exact iteF ⟨false, rfl, q H3 ((s1.trans s2).trans s3)⟩)
end
end FP

namespace FP
open PySem PySem.Spec PyProof.Rows L2
/-! ### a def that makes lambdas, and hands back a truth -/
def spT (K : PySem.W.Frag) (T : List (Addr × Str)) (fr : List PyData → Bool → Prop) : Sp := fun vs H Q _ => ∃ ds b, DpAll K H vs ds ∧ fr ds b ∧ LamX.Tabs T H ∧ ∀ H', Stp T ⟨[], []⟩ ⟨[], []⟩ H H' → Q (.bl b) H'
structure DefT (P : Program) (w : World) (K : PySem.W.Frag) (mg : Str → Option Value) (base : Heap) (T : List (Addr × Str)) (k : Nat) (x : Str) (fr : List PyData → Bool → Prop) : Prop where
  ex : ∃ f fd ps, FnOk P w K mg base (L2N.CX P w) k f fd ps (spT K T fr) ∧ mg x = some (.ref f) ∧ PySem.W.keepIn K (.ref f) = true ∧ L2.Binds K fd ps []
def FinB (b : Bool) : Out → Prop
  | .rt (.im d) ω => d = .bool b ∧ ω = ⟨[], []⟩
  | _ => False
theorem def_okT {P : Program} {w : World} {K : PySem.W.Frag} {mg : Str → Option Value} {base : Heap} {x qual : Str} {params : Arguments} {body : List Stmt} {scope : Scope} {f : Addr} {fd : FuncData} {N ps : List Str} {k : Nat} {T : List (Addr × Str)} {fr : List PyData → Bool → Prop}
    (F : FunD K x qual params body scope [] [] f fd) (hm : mg x = some (.ref f)) (S : FnScope N ps scope) (hb : ∀ (kV doc pm : Value) (an : Option Addr) (cdv ct : Value) (us : List Value), us.length = ps.length → bindArgs (PySem.W.fnOf x qual params body scope .none kV doc pm an cdv ct) ⟨us, []⟩ = pure (ps.zip us))
    (len : ∀ ds b, fr ds b → ds.length = ps.length)
    (hbody : ∀ (cdv : Value) (A : Around) (outer : List Env) (s : Shared) (H : Hp) (E : XK) (ds : List PyData) (b : Bool), Value.ref (match K.lookup f with | some ⟨_, _, .func fd, _⟩ => (match fd.code with | .ref c => c | _ => 0) | _ => 0) = cdv → Room k (A.deeper (envOfC qual scope s.heap.objs.size f cdv)) → fr ds b →
      SD (cxOf (L2N.CX P w) P w K mg base N qual scope f cdv A outer s H E) (WOf E) T body (startD N ds) ⟨[], []⟩ (FinB b)) : DefT P w K mg base T (k + 1) x fr := by
  obtain ⟨oc, od, dV, kV, doc, pm, an, cdv, ct, osl, rfl, lk, hcd, hD, hK⟩ := F.ex
  have edV : dV = .none := by
    rcases hD with ⟨_, e⟩ | ⟨e, _⟩
    · exact e
    · exact absurd rfl e
  subst edV
  obtain ⟨cc, rfl⟩ := He.codeIn_ref hcd
  refine ⟨f, _, ps, fn_of lk hcd S (fun vs H Q E h => ?_) (fun A outer s H vs Q E hr h => ?_), hm, F.kp, F.bindsN hb⟩
  · obtain ⟨ds, b, h2, h3, _⟩ := h
    rw [dpa_len h2]
    exact len ds b h3
  · obtain ⟨ds, b, h2, h3, h4, h5⟩ := h
    refine ⟨_, pss_w, hbody (.ref cc) A outer s H E ds b (by rw [lk]) hr h3 _ _ _ (start_rl (vs := vs) (by rw [hid_nil]; exact h2) (fun _ z => nomatch z)) h4 ?_⟩
    refine ⟨fun _ _ _ _ z => False.elim z, fun r' ω' v H' z st l dv => ?_, fun _ _ _ _ z => False.elim z, fun _ _ _ _ z => False.elim z, fun _ _ _ _ z => False.elim z⟩
    cases r' with
    | im d =>
      obtain ⟨z1, z2⟩ : d = .bool b ∧ ω' = ⟨[], []⟩ := z
      subst z1
      subst z2
      cases dv
      exact h5 H' st
    | ad a => exact False.elim z
section
variable {X : Cx} {W : WX} {T : List (Addr × Str)} {δ : De} {ω : Om} {a b c e : Expr} {es : List Expr} {d : PyData} {ds : List PyData} {pos p : Pos} {k : Nat} {x : Str} {R : Out → Prop} {ss : List Stmt} {Z : PyData → Om → Prop} {fr : List PyData → Bool → Prop} {v : Bool}
theorem px_callT (G : DefT X.prog X.w X.K X.mg X.base T k x fr) (hr : Room k X.A) (hT : T ≠ []) (hps : ω.ps = []) (ha : PDs X δ ω (a :: es) ds) (hf : fr ds v) (hg : Gl X x := by rfl) (hdb : (x == ("__debug__" : Str)) = false := by decide)
    (he : starEach (a :: es) X.env = (false, eval a X.env) :: starEach es X.env := by rfl) (hpl : (backTo pos (starEach es X.env)).any (·.1) = false := by rfl) : PX X T δ ω (.Call (.Name x p) (a :: es) [] pos) (.bool v) := fun σ H rl t Q q => by
  obtain ⟨f, fd, ps, F, m, kp, bn⟩ := G.ex
  refine we (pe_call F hr hg m kp bn .nil passN pa_w hdb he hpl) (ha σ H rl _ fun vs H1 s1 d1 => ?_)
  show spT X.K T fr (vs ++ []) H1 Q E0
  rw [List.append_nil]
  have rl1 := rl.mono s1
  refine ⟨ds, v, dpam hid_sub d1, hf, t.ext s1, fun H' st => ?_⟩
  have eN : LamX.ExtN H1 H' := fun b o h n => st.keep b o h (fun z => nomatch z) (.inr n)
  exact q _ H' ((Stp.of s1).trans ⟨fun b o h _ pt => st.keep b o h (fun z => nomatch z) pt, fun a h => .inl h, rfl, st.tab⟩) (rl_ext (T := T) eN hps rl1) (.bl v)
theorem ZE.ex (h : ZE X T δ ω e Z) (q : ∀ d ω', Z d ω' → R (.rt (.im d) ω')) : EX X W T e δ ω R := fun σ H rl t Q k1 _ => h σ H rl t Q fun d ω' v H' z s l dv => k1 (.im d) ω' v H' (q d ω' z) s l dv
/-- all of a new list whose making writes -/
theorem ze_all (hc : X.calm = true) (hm : X.mg "all" = none) (ha : ZE X T δ ω a (fun da ω' => ∃ bs : List Bool, da = .list (bs.map .bool) ∧ Z (.bool (bs.all id)) ω')) (hg : Gl X "all" := by rfl)
    (he : starEach [a] X.env = (false, eval a X.env) :: starEach [] X.env := by rfl) : ZE X T δ ω (.Call (.Name "all" p) [a] [] pos) Z := fun σ H rl t Q k =>
  we (pe_callB (cr_all hc) hg hm (by decide +kernel) (pa_cons pe_w pa_nil he) (he := he)) (ha σ H rl t _ fun da ω' u H1 z s1 l1 d1 => by
    obtain ⟨bs, rfl, z⟩ := z
    cases d1 with
    | lst g1 g2 =>
      have ev := dpa_bl g2
      subst ev
      exact ⟨_, bs, rfl, hid_sub.seq g1, k _ ω' _ H1 z s1 l1 (.bl _)⟩)
end
/-! ### the law's end, where another def makes lambdas too -/
structure LamY (K : PySem.W.Frag) (mg : Str → Option Value) (base : Heap) (T : List (Addr × Str)) (y : Str) : Prop where
  ex : ∃ P, LamX.TabB base mg (He.codeOf K (y, none)) P ∧ (P, (y ++ ".<locals>.") ++ "<lambda>") ∈ T ∧ ∀ p ∈ T, p.1 = P → p.2 = (y ++ ".<locals>.") ++ "<lambda>"
theorem law_at2 {l : PySem.W.OpenLaw} {w : World} {K : PySem.W.Frag} {mg : Str → Option Value} {h : Heap} {fa : List He.Fa} {fn : List He.DefD} {ts : List He.Tab} {ex : PySem.W.Frag → Bool} {params : Arguments} {body : List Stmt} {scope : Scope} {f : Addr} {N : List Str} {k : Nat} {x y : Str}
    (KX : K.In h) (G : h.Ns mainGlobals mg) (hfa : mg "law" = some (.ref f)) (c : He.SaysX fa fn ts [("law", none), (y, none)] ex w h K) (hd : (⟨("law", none), "law", "law", params, body, scope, [], []⟩ : He.DefD) ∈ fn) (hg : He.Fa.glo "law" ∈ fa) (S : FnScope N [x] scope)
    (hne : (He.cT K ("law", none)).2 ≠ (He.cT K (y, none)).2)
    (hb : ∀ (kV doc pm : Value) (an : Option Addr) (cdv ct : Value) (us : List Value), us.length = [x].length → bindArgs (PySem.W.fnOf "law" "law" params body scope .none kV doc pm an cdv ct) ⟨us, []⟩ = pure ([x].zip us))
    (hbody : ∀ (base : Heap), K.In base → base.Ns mainGlobals mg → ∀ (T : List (Addr × Str)) (cdv : Value) (A : Around) (outer : List Env) (s : Shared) (H : Hp) (E : XK) (ns : List Int), T ≠ [] → LamT (cxOf (L2N.CX l.prog w) l.prog w K mg base N "law" scope f cdv A outer s H E) T → LamY K mg base T y →
      Room k (A.deeper (envOfC "law" scope s.heap.objs.size f cdv)) → ns.length ≤ 63 → (∀ z ∈ ns, Builtin.Int.intBits z ≤ 1048576) →
      SD (cxOf (L2N.CX l.prog w) l.prog w K mg base N "law" scope f cdv A outer s H E) (WOf E) T body (startD N [.list (ns.map .int)]) ⟨[], []⟩ FinT) :
    LamX.LawAtS l w K (L2N.CX l.prog w) (k + 1) 63 x mg f h := by
  have cd := c.t.d
  obtain ⟨fd, F⟩ := cd.defs hd
  have e := hfa.symm.trans (He.glo_ok KX G (cd.facts hg))
  cases e
  obtain ⟨oc, od, dV, kV, doc, pm, an, cdv, ct, osl, rfl, lk, hcd, hD, hK⟩ := F.ex
  have edV : dV = .none := by
    rcases hD with ⟨_, e⟩ | ⟨e, _⟩
    · exact e
    · exact absurd rfl e
  subst edV
  obtain ⟨cc, rfl⟩ := He.codeIn_ref hcd
  have ec : He.codeOf K ("law", none) = cc := He.codeOf_eq lk rfl
  have mem : (("law", none) : He.Defn) ∈ ([("law", none), (y, none)] : List He.Defn) := List.mem_cons_self
  have hbA := FunD.bindsA (ps := [x]) F hb
  refine ⟨_, [He.cT K ("law", none), He.cT K (y, none)], spL K [((He.cT K ("law", none)).2, (Str.ofString "law" ++ ".<locals>.") ++ "<lambda>"), ((He.cT K (y, none)).2, (y ++ ".<locals>.") ++ "<lambda>")], fun p hp => ?_, fun p hp => ?_, fun p hp => ?_, fun s u => hbA s [u] rfl, fun H a ns h1 h2 h3 h4 => ?_, fun base hB hN hTB => ?_⟩
  · rcases List.mem_cons.mp hp with rfl | hp
    · exact c.empty _ mem
    · rw [List.mem_singleton.mp hp]
      exact c.empty _ (List.mem_cons_of_mem _ (List.mem_singleton.mpr rfl))
  · rcases List.mem_cons.mp hp with rfl | hp
    · exact c.out _ mem
    · rw [List.mem_singleton.mp hp]
      exact c.out _ (List.mem_cons_of_mem _ (List.mem_singleton.mpr rfl))
  · rcases List.mem_cons.mp hp with rfl | hp
    · exact PySem.W.codeHd_of_K KX (c.hd _ mem)
    · rw [List.mem_singleton.mp hp]
      exact PySem.W.codeHd_of_K KX (c.hd _ (List.mem_cons_of_mem _ (List.mem_singleton.mpr rfl)))
  · refine ⟨a, ns, rfl, h4, h1, h2, fun p hp => ?_, fun _ => rfl⟩
    rcases List.mem_cons.mp hp with rfl | hp
    · exact LamX.TabS.nil (h3 _ List.mem_cons_self)
    · rw [List.mem_singleton.mp hp]
      exact LamX.TabS.nil (h3 _ (List.mem_cons_of_mem _ (List.mem_singleton.mpr rfl)))
  · refine law_ok lk hcd S fun A outer s H E ns hr h1 h2 => hbody base hB hN _ (.ref cc) A outer s H E ns (by simp) ⟨cc, (He.cT K ("law", none)).2, ?_, rfl, List.mem_cons_self, fun p hp hq => ?_⟩ ⟨(He.cT K (y, none)).2, hTB _ (List.mem_cons_of_mem _ (List.mem_singleton.mpr rfl)), List.mem_cons_of_mem _ (List.mem_singleton.mpr rfl), fun p hp hq => ?_⟩ hr h1 h2
    · have z := hTB _ (List.mem_cons_self (a := He.cT K ("law", none)))
      have e1 : (He.cT K ("law", none)).1 = cc := ec
      rw [← e1]
      exact z
    · rcases List.mem_cons.mp hp with rfl | hp
      · rfl
      · rw [List.mem_singleton.mp hp] at hq
        exact absurd hq.symm hne
    · rcases List.mem_cons.mp hp with rfl | hp
      · exact absurd hq hne
      · rw [List.mem_singleton.mp hp]
end FP

namespace FP
open PySem PySem.Spec PyProof.Rows L2 HotX L2H
/-! ### zip of a list or a tuple with a list or a tuple, of any lengths; the pairs may be kept -/
inductive Sk where
  | l
  | t
def SqS (K : PySem.W.Frag) (H : Hp) : Sk → Addr → List V → Prop
  | .l => SqL K H
  | .t => SqT K H
def IsS (h : Heap) : Sk → Addr → Array Value → Prop
  | .l => h.IsList
  | .t => h.IsTuple
def ItS (h : Heap) : Sk → Addr → Addr → Nat → Prop
  | .l => h.IsListIter
  | .t => h.IsTupleIter
abbrev itO : Sk → Addr → Obj
  | .l, a => { cls := .type "list_iterator", data := .fields #[.ref a, .int 0 0] }
  | .t, a => { cls := .type "tuple_iterator", data := .fields #[.ref a, .int 0 0] }
theorem itO_there (k : Sk) (a : Addr) : (itO k a).isFreed = false := by cases k <;> rfl
theorem IsS.at {k : Sk} {h h' : Heap} {a : Addr} {vs : Array Value} (q : IsS h k a vs) (e : ∀ o, h.get? a = some o → h'.get? a = some o) : IsS h' k a vs := by
  cases k with
  | l => exact let ⟨o, ho, r⟩ := q; ⟨o, e o ho, r⟩
  | t => exact let ⟨o, ho, r⟩ := q; ⟨o, e o ho, r⟩
theorem ItS.at {k : Sk} {h h' : Heap} {a b : Addr} {i : Nat} (q : ItS h k a b i) (e : ∀ o, h.get? a = some o → h'.get? a = some o) : ItS h' k a b i := by
  cases k with
  | l => exact let ⟨o, ho, r⟩ := q; ⟨o, e o ho, r⟩
  | t => exact let ⟨o, ho, r⟩ := q; ⟨o, e o ho, r⟩
theorem IsS.lt {k : Sk} {h : Heap} {a : Addr} {vs : Array Value} (q : IsS h k a vs) : a < h.objs.size := by
  cases k with
  | l => exact let ⟨o, ho, _⟩ := q; Heap.lt_size ho
  | t => exact let ⟨o, ho, _⟩ := q; Heap.lt_size ho
theorem ItS.ob {k : Sk} {h : Heap} {a b : Addr} {i : Nat} (q : ItS h k a b i) : ∃ o, h.get? a = some o ∧ ∀ v, o.data ≠ .cell v := by
  cases k with
  | l => exact let ⟨o, ho, _, d⟩ := q; ⟨o, ho, fun v z => by rw [d] at z; cases z⟩
  | t => exact let ⟨o, ho, _, d⟩ := q; ⟨o, ho, fun v z => by rw [d] at z; cases z⟩
theorem ItS.new {k : Sk} {h : Heap} {a b : Addr} (q : h.get? a = some (itO k b)) : ItS h k a b 0 := by
  cases k with
  | l => exact ⟨_, q, rfl, rfl⟩
  | t => exact ⟨_, q, rfl, rfl⟩
section
variable {prog : Program} {w : World} {A : Around} {E : Value → Shared → Prop} {s : Shared}
theorem iter_S {k : Sk} {a : Addr} {vs : Array Value} {Q : Value → Shared → Prop} (h : IsS s.heap k a vs) (q : Q (.ref s.heap.objs.size) { s with heap := s.heap.push (itO k a) }) : wpAny (model prog w) A (pyIter (.ref a)) Q E s := by
  cases k with
  | l => exact wpAny_pyIter_list (items := vs) h q
  | t => exact wpAny_pyIter_tuple (items := vs) h q
theorem draws_S {k : Sk} (hh : A.handled = none) (it a : Addr) (hne : a ≠ it) (vs : Array Value) : Draws prog w A it [it, a] vs.size (fun i v => vs[i]? = some v) (fun i h => ItS h k it a i ∧ IsS h k a vs) := by
  cases k with
  | l => exact Draws.list hh it a hne vs
  | t => exact Draws.tuple hh it a hne vs
/-- the five things that a zip of two is made of -/
structure ZpNew (k1 k2 : Sk) (a b : Addr) (h h' : Heap) : Prop where
  z : h'.get? (h.objs.size + 4) = some (zr .none false (h.objs.size + 2) (h.objs.size + 3))
  ti : IsPair h' (h.objs.size + 2) (.ref h.objs.size) (.ref (h.objs.size + 1))
  to : IsPair h' (h.objs.size + 3) .none .none
  w1 : ItS h' k1 h.objs.size a 0
  w2 : ItS h' k2 (h.objs.size + 1) b 0
  kp : ∀ c o, h.get? c = some o → h'.get? c = some o
abbrev tupO (x y : Value) : Obj := { cls := .type "tuple", data := .seq #[x, y] }
abbrev zp2 (k1 k2 : Sk) (a b : Addr) (h : Heap) : Heap := (h.push (itO k1 a)).push (itO k2 b)
abbrev zp4 (k1 k2 : Sk) (a b : Addr) (h : Heap) : Heap := ((zp2 k1 k2 a b h).push (tupO (.ref h.objs.size) (.ref (h.push (itO k1 a)).objs.size))).push (tupO .none .none)
abbrev zp5 (k1 k2 : Sk) (a b : Addr) (h : Heap) : Heap := (zp4 k1 k2 a b h).push (zr .none false (zp2 k1 k2 a b h).objs.size ((zp2 k1 k2 a b h).push (tupO (.ref h.objs.size) (.ref (h.push (itO k1 a)).objs.size))).objs.size)
theorem zp_is (k1 k2 : Sk) (a b : Addr) (h : Heap) : (zp4 k1 k2 a b h).objs.size = h.objs.size + 4 ∧ ZpNew k1 k2 a b h (zp5 k1 k2 a b h) := by
  have up : ∀ {h : Heap} {c : Addr} {o o' : Obj}, h.get? c = some o → (h.push o').get? c = some o := fun q => Heap.get?_push_of_some _ q
  have nw : ∀ (h : Heap) (o : Obj) (n : Nat), h.objs.size = n → o.isFreed = false → (h.push o).get? n = some o := fun h o n e f => by
    rw [← e]
    exact Heap.get?_push_size _ f
  have sz : ∀ (h : Heap) (o : Obj) (n : Nat), h.objs.size = n → (h.push o).objs.size = n + 1 := fun h o n e => by rw [Heap.size_push, e]
  have s1 := sz h (itO k1 a) _ rfl
  have s2 := sz _ (itO k2 b) _ s1
  have s3 := sz _ (tupO (.ref h.objs.size) (.ref (h.push (itO k1 a)).objs.size)) _ s2
  have s4 := sz _ (tupO .none .none) _ s3
  have g5 := nw _ (zr .none false (zp2 k1 k2 a b h).objs.size ((zp2 k1 k2 a b h).push (tupO (.ref h.objs.size) (.ref (h.push (itO k1 a)).objs.size))).objs.size) _ s4 rfl
  have g3 := nw _ (tupO (.ref h.objs.size) (.ref (h.push (itO k1 a)).objs.size)) _ s2 rfl
  have g1 := nw h (itO k1 a) _ rfl (itO_there k1 a)
  have g2 := nw _ (itO k2 b) _ s1 (itO_there k2 b)
  have g4 := nw _ (tupO .none .none) _ s3 rfl
  refine ⟨s4, ⟨?_, ?_, up g4, .new (up (up (up (up g1)))), .new (up (up (up g2))), fun c o q => up (up (up (up (up q))))⟩⟩
  · refine g5.trans (congrArg some ?_)
    rw [show (zp2 k1 k2 a b h).objs.size = _ from s2, s3]
  · have g6 := up (o' := zr .none false (zp2 k1 k2 a b h).objs.size ((zp2 k1 k2 a b h).push (tupO (.ref h.objs.size) (.ref (h.push (itO k1 a)).objs.size))).objs.size) (up (o' := tupO .none .none) g3)
    refine g6.trans (congrArg some ?_)
    rw [s1]
theorem zp_new (k1 k2 : Sk) (a b : Addr) (us vs : Array Value) : Meets (Builtin.«zip.__new__» ⟨[.type "zip", .ref a, .ref b], []⟩) fun _ R s => IsS s.heap k1 a us ∧ IsS s.heap k2 b vs ∧ R (.ok (.ret (.ref (zp4 k1 k2 a b s.heap).objs.size))) { s with heap := zp5 k1 k2 a b s.heap } :=
  .of_wp fun prog w A R s q => by
    obtain ⟨h, g, d, tk, os⟩ := s
    obtain ⟨q1, q2, r⟩ := q
    have e0 := sub_zip
    have q3 : IsS (h.push (itO k1 a)) k2 b vs := IsS.at q2 fun o e => Heap.get?_push_of_some _ e
    have t1 : ∀ {A' : Around} {E' : Value → Shared → Prop} {Q' : Value → Shared → Prop}, Q' (.ref h.objs.size) ⟨h.push (itO k1 a), g, d, tk, os⟩ → wpAny (model prog w) A' (pyIter (.ref a)) Q' E' ⟨h, g, d, tk, os⟩ := fun z => iter_S (s := ⟨h, g, d, tk, os⟩) q1 z
    have t2 : ∀ {A' : Around} {E' : Value → Shared → Prop} {Q' : Value → Shared → Prop}, Q' (.ref (h.push (itO k1 a)).objs.size) ⟨(h.push (itO k1 a)).push (itO k2 b), g, d, tk, os⟩ → wpAny (model prog w) A' (pyIter (.ref b)) Q' E' ⟨h.push (itO k1 a), g, d, tk, os⟩ := fun z => iter_S (s := ⟨h.push (itO k1 a), g, d, tk, os⟩) q3 z
    wp_walk using t1, t2
    exact ⟨_, rfl, r⟩
theorem zp_call {k1 k2 : Sk} {a b : Addr} {us vs : Array Value} {Q : Value → Shared → Prop} (q1 : IsS s.heap k1 a us) (q2 : IsS s.heap k2 b vs) (r : ∀ h', ZpNew k1 k2 a b s.heap h' → Q (.ref (s.heap.objs.size + 4)) { s with heap := h' }) :
    wpAny (model prog w) A (call (.type "zip") [.ref a, .ref b]) Q E s := by
  obtain ⟨e4, n⟩ := zp_is k1 k2 a b s.heap
  have r1 := r _ n
  rw [← e4] at r1
  exact callType_new F.called_zip (by decide) (F.typeCall_zip_2 _ _) (F.newCall_zip_2 _ _) (fun obj => F.args_object_init_3 obj _ _) F.entry_zip_new (zp_new k1 k2 a b us vs) ⟨q1, q2, ⟨_, by rw [e4]; exact n.z, rfl⟩, r1⟩
end
section
variable {prog : Program} {w : World} {A : Around} {E : Value → Shared → Prop} {s : Shared} {z TI TO i1 i2 : Addr} {fp1 fp2 : List Addr} {n1 n2 i : Nat} {P1 P2 : Nat → Value → Prop} {S1 S2 : Nat → Heap → Prop} {a b f0 : Value} {f : Bool}
/-- the second row is at its end, the first one is not -/
theorem zr_over2 {Q : PySem.Fin → Shared → Prop} (S : ZipSep2 z TI TO i1 i2 fp1 fp2) (D1 : Draws prog w A i1 fp1 n1 P1 S1) (D2 : Draws prog w A i2 fp2 n2 P2 S2) (m : Zm S1 S2 z TI TO i1 i2 s.heap i n2 f0 f a b s.heap) (h0 : Lent f0) (l1 : i < n1)
    (k : ∀ h' t' e, (∀ c o, c ∉ [z, TO, i1, i2] → s.heap.get? c = some o → h'.get? c = some o) → (∃ o, h'.get? e = some o ∧ o.cls = .type "StopIteration") → E (.ref e) { s with heap := h', toks := t' }) :
    wpAny (model prog w) A (Builtin.«zip.__next__» ⟨[.ref z], []⟩) Q E s := by
  obtain ⟨hp, g, d, tk0, os⟩ := s
  refine wpAny_bind (wpAny_of_eq (a := (.ref z, [])) rfl (wpAny_bind (wpAny_field m.rz rfl rfl (wpAny_bind (wpAny_field m.rz rfl rfl (wpAny_bind (wpAny_seqItems m.ri rfl (wpAny_bind (zr_free m.rz h0 fun t h1 f1 q1 b1 => ?_)))))))))
  have m1 := m.setz S D1 D2 b1 q1
  clear b1 q1 m
  cases t with
  | true =>
    refine wpAny_bind (wpAny_rule (wpAny_bind (wpAny_field m1.rz rfl rfl (wpAny_bind (wpAny_setField_rec m1.rz (by simp) fun h2 q2 b2 => wpAny_bind ?_)))))
    have m2 := m1.setz S D1 D2 b2 (f0' := .ellipsis) (f' := f1) q2
    simp only [List.zipIdx_cons, List.zipIdx_nil, List.forIn_cons, List.forIn_nil]
    refine wpAny_bind (wpAny_bind (wpAny_onRaise (wpAny_bind (D1.item i _ _ _ l1 m2.s1 fun x1 h3 t3 p1 e3 b3 => wpAny_pure ?_))))
    have m3 := m2.one S D2 b3 e3
    refine wpAny_bind (wpAny_seqItems m3.ro rfl (wpAny_bind (wpAny_updateSeq_pair m3.ro fun h4 q4 b4 => wpAny_bind (wpAny_letGo (wpAny_pure ?_)))))
    have m4 := m3.seto S D1 D2 b4 (a' := x1) (b' := b) q4
    refine wpAny_bind (wpAny_bind (wpAny_onRaise (wpAny_bind (D2.done _ _ _ m4.s2 fun h5 e b5 ⟨oe, he, ce⟩ => ?_))))
    have hz : h5.get? z = some _ := b5 _ _ S.zi2 m4.rz
    have ne : e ≠ z := fun q => by
      rw [q, hz] at he
      cases he
      simp at ce
    exact wpAny_setField_rec hz (by simp) fun h6 _ b6 => k h6 t3 e (fun c o hc q => (b6.2 c fun y => hc (by simp [y])).trans (b5 c o (fun y => hc (by simp [y])) (m4.kp c o hc q))) ⟨oe, (b6.2 _ ne).trans he, ce⟩
  | false =>
    refine wpAny_bind ?_
    rw [← Array.forIn_toList]
    simp only [List.forIn_cons, List.forIn_nil]
    refine wpAny_bind (wpAny_bind (wpAny_holding (wpAny_bind (D1.item i _ _ _ l1 m1.s1 fun x1 h3 t3 p1 e3 b3 => wpAny_pure (wpAny_pure ?_)))))
    have m3 := m1.one S D2 b3 e3
    exact wpAny_bind (wpAny_bind (wpAny_holding (wpAny_bind (D2.done _ _ _ m3.s2 fun h5 e b5 he => k h5 t3 e (fun c o hc q => b5 c o (fun y => hc (by simp [y])) (m3.kp c o hc q)) he))))
theorem zr_stop2 {Q : Option Value → Shared → Prop} (S : ZipSep2 z TI TO i1 i2 fp1 fp2) (D1 : Draws prog w A.in1 i1 fp1 n1 P1 S1) (D2 : Draws prog w A.in1 i2 fp2 n2 P2 S2) (m : Zm S1 S2 z TI TO i1 i2 s.heap i n2 f0 f a b s.heap) (h0 : Lent f0) (l1 : i < n1)
    (k : ∀ h' t', (∀ c o, c ∉ [z, TO, i1, i2] → s.heap.get? c = some o → h'.get? c = some o) → Q none { s with heap := h', toks := t' }) :
    wpAny (model prog w) A (pyNext (.ref z)) Q E s := by
  have ty : s.TypeIs (.ref z) "zip" := ⟨_, m.rz, rfl⟩
  unfold pyNext
  exact wpAny_bind (wpAny_attempt (wpAny_callSpecial?_slot ty F.slot_zip_next (wpAny_call_entry F.slot_zip_next ty F.entry_zip_next (zr_over2 S D1 D2 m h0 l1 fun h' t' x r ⟨o, ho, hc⟩ => wpAny_bind (wpAny_isInstance (T := "StopIteration") (b := true) ⟨o, ho, hc⟩ isSubtype_stop (wpAny_pure (k h' t' r)))) (F.args_zip_next_1 _))))
end
section
variable {prog : Program} {w : World} {A : Around} {E : Value → Shared → Prop} {s : Shared} {z TI TO : Addr} {f0 : Value} {f : Bool}
/-- the pair goes to any target: the zip has it no more, or still has it -/
theorem zr_let {tg : Expr} {T : Addr} {Q : Unit → Shared → Prop} (hz : s.heap.get? z = some (zr f0 f TI TO)) (h0 : Lent f0) (k : ∀ h' g0, Lent g0 → h'.get? z = some (zr g0 f TI TO) → Heap.SameBut z s.heap h' → Q () { s with heap := h' }) :
    wpAny (model prog w) A (letOwnedTupleGo tg (.ref z) (.ref T)) Q E s := by
  have stay : Q () s := k s.heap f0 h0 hz (.refl _ _)
  unfold letOwnedTupleGo
  cases tg <;> first
    | exact wpAny_pure stay
    | (refine wpAny_bind (wpAny_load hz ?_)
       dsimp only
       split
       · exact wpAny_bind (wpAny_rule (wpAny_setField_rec hz (by simp) fun h' e sb => k h' .none (.inl rfl) e sb))
       · exact wpAny_pure stay)
end
def ItZS (K : PySem.W.Frag) (k1 k2 : Sk) (a b : Addr) : It :=
  ⟨fun i H => ∃ xs ys : List V, SqS K H k1 a xs ∧ SqS K H k2 b ys ∧ i < xs.length ∧ i < ys.length,
    fun i H v H' => ∃ T x y, v = .ref T ∧ H T = none ∧ H' = upd H T (.tup [x, y]) ∧ (∀ xs, SqS K H k1 a xs → xs[i]? = some x) ∧ ∀ ys, SqS K H k2 b ys → ys[i]? = some y,
    fun i H => ∃ xs ys : List V, SqS K H k1 a xs ∧ SqS K H k2 b ys ∧ (xs.length = i ∨ i < xs.length ∧ ys.length = i)⟩
structure ZsSt (k1 k2 : Sk) (z TI TO i1 i2 a b : Addr) (i : Nat) (h : Heap) : Prop where
  zp : ∃ f0 f, Lent f0 ∧ h.get? z = some (zr f0 f TI TO)
  ti : IsPair h TI (.ref i1) (.ref i2)
  to : ∃ x y, IsPair h TO x y
  w1 : ItS h k1 i1 a i
  w2 : ItS h k2 i2 b i
section
variable {X : Cx} {pins : List (Addr × Obj)} {σ : L2.St} {H : Hp} {s : Shared} {k : Sk} {a : Addr} {xs ys : List V}
theorem inv_seqS (I : Inv X pins σ H s) (h : SqS X.K H k a xs) : ∃ us : List Value, Vals xs us ∧ IsS s.heap k a us.toArray := by
  cases k with
  | l =>
    obtain ⟨us, r, p, _⟩ := I.list h
    exact ⟨us, r, p.isList⟩
  | t =>
    obtain ⟨us, r, p, _⟩ := I.tuple h
    exact ⟨us, r, p⟩
theorem inv_oneS (I : Inv X pins σ H s) (h : SqS X.K H k a xs) (h' : SqS X.K H k a ys) : xs = ys := by
  cases k with
  | l => exact I.list_inj h h'
  | t => exact I.tuple_inj h h'
end
section
variable {P : Program} {w : World} {K : PySem.W.Frag} {tg : Expr} {k1 k2 : Sk} {z TI TO i1 i2 a b : Addr}
theorem ZsSt.obj {i : Nat} {h : Heap} (st : ZsSt k1 k2 z TI TO i1 i2 a b i h) {c : Addr} (hc : c ∈ [z, TI, TO, i1, i2]) : ∃ o, h.get? c = some o ∧ ∀ v, o.data ≠ .cell v := by
  obtain ⟨⟨f0, f, _, g2⟩, g3, ⟨x, y, g4⟩, g5, g6⟩ := st
  simp only [List.mem_cons, List.not_mem_nil, or_false] at hc
  rcases hc with rfl | rfl | rfl | rfl | rfl
  · exact ⟨_, g2, nofun⟩
  · exact ⟨_, g3, nofun⟩
  · exact ⟨_, g4, nofun⟩
  · exact g5.ob
  · exact g6.ob
theorem ZsSt.keep {i : Nat} {h h' : Heap} (st : ZsSt k1 k2 z TI TO i1 i2 a b i h) (k : ∀ c ∈ [z, TI, TO, i1, i2], ∀ o, h.get? c = some o → h'.get? c = some o) : ZsSt k1 k2 z TI TO i1 i2 a b i h' :=
  ⟨st.zp.imp fun _ q => q.imp fun _ q => ⟨q.1, k z (by simp) _ q.2⟩, k TI (by simp) _ st.ti, st.to.imp fun _ q => q.imp fun _ q => k TO (by simp) _ q, st.w1.at fun o q => k i1 (by simp) o q, st.w2.at fun o q => k i2 (by simp) o q⟩
theorem turn_zS (S : ZipSep2 z TI TO i1 i2 [i1, a] [i2, b]) (ha : a ≠ i1) (hb : b ≠ i2) : Turn P w K tg (ItZS K k1 k2 a b) [z, TI, TO, i1, i2] z (ZsSt k1 k2 z TI TO i1 i2 a b) where
  mem := by simp
  obj := fun i h st c hc => st.obj hc
  keep := fun i h h' st k => st.keep k
  item := by
    intro X hP hw hK hc i pins s σ H E I hf st hg
    subst hP hw hK
    obtain ⟨xs, ys, hqx, hqy, lx, ly⟩ := hg
    obtain ⟨us, rv, p⟩ := inv_seqS I hqx
    obtain ⟨us2, rv2, p2⟩ := inv_seqS I hqy
    obtain ⟨x, hx⟩ : ∃ x, xs[i]? = some x := ⟨_, List.getElem?_eq_getElem lx⟩
    obtain ⟨y, hy⟩ : ∃ y, ys[i]? = some y := ⟨_, List.getElem?_eq_getElem ly⟩
    obtain ⟨u, gu, ru⟩ := rv.get hx
    obtain ⟨u2, gu2, ru2⟩ := rv2.get hy
    have D1 := draws_S (k := k1) (prog := X.prog) (w := X.w) (A := X.A.in1) (I.ok.hd hc) i1 a ha us.toArray
    have D2 := draws_S (k := k2) (prog := X.prog) (w := X.w) (A := X.A.in1) (I.ok.hd hc) i2 b hb us2.toArray
    obtain ⟨f0, f, l0, hz⟩ := st.zp
    obtain ⟨x0, y0, ho⟩ := st.to
    have sizes : i < us.toArray.size ∧ i < us2.toArray.size := ⟨by simpa using (List.getElem?_eq_some_iff.mp gu).1, by simpa using (List.getElem?_eq_some_iff.mp gu2).1⟩
    refine zr_next S D1 D2 ⟨rfl, fun _ _ _ q => q, hz, st.ti, ho, ⟨st.w1, p⟩, ⟨st.w2, p2⟩⟩ l0 sizes.1 sizes.2 fun x1 x2 h0 tk g0 q1 q2 lg0 zf0 => ⟨_, rfl, ?_⟩
    obtain rfl : x1 = u := by simpa [gu] using q1.symm
    obtain rfl : x2 = u2 := by simpa [gu2] using q2.symm
    obtain ⟨fz0, ez0⟩ := zf0.rz
    refine zr_let (s := { s with heap := h0, toks := tk }) ez0 lg0 fun h1 g1 lg ez1 sb => ?_
    have zf := zf0.setz S D1 D2 (Heap.lt_size hz) sb ez1
    have I1 : Inv X pins σ (upd H s.heap.objs.size (.tup [x, y])) { s with heap := h1, toks := tk } :=
      I.turnedNew (ch := [z, TI, TO, i1, i2]) (fun c o hc q => zf.kp c o (fun r => hc (by simp only [List.mem_cons, List.not_mem_nil, or_false] at r ⊢; rcases r with r | r | r | r <;> simp [r])) q) hf (Nat.le_refl _) ⟨by show 2 ≤ sizeLine; decide, [x1, x2], .cons ru (.cons ru2 .nil), ⟨_, zf.new, rfl, _, rfl⟩⟩
    obtain ⟨fz, ez⟩ := zf.rz
    refine ⟨.ref s.heap.objs.size, _, I1, rfl, ⟨_, x, y, rfl, I.hok.fresh (Nat.le_refl _), rfl, fun l hl => by rw [inv_oneS I hl hqx]; exact hx, fun l hl => by rw [inv_oneS I hl hqy]; exact hy⟩, ⟨⟨g1, fz, lg, ez⟩, zf.ri, zf.ro, zf.s1.1, zf.s2.1⟩, fun c hcm => ?_⟩
    obtain ⟨_, q, _⟩ := st.obj hcm
    rw [upd_ne (Nat.ne_of_lt (Heap.lt_size q))]
    exact (hf c hcm).1
  done := by
    intro X hP hw hK hc i pins s σ H E I hf st hg
    subst hP hw hK
    obtain ⟨xs, ys, hqx, hqy, he⟩ := hg
    obtain ⟨us, rv, p⟩ := inv_seqS I hqx
    obtain ⟨us2, rv2, p2⟩ := inv_seqS I hqy
    have D1 := draws_S (k := k1) (prog := X.prog) (w := X.w) (A := X.A.in1) (I.ok.hd hc) i1 a ha us.toArray
    have D2 := draws_S (k := k2) (prog := X.prog) (w := X.w) (A := X.A.in1) (I.ok.hd hc) i2 b hb us2.toArray
    obtain ⟨f0, f, l0, hz⟩ := st.zp
    obtain ⟨x0, y0, ho⟩ := st.to
    have fin : ∀ h' t', (∀ c o, c ∉ [z, TO, i1, i2] → s.heap.get? c = some o → h'.get? c = some o) → Inv X pins σ H { s with heap := h', toks := t' } := fun h' t' r => I.turnedL (t' := t') (ch := [z, TI, TO, i1, i2]) (fun c o hc q => r c o (fun r => hc (by simp only [List.mem_cons, List.not_mem_nil, or_false] at r ⊢; rcases r with r | r | r | r <;> simp [r])) q) hf
    rcases he with lx | ⟨lx, ly⟩
    · have sz : i = us.toArray.size := by rw [List.size_toArray, ← rv.length, lx]
      have w1 := st.w1
      rw [sz] at w1
      exact zr_stop S D1 D2 ⟨rfl, fun _ _ _ q => q, hz, st.ti, ho, ⟨w1, p⟩, ⟨st.w2, p2⟩⟩ l0 fun h' r => ⟨rfl, fin h' _ r⟩
    · have sz : i = us2.toArray.size := by rw [List.size_toArray, ← rv2.length, ly]
      have l1 : i < us.toArray.size := by rw [List.size_toArray, ← rv.length]; exact lx
      have w2 := st.w2
      rw [sz] at w2
      exact zr_stop2 S D1 D2 ⟨rfl, fun _ _ _ q => q, hz, st.ti, ho, ⟨st.w1, p⟩, ⟨w2, p2⟩⟩ l0 l1 fun h' t' r => ⟨rfl, fin h' t' r⟩
  self := fun A i s Q E st h => let ⟨_, _, _, hz⟩ := st.zp; zr_iter hz h
end
def iZS (K : PySem.W.Frag) (k1 k2 : Sk) (ta : TA) : TI := fun σ H R => ta σ H fun vs H1 => ∃ a b xs ys, vs = [.ref a, .ref b] ∧ SqS K H1 k1 a xs ∧ SqS K H1 k2 b ys ∧ R (ItZS K k1 k2 a b) H1
theorem pi_zS {X : Cx} {k1 k2 : Sk} {e1 e2 tg : Expr} {ta : TA} {p2 zp : Pos} (hgz : Gl X "zip") (hmz : X.mg "zip" = none) (ha : PA X [e1, e2] ta)
    (hsz : starEach [e1, e2] X.env = (false, eval e1 X.env) :: starEach [e2] X.env := by rfl) (hpl : (backTo zp (starEach [e2] X.env)).any (·.1) = false := by rfl) :
    PI X tg (.Call (.Name "zip" p2) [e1, e2] [] zp) (iZS X.K k1 k2 ta) := by
  refine ⟨fun pins s σ H R I h => ?_⟩
  refine Call_ (ld_blt I hgz hmz PyProof.Rows.boot_zip (PyProof.Rows.callWith_type1 (thn (ha.run zp pins s σ H _ I h) fun us s1 ⟨vs, H1, I1, r1, q1⟩ => ?_) hsz hpl))
  obtain ⟨a, b, xs, ys, rfl, hqx, hqy, q⟩ := q1
  rcases r1 with _ | ⟨r, r1⟩
  rcases r1 with _ | ⟨r', r1⟩
  cases r1
  cases r
  cases r'
  obtain ⟨us, rv, p1⟩ := inv_seqS I1 hqx
  obtain ⟨us2, rv2, p2⟩ := inv_seqS I1 hqy
  have la := p1.lt
  have lb := p2.lt
  refine zp_call p1 p2 fun h1 n => zr_iter n.z ?_
  have I2 : Inv X pins σ H1 { s1 with heap := h1 } := I1.kept (t' := s1.toks) fun c o q => n.kp c o q
  have S : ZipSep2 (s1.heap.objs.size + 4) (s1.heap.objs.size + 2) (s1.heap.objs.size + 3) s1.heap.objs.size (s1.heap.objs.size + 1) [s1.heap.objs.size, a] [s1.heap.objs.size + 1, b] := zip_sep2 (fp1 := [a]) (fp2 := [b]) (fun c hc => by simpa using (show c = a by simpa using hc) ▸ la) (fun c hc => by simpa using (show c = b by simpa using hc) ▸ lb)
  exact ⟨s1.heap.objs.size + 4, [s1.heap.objs.size + 4, s1.heap.objs.size + 2, s1.heap.objs.size + 3, s1.heap.objs.size, s1.heap.objs.size + 1], _, _, H1, rfl, I2, turn_zS S (Nat.ne_of_lt la) (Nat.ne_of_lt (Nat.lt_succ_of_lt lb)), ⟨⟨.none, false, .inl rfl, n.z⟩, n.ti, ⟨_, _, n.to⟩, n.w1, n.w2⟩, fun c hc => I1.fpOk (five_le c hc) (I1.hok.fresh (five_le c hc)), q⟩
def seqD : Sk → List PyData → PyData
  | .l => .list
  | .t => .tuple
theorem dp_seqD {K : PySem.W.Frag} {H : Hp} {k : Sk} {v : V} {ds : List PyData} (h : Dp K H v (seqD k ds)) : ∃ a us, v = .ref a ∧ SqS K H k a us ∧ DpAll K H us ds := by
  cases k with
  | l =>
    cases h with
    | lst h1 h2 => exact ⟨_, _, rfl, h1, h2⟩
  | t =>
    cases h with
    | tup h1 h2 => exact ⟨_, _, rfl, h1, h2⟩
theorem sqs_ke {T : List (Addr × Str)} {K : PySem.W.Frag} {G H : Hp} {k : Sk} {a : Addr} {xs : List V} (e : Ke T G H) (h : SqS K G k a xs) : SqS K H k a xs := by
  cases k with
  | l => exact ke_sql e h
  | t => exact ke_sqt e h
theorem sqs_same {K : PySem.W.Frag} {G H : Hp} {k : Sk} {a : Addr} {xs : List V} (e : Same G H) (h : SqS K G k a xs) : SqS K H k a xs := sqs_ke (T := []) (ke_same e) h
/-- the pairs, as the walk makes them -/
def zipL : List PyData → List PyData → List (List PyData)
  | x :: xs, y :: ys => [x, y] :: zipL xs ys
  | _, _ => []
theorem zipL_get : ∀ {xs ys : List PyData} {i : Nat}, (zipL xs ys)[i]? = match xs[i]?, ys[i]? with | some x, some y => some [x, y] | _, _ => none
  | [], _, i => by simp [zipL]
  | _ :: _, [], i => by
    simp only [zipL, List.getElem?_nil]
    split <;> simp_all
  | x :: xs, y :: ys, 0 => rfl
  | x :: xs, y :: ys, i + 1 => by
    show (zipL xs ys)[i]? = _
    rw [zipL_get]
    rfl
theorem zipL_len : ∀ (xs ys : List PyData), (zipL xs ys).length = min xs.length ys.length
  | [], _ => by simp [zipL]
  | _ :: _, [] => by simp [zipL]
  | x :: xs, y :: ys => by
    show (zipL xs ys).length + 1 = _
    rw [zipL_len, List.length_cons, List.length_cons]
    omega
theorem zipL_two {xs ys : List PyData} {ds : List PyData} (h : ds ∈ zipL xs ys) : ds.length = 2 := by
  obtain ⟨i, hi⟩ := List.getElem?_of_mem h
  rw [zipL_get] at hi
  split at hi
  · cases hi
    rfl
  · cases hi
theorem zipL_at {xs ys ds : List PyData} {i : Nat} (h : (zipL xs ys)[i]? = some ds) : ∃ x y, xs[i]? = some x ∧ ys[i]? = some y ∧ ds = [x, y] := by
  rw [zipL_get] at h
  split at h
  · rename_i x y e1 e2
    cases h
    exact ⟨x, y, e1, e2, rfl⟩
  · cases h
section
variable {X : Cx} {W : WX} {T : List (Addr × Str)} {δ : De} {ω : Om} {a b c elt tg iter : Expr} {pos p zp : Pos} {R : Out → Prop} {ss : List Stmt} {xs ys : List PyData} {da db : PyData}
theorem wt_zip (k1 k2 : Sk) (hm : X.mg "zip" = none) (ha : PD X δ ω a da) (hb : PD X δ ω b db) (ea : da = seqD k1 xs) (eb : db = seqD k2 ys) (hg : Gl X "zip" := by rfl) (hs1 : starEach [a, b] X.env = (false, eval a X.env) :: starEach [b] X.env := by rfl) (hs2 : starEach [b] X.env = (false, eval b X.env) :: starEach [] X.env := by rfl) (hpl : (backTo zp (starEach [b] X.env)).any (·.1) = false := by rfl) :
    PWt X δ ω tg (.Call (.Name "zip" p) [a, b] [] zp) (zipL xs ys) := by
  subst ea
  subst eb
  refine ⟨_, pi_zS (k1 := k1) (k2 := k2) hg hm (pa_cons pe_w (pa_cons pe_w pa_nil hs2) hs1) hs1 hpl, fun σ H rl R k => ha σ H rl _ fun va H0 s0 da => hb σ H0 (rl.mono s0) _ fun vb H1 s1 db => ?_⟩
  obtain ⟨qa, us, rfl, a1, a2⟩ := dp_seqD (dpm (hid_same s1) da)
  obtain ⟨qb, vs, rfl, b1, b2⟩ := dp_seqD db
  have la := dpa_len a2
  have lb := dpa_len b2
  refine ⟨qa, qb, us, vs, rfl, sqs_same hid_sub a1, sqs_same hid_sub b1, k _ H1 (s0.trans s1) fun T H2 g => ?_⟩
  have qa2 := sqs_ke g a1
  have qb2 := sqs_ke g b1
  have ln := zipL_len xs ys
  refine ⟨fun i hi => ⟨us, vs, qa2, qb2, by omega, by omega⟩, ⟨us, vs, qa2, qb2, by omega⟩, fun i y H3 hi z => ?_⟩
  obtain ⟨T1, u, v, rfl, n1, rfl, f1, f2⟩ := z
  obtain ⟨x, ex, dx⟩ := dpa_get' a2 (f1 us qa2)
  obtain ⟨y, ey, dy⟩ := dpa_get' b2 (f2 vs qb2)
  exact ⟨T1, [u, v], [x, y], rfl, n1, rfl, by rw [zipL_get, ex, ey], .cons dx (.cons dy .nil)⟩
/-! ### [elt for x in a walk that makes tuples if c] -/
theorem lc_TIf {σ : L2.St} {H : Hp} {Q : VK} {wi : TI} {j : Nat} {te : TE} {tt : TT} {items : List (List PyData)} {sel : List (Option PyData)} (rl : Rl X.K H σ δ ω)
    (hw : ∀ R : It → Hp → Prop, (∀ J H', Same H H' → (∀ T, WkT X.K (Ke T (hid (ads ω) H')) (hid (ads ω) H') J items) → R J H') → wi σ H R) (hls : sel.length = items.length) (hz : items.length ≤ 10000)
    (ht : ∀ (i : Nat) (ds : List PyData) (s : Option PyData), items[i]? = some ds → sel[i]? = some s → ∀ D o σ' H', Rl X.K H' σ' (δ.set j (some (.im (.tuple ds)))) (omD ω D o) → ∀ Q : Bool → Hp → Prop, (∀ H2, Same H' H2 → Q s.isSome H2) → tt σ' H' Q)
    (he : ∀ (i : Nat) (ds : List PyData) (y : PyData), items[i]? = some ds → sel[i]? = some (some y) → ∀ D o σ' H', Rl X.K H' σ' (δ.set j (some (.im (.tuple ds)))) (omD ω D o) → ∀ Q : VK, (∀ v H2, Same H' H2 → Dp X.K (hid (ads (omD ω D o)) H2) v y → Q v H2) → te σ' H' Q)
    (k : ∀ p vs H', Same H H' → H p = none → H' p = some (.lst vs) → DpAll X.K (hid (p :: ads ω) H') vs (pick sel) → Q (.ref p) H') :
    tLc wi (gName j) tt te [j] σ H Q := by
  refine hw _ fun J H1 s1 w => fun D hD => ?_
  have rl1 := rl.mono s1
  refine ⟨fun i m H2 => m = items.length - i ∧ i ≤ items.length ∧ Same H1 H2 ∧ ∃ vs, H2 D = some (.lst vs) ∧ DpAll X.K (hid (ads (FP.omD ω D (.lst ((pick (sel.take i)).map .im)))) H2) vs (pick (sel.take i)), ⟨items.length, by omega, Nat.zero_le _, same_new hD, [], upd_same, ?_⟩, ?_⟩
  · rw [List.take_zero]
    exact .nil
  rintro i m H2 ⟨em, hi, s2, vs, hv, dv⟩
  obtain ⟨go, stop, yld⟩ := w [] H2 (ke_same ((hid_same s2).trans hid_sub))
  by_cases hlt : i < items.length
  · refine .inr ⟨go i hlt, fun H3 => Same H1 H3 ∧ ∃ vs, H3 D = some (.lst vs) ∧ DpAll X.K (hid (ads (FP.omD ω D (.lst ((pick (sel.take (i + 1))).map .im)))) H3) vs (pick (sel.take (i + 1))), fun H3 ⟨s3, h3⟩ => ⟨items.length - (i + 1), by omega, rfl, hlt, s3, h3⟩, fun x H3 hy => ?_⟩
    obtain ⟨T1, us, ds, rfl, n1, rfl, ed, du⟩ := yld i x H3 hlt hy
    have hys : i < sel.length := by omega
    have es : sel[i]? = some sel[i] := List.getElem?_eq_getElem hys
    show wipe (((wipe σ [j])).set j (some (.ref T1))) [j] = wipe σ [j] ∧ _
    have ew : wipe σ [j] = σ.set j none := rfl
    refine ⟨?_, ?_⟩
    · show (((σ.set j none).set j (some (.ref T1))).set j none) = σ.set j none
      rw [List.set_set, List.set_set]
    show tt (((wipe σ [j])).set j (some (.ref T1))) _ _
    rw [ew, List.set_set]
    have sn : Same H2 (upd H2 T1 (.tup us)) := same_new n1
    have rl3 := (rl1.omD hD s2 hv dv)
    have nT : T1 ∉ ads (omD ω D (.lst ((pick (sel.take i)).map .im))) := new_out rl3.ro.there n1
    have dT : Dp X.K (hid (ads (omD ω D (.lst ((pick (sel.take i)).map .im)))) (upd H2 T1 (.tup us))) (.ref T1) (.tuple ds) :=
      .tup (SqT.of (hid_of nT upd_same)) (dpam (hid_same sn) (dpam (hid_in hD s2) du))
    have rl4 := (rl3.mono sn).set (i := j) (x := .im (.tuple ds)) (v := .ref T1) dT
    generalize hsel : sel[i] = sv at es
    refine ht i _ sv ed es D _ _ _ rl4 _ fun H4 s4 => ?_
    have s24 : Same H2 H4 := sn.trans s4
    cases sv with
    | none =>
      refine iteF ⟨s2.trans s24, vs, s24 D _ hv, ?_⟩
      rw [pick_snoc es]
      show DpAll _ _ vs (pick (sel.take i) ++ [])
      rw [List.append_nil]
      exact dpam (hid_same s24) dv
    | some y2 =>
      refine iteT (he i _ y2 ed es D _ _ _ (rl4.mono s4) _ fun v H5 s5 d5 => ⟨vs, s5 D _ (s24 D _ hv), ?_, same_upd_new hD ((s2.trans s24).trans s5), vs ++ [v], upd_same, ?_⟩)
      · rw [dpa_len dv]
        refine Nat.lt_of_le_of_lt (pick_len _) ?_
        rw [List.length_take]
        refine Nat.lt_of_le_of_lt (Nat.min_le_left _ _) (Nat.lt_of_lt_of_le hlt (Nat.le_trans hz ?_))
        rw [sizeLine_eq]
        decide
      · rw [pick_snoc es]
        exact dpa_app (dpam hid_upd (dpam (hid_same (s24.trans s5)) dv)) (.cons (dpm hid_upd d5) .nil)
  · have e : i = items.length := by omega
    subst e
    refine .inl ⟨stop, ?_⟩
    rw [List.take_of_length_le (by omega)] at dv
    exact k D vs H2 (s1.trans s2) (s1.free hD) hv (dpam (hid_more fun b h => ads_omD.mpr (List.mem_cons.mp h)) dv)
/-- x = [elt for y in iter if c], a list of one's own -/
theorem sd_ownLcT (i : Nat) {x : Str} {py p' cpos : Pos} {scope : Scope} {y : Str} {j : Nat} {items : List (List PyData)} {sel : List (Option PyData)} (hc : X.calm = true) (hN : X.N.Nodup) (hw : PWt X δ ω (.Name y p') iter items) (hls : sel.length = items.length) (ok : BlkOk X.N X.env.scope scope [(y, j)])
    (hg : ∀ (s : Shared) (H : Hp) (C : Addr) (cl : List (Str × Addr)) (fp : List Addr), PG (X.blk s H scope (compEnvC scope cl C X.env) fp) (.Name y p') (gName j))
    (ht : ∀ (i : Nat) (ds : List PyData) (s : Option PyData), items[i]? = some ds → sel[i]? = some s → ∀ D o (sh : Shared) (H : Hp) (C : Addr) (cl : List (Str × Addr)) (fp : List Addr), PTd (X.blk sh H scope (compEnvC scope cl C X.env) fp) (δ.set j (some (.im (.tuple ds)))) (omD ω D o) c s.isSome)
    (he : ∀ (i : Nat) (ds : List PyData) (y : PyData), items[i]? = some ds → sel[i]? = some (some y) → ∀ D o (s : Shared) (H : Hp) (C : Addr) (cl : List (Str × Addr)) (fp : List Addr), PD (X.blk s H scope (compEnvC scope cl C X.env) fp) (δ.set j (some (.im (.tuple ds)))) (omD ω D o) elt y)
    (hz : items.length ≤ 10000) (hk : ∀ D, SD X W T ss (δ.set i (some (.ad D))) (omD ω D (.lst ((pick sel).map .im))) R) (hsw : swapsWith (.ListComp elt [⟨.Name y p', iter, [c], 0⟩] scope cpos) (some (.Name x py)) pos.line X.env = pure true := by rfl)
    (hy : X.N[i]? = some x := by rfl) (hyl : X.env.scope.names.lookup x = some .local := by rfl)
    (hs : ∀ x, foldedSetIterable iter X.env x = pure x := by intro _; rfl) :
    SD X W T (.Assign [.Name x py] (.ListComp elt [⟨.Name y p', iter, [c], 0⟩] scope cpos) pos :: ss) δ ω R := by
  obtain ⟨wi, h1, h2⟩ := hw
  refine sd_cons fun σ H D rl t k => ws (ps_setLc (i := i) (own := [(y, j)]) hc hN hy hyl hsw h1 ok hg (fun s H0 C cl fp => pts_blk s H0 C cl fp) (fun s H0 C cl fp => pe_blk s H0 C cl fp) hs) ?_
  refine lc_TIf rl (fun R kk => h2 σ H rl R kk) hls hz (fun i d sv hd hy D o σ' H' rl' Q' k' s H0 C cl fp => ht i d sv hd hy D o s H0 C cl fp σ' H' rl' Q' k') (fun i d y hd hy D o σ' H' rl' Q' k' s H0 C cl fp => he i d y hd hy D o s H0 C cl fp σ' H' rl' Q' k') (fun q vs H' s n hv dv => ?_)
  have rl2 : Rl X.K H' σ δ (omD ω q (.lst ((pick sel).map .im))) := rl.omD n s hv (dpam (hid_more fun b h => List.mem_cons.mpr (ads_omD.mp h)) dv)
  exact k.nx _ _ _ H' (hk q) (stp_new s n) (rl2.set (x := .ad q) (v := .ref q) rfl)
end
end FP

namespace FP
open PySem PySem.Spec PyProof.Rows L2 HotX L2H
/-! ### dicts of one's own, by any keys; walks over them -/
def keyD : Key → PyData
  | .inl n => .int n
  | .inr z => .str z
theorem dp_key {K : PySem.W.Frag} {H : Hp} {k : Key} {v : V} (h : Dp K H v (keyD k)) : v = kV k := by
  cases k with
  | inl n =>
    cases h
    rfl
  | inr z =>
    cases h
    rfl
theorem key_dp {K : PySem.W.Frag} {H : Hp} (k : Key) : Dp K H (kV k) (keyD k) := by
  cases k with
  | inl n => exact .int n
  | inr z => exact .str z
theorem own_split {os : Os} {j : Nat} {x : Addr × Od} (h : os[j]? = some x) : os = os.take j ++ x :: os.drop (j + 1) := by
  obtain ⟨hl, e⟩ := List.getElem?_eq_some_iff.mp h
  subst e
  have e2 : os.drop j = os[j] :: os.drop (j + 1) := List.drop_eq_getElem_cons hl
  rw [← e2, List.take_append_drop]
/-- one's own object at place j is locked -/
def lkO (ω : Om) (j : Nat) (a : Addr) : Om := ⟨a :: ω.ps, ω.os.take j ++ ω.os.drop (j + 1)⟩
theorem lk_mem {ω : Om} {j : Nat} {a : Addr} {o : Od} (h : ω.os[j]? = some (a, o)) {b : Addr} : b ∈ ads (lkO ω j a) ↔ b ∈ ads ω := by
  have e := own_split h
  show b ∈ (a :: ω.ps) ++ (ω.os.take j ++ ω.os.drop (j + 1)).map (·.1) ↔ b ∈ ω.ps ++ ω.os.map (·.1)
  rw [show ω.os.map (·.1) = (ω.os.take j ++ (a, o) :: ω.os.drop (j + 1)).map (·.1) from congrArg _ e]
  simp only [List.map_append, List.map_cons, List.mem_append, List.mem_cons]
  constructor
  · rintro ((h | h) | h | h)
    · exact .inr (.inr (.inl h))
    · exact .inl h
    · exact .inr (.inl h)
    · exact .inr (.inr (.inr h))
  · rintro (h | h | h | h)
    · exact .inl (.inr h)
    · exact .inr (.inl h)
    · exact .inl (.inl h)
    · exact .inr (.inr h)
section
variable {K : PySem.W.Frag} {H : Hp} {σ : L2.St} {δ : De} {ω : Om} {j : Nat} {a : Addr} {o : Od} {u : HO}
theorem lk_hid (h : ω.os[j]? = some (a, o)) : hid (ads (lkO ω j a)) (upd H a u) = hid (ads ω) H := by
  funext b
  unfold hid
  by_cases hb : b ∈ ads ω
  · rw [if_pos hb, if_pos ((lk_mem h).mpr hb)]
  · rw [if_neg hb, if_neg (fun z => hb ((lk_mem h).mp z))]
    exact upd_ne fun e => hb (by rw [e]; exact List.mem_append_right _ (List.mem_map.mpr ⟨_, List.mem_of_getElem? h, rfl⟩))
theorem lk_part (h : ω.os[j]? = some (a, o)) {p : Addr × Od} (hp : p ∈ (lkO ω j a).os) : p ∈ ω.os := by
  rw [own_split h]
  rcases List.mem_append.mp (show p ∈ ω.os.take j ++ ω.os.drop (j + 1) from hp) with q | q
  · exact List.mem_append_left _ q
  · exact List.mem_append_right _ (List.mem_cons_of_mem _ q)
theorem lk_nodup (nd : (ω.os.map (·.1)).Nodup) (h : ω.os[j]? = some (a, o)) : ((lkO ω j a).os.map (·.1)).Nodup ∧ ∀ p ∈ (lkO ω j a).os, p.1 ≠ a := by
  rw [own_split h, List.map_append, List.map_cons] at nd
  have n2 := List.nodup_append.mp nd
  have n3 := List.nodup_cons.mp n2.2.1
  refine ⟨?_, fun p hp => ?_⟩
  · show ((ω.os.take j ++ ω.os.drop (j + 1)).map (·.1)).Nodup
    rw [List.map_append]
    exact List.nodup_append.mpr ⟨n2.1, n3.2, fun x hx y hy => n2.2.2 x hx y (List.mem_cons_of_mem _ hy)⟩
  · rcases List.mem_append.mp (show p ∈ ω.os.take j ++ ω.os.drop (j + 1) from hp) with q | q
    · exact n2.2.2 p.1 (List.mem_map.mpr ⟨_, q, rfl⟩) a List.mem_cons_self
    · exact fun e => n3.1 (by rw [← e]; exact List.mem_map.mpr ⟨_, q, rfl⟩)
theorem rl_lock (rl : Rl K H σ δ ω) (h : ω.os[j]? = some (a, o)) : Rl K (upd H a u) σ δ (lkO ω j a) := by
  have hh := lk_hid (H := H) (u := u) h
  obtain ⟨nd, ne⟩ := lk_nodup rl.ro.nd h
  refine ⟨rl.len, fun i r hi => ?_, fun b o2 hb => ?_, nd, fun b hb => ?_⟩
  · obtain ⟨v, h1, h2⟩ := rl.sl i r hi
    rw [hh]
    exact ⟨v, h1, h2⟩
  · rw [hh]
    exact odv_keep (fun w => w) (fun x _ e => by rw [upd_ne (ne _ hb)]; exact e) (rl.ro.ob b o2 (lk_part h hb))
  · rcases List.mem_cons.mp hb with q | q
    · rw [q, upd_same]
      simp
    · by_cases c : b = a
      · rw [c, upd_same]
        simp
      · rw [upd_ne c]
        exact rl.ro.th b q
end
section
variable {X : Cx} {W : WX} {T : List (Addr × Str)} {δ : De} {ω : Om} {b c e o iter elt kx vx tg : Expr} {es : List Expr} {d : PyData} {ds : List PyData} {r : Sd} {pos p p1 sp apos cpos : Pos} {R : Out → Prop} {ss : List Stmt} {a : Addr} {kvs : List (Key × Sd)} {k : Key}
theorem ps1_dgetK (hx : PS1 X δ ω o (.ad a)) (hm : (a, Od.dct kvs) ∈ ω.os) (hb : PD X δ ω b (keyD k)) (hk : valS kvs k = some r) (hu : X.A.units + 1 < cLine) (hs : NoSl b := by exact fun _ _ => rfl) : PS1 X δ ω (.Subscript o b pos) r := fun σ H rl Q q =>
  we (pe_dget hu pe_w pe_w hs) (hx σ H rl _ fun v H1 s1 d1 => hb σ H1 (rl.mono s1) _ fun y H2 s2 d2 => by
    have d2 := dp_key d2
    subst d2
    have d1 : v = .ref a := d1
    subst d1
    obtain ⟨vs, g1, g2⟩ := (rl.mono (s1.trans s2)).ro.ob a _ hm
    obtain ⟨u, h1, h2⟩ := kvp_get g2 hk
    exact ⟨a, u, rfl, by rw [← h1]; exact DGet.k (k := k) g1, q u H2 (s1.trans s2) h2⟩)
/-- o[b] = e, whatever o is -/
theorem sd_dputE {pos' : Pos} (he : EX X W T e δ ω (Val1 (fun r ω1 => ∃ j kvs k, PS1 X δ ω1 o (.ad a) ∧ ω1.os[j]? = some (a, .dct kvs) ∧ kvs.length < 1000 ∧ PD X δ ω1 b (keyD k) ∧ SD X W T ss δ (putO ω1 j (a, .dct (putS kvs k r))) R) R)) (hu : X.A.units + 1 < cLine)
    (hs : swapsWith e (some (.Subscript o b pos')) pos.line X.env = pure false := by rfl) : SD X W T (.Assign [.Subscript o b pos'] e pos :: ss) δ ω R :=
  sd_cons fun σ H D rl t kt => ws (ps_dput hu pe_w pe_w pe_w hs) (he σ H rl t _ (fun r ω1 v H1 z1 st l dv => by
    obtain ⟨j, kvs, k, hx, ho, hz, hb, z1⟩ := z1
    refine hx σ H1 l _ fun u H2 s2 d2 => ?_
    have d2 : u = .ref a := d2
    subst d2
    refine hb σ H2 (l.mono s2) _ fun y H3 s3 d3 => ?_
    have d3 := dp_key d3
    subst d3
    have l2 := l.mono (s2.trans s3)
    obtain ⟨vs, g1, g2⟩ := l2.ro.ob a _ (at_mem ho)
    have lv : vs.length = kvs.length := paired_len g2
    refine ⟨a, _, rfl, DPut.k (k := k) g1 (by rw [lv]; exact small1000 (by omega)), ?_⟩
    have am : a ∈ ads ω1 := List.mem_append_right _ (List.mem_map.mpr ⟨_, at_mem ho, rfl⟩)
    have hh : Same (hid (ads ω1) H3) (hid (ads ω1) (upd H3 a (.dK (putK vs k v)))) := fun bb o h => by
      obtain ⟨n, e⟩ := hid_out h
      exact hid_of n (by rw [upd_ne (fun q => n (by rw [q]; exact am))]; exact e)
    obtain ⟨st2, l3⟩ := own_at (T := T) (o' := .dct (putS kvs k r)) (H' := upd H3 a (.dK (putK vs k v))) l2 ho g1 (fun _ q => by cases q) (fun _ _ q => by unfold LamX.CodeO at q; cases q) (fun bb o nb h => by rw [upd_ne nb]; exact h) ⟨_, upd_same, kvp_put (sdv_mono ((hid_same (s2.trans s3)).trans hh) dv) (kvp_mono hh g2)⟩
    exact kt.nx δ _ σ _ z1 ((st.trans (.of (s2.trans s3))).trans st2) l3) (fun C ω' σ' H' z q l => kt.ex C ω' σ' H' z q l))
theorem pd_lenK (hm : X.mg "len" = none) (ha : PS1 X δ ω o (.ad a)) (hc : (a, Od.dct kvs) ∈ ω.os) (hg : Gl X "len" := by rfl) (hs : starEach [o] X.env = (false, eval o X.env) :: starEach [] X.env := by rfl) : PD X δ ω (.Call (.Name "len" p) [o] [] pos) (.int kvs.length) := fun σ H rl Q q =>
  we (pe_callB call_lenD hg hm PySem.boot_len (pa_cons pe_w pa_nil hs) (he := hs)) (ha σ H rl _ fun x H1 s1 d1 => by
    have d1 : x = .ref a := d1
    subst d1
    obtain ⟨vs, g1, g2⟩ := (rl.mono s1).ro.ob a _ hc
    refine ⟨_, vs, rfl, g1, ?_⟩
    rw [paired_len g2]
    exact q _ H1 s1 (.int _))
def hasK (kvs : List (Key × Sd)) (k : Key) : Bool := kvs.any fun kv => decide (kv.1 = k)
theorem kvp_has {K : PySem.W.Frag} {H : Hp} {kvs : List (Key × Sd)} {vs : List (Key × V)} (h : KvP K H kvs vs) (k : Key) : (valV vs k).isSome = hasK kvs k := by
  rw [← valV_any, ← kvp_any h]
  rfl
/-- b in o -/
theorem pd_inK (hb : PD X δ ω b (keyD k)) (ho : PS1 X δ ω o (.ad a)) (hc : (a, Od.dct kvs) ∈ ω.os) (hu : X.A.units + 1 < cLine) (hm : behindInMarks .In o = false := by rfl) : PD X δ ω (.Compare b [.In] [o] pos) (.bool (hasK kvs k)) := fun σ H rl Q q =>
  we (L2.pe_cmp (pc_din hu pe_w pe_w) hm) (hb σ H rl _ fun y H1 s1 d1 => ho σ H1 (rl.mono s1) _ fun x H2 s2 d2 => by
    have d1 := dp_key d1
    subst d1
    have d2 : x = .ref a := d2
    subst d2
    obtain ⟨vs, g1, g2⟩ := (rl.mono (s1.trans s2)).ro.ob a _ hc
    refine ⟨a, _, rfl, DGet.k (k := k) g1, ?_⟩
    rw [kvp_has g2]
    exact q _ H2 (s1.trans s2) (.bl _))
def delS (kvs : List (Key × Sd)) (k : Key) : List (Key × Sd) := kvs.filter fun kv => decide (kv.1 ≠ k)
theorem kvp_del {K : PySem.W.Frag} {H : Hp} {k : Key} : ∀ {kvs : List (Key × Sd)} {vs : List (Key × V)}, KvP K H kvs vs → KvP K H (delS kvs k) (dropK vs k)
  | _, _, .nil => .nil
  | (k1, r1) :: kvs, (k2, v2) :: vs, .cons h1 h2 => by
    obtain ⟨e, h1⟩ := h1
    simp only at e
    subst e
    have ih := kvp_del (k := k) h2
    unfold delS dropK at ih ⊢
    rw [List.filter_cons, List.filter_cons]
    by_cases c : k1 = k
    · rw [if_neg (by simp [c]), if_neg (by simp [c])]
      exact ih
    · rw [if_pos (by simp [c]), if_pos (by simp [c])]
      exact .cons ⟨rfl, h1⟩ ih
/-- del o[b] -/
theorem sd_ddel {j : Nat} (ho : PS1 X δ ω o (.ad a)) (hj : ω.os[j]? = some (a, .dct kvs)) (hb : PD X δ ω b (keyD k)) (hk : hasK kvs k = true) (h : SD X W T ss δ (putO ω j (a, .dct (delS kvs k))) R) : SD X W T (.Delete [.Subscript o b sp] pos :: ss) δ ω R :=
  sd_cons fun σ H D rl t kt => ws (ps_ddel pe_w pe_w) (ho σ H rl _ fun x H1 s1 d1 => hb σ H1 (rl.mono s1) _ fun y H2 s2 d2 => by
    have d2 := dp_key d2
    subst d2
    have d1 : x = .ref a := d1
    subst d1
    have l2 := rl.mono (s1.trans s2)
    obtain ⟨vs, g1, g2⟩ := l2.ro.ob a _ (at_mem hj)
    refine ⟨a, vs, k, rfl, g1, rfl, by rw [kvp_has g2]; exact hk, ?_⟩
    have am : a ∈ ads ω := List.mem_append_right _ (List.mem_map.mpr ⟨_, at_mem hj, rfl⟩)
    have hh : Same (hid (ads ω) H2) (hid (ads ω) (upd H2 a (.dK (dropK vs k)))) := fun bb o h => by
      obtain ⟨n, e⟩ := hid_out h
      exact hid_of n (by rw [upd_ne (fun q => n (by rw [q]; exact am))]; exact e)
    obtain ⟨st2, l3⟩ := own_at (T := T) (o' := .dct (delS kvs k)) (H' := upd H2 a (.dK (dropK vs k))) l2 hj g1 (fun _ q => by cases q) (fun _ _ q => by unfold LamX.CodeO at q; cases q) (fun bb o nb h => by rw [upd_ne nb]; exact h) ⟨_, upd_same, kvp_mono hh (kvp_del g2)⟩
    exact kt.nx δ _ σ _ h ((Stp.of (s1.trans s2)).trans st2) l3)
/-- [elt for y in o if c], o a dict of one's own -/
theorem pn_lcK {scope : Scope} {y : Str} {j i : Nat} {sel : List (Option PyData)} (hc : X.calm = true) (hN : X.N.Nodup) (ho : PS1 X δ (lkO ω i a) iter (.ad a)) (hm : ω.os[i]? = some (a, .dct kvs)) (hl : sel.length = kvs.length) (ok : BlkOk X.N X.env.scope scope [(y, j)])
    (hg : ∀ (s : Shared) (H : Hp) (C : Addr) (cl : List (Str × Addr)) (fp : List Addr), PG (X.blk s H scope (compEnvC scope cl C X.env) fp) tg (gName j))
    (ht : ∀ (n : Nat) (k : Key) (s : Option PyData), (kvs.map (·.1))[n]? = some k → sel[n]? = some s → ∀ D od (sh : Shared) (H : Hp) (C : Addr) (cl : List (Str × Addr)) (fp : List Addr), PTd (X.blk sh H scope (compEnvC scope cl C X.env) fp) (δ.set j (some (.im (keyD k)))) (omD (lkO ω i a) D od) c s.isSome)
    (he : ∀ (n : Nat) (k : Key) (z : PyData), (kvs.map (·.1))[n]? = some k → sel[n]? = some (some z) → ∀ D od (s : Shared) (H : Hp) (C : Addr) (cl : List (Str × Addr)) (fp : List Addr), PD (X.blk s H scope (compEnvC scope cl C X.env) fp) (δ.set j (some (.im (keyD k)))) (omD (lkO ω i a) D od) elt z)
    (hz : kvs.length ≤ 10000) (hs : ∀ x, foldedSetIterable iter X.env x = pure x := by intro _; rfl) : PN X δ ω (.ListComp elt [⟨tg, iter, [c], 0⟩] scope pos) (pick sel) := fun σ H rl Q q => by
  obtain ⟨vs, g1, g2⟩ := rl.ro.ob a _ (at_mem hm)
  have lv : vs.length = kvs.length := paired_len g2
  have ek := kvp_keys g2
  refine we (pe_lock (pe_lc (own := [(y, j)]) hc hN (pi_keys pe_w) ok hg (fun s H0 C cl fp => pts_blk s H0 C cl fp) (fun s H0 C cl fp => pe_blk s H0 C cl fp) hs)) ⟨a, .dK vs, g1, True.intro, fun od => ?_⟩
  have rl1 : Rl X.K (upd H a (.frz od (.dK vs))) σ δ (lkO ω i a) := rl_lock rl hm
  refine lc_dataIf (items := (kvs.map (·.1)).map keyD) (sel := sel) rl1 (fun R kk => ho σ _ rl1 _ fun v H2 s2 d2 => ?_) (by rw [List.length_map, List.length_map]; exact hl) (by rw [List.length_map, List.length_map]; exact hz)
    (fun n d sv hd hy D o σ' H' rl' Q' k' s H0 C cl fp => ?_) (fun n d z hd hy D o σ' H' rl' Q' k' s H0 C cl fp => ?_) (fun pp us H' s n hv dv => ?_)
  · have d2 : v = .ref a := d2
    subst d2
    refine ⟨a, od, rfl, .inl ⟨vs, s2 a _ upd_same, kk _ H2 s2 fun H3 s3 => ?_⟩⟩
    have at3 : H3 a = some (.frz od (.dK vs)) := s3 a _ (s2 a _ upd_same)
    refine ⟨fun n hn => ⟨at3, by rw [List.length_map, List.length_map] at hn; omega⟩, ⟨at3, by rw [List.length_map, List.length_map]; omega⟩, fun n x H4 hn hy => ?_⟩
    obtain ⟨e4, k, w, h1, h2⟩ := hy
    refine ⟨e4, keyD k, ?_, by rw [h2]; exact key_dp k⟩
    rw [← ek, List.getElem?_map, List.getElem?_map, h1]
    rfl
  · rw [List.getElem?_map] at hd
    cases ek2 : (kvs.map (·.1))[n]? with
    | none => rw [ek2] at hd; cases hd
    | some k =>
      rw [ek2] at hd
      cases hd
      exact ht n k sv ek2 hy D o s H0 C cl fp σ' H' rl' Q' k'
  · rw [List.getElem?_map] at hd
    cases ek2 : (kvs.map (·.1))[n]? with
    | none => rw [ek2] at hd; cases hd
    | some k =>
      rw [ek2] at hd
      cases hd
      exact he n k z ek2 hy D o s H0 C cl fp σ' H' rl' Q' k'
  · have np : pp ≠ a := fun e => by
      rw [e, upd_same] at n
      cases n
    have am : a ∈ ads ω := List.mem_append_right _ (List.mem_map.mpr ⟨_, List.mem_of_getElem? hm, rfl⟩)
    refine ⟨s a _ upd_same, q pp us (upd H' a (.dK vs)) (fun bb u hb => ?_) (by rw [upd_ne np] at n; exact n) (by rw [upd_ne np]; exact hv) (dpam (fun bb u hb => ?_) dv)⟩
    · by_cases cb : bb = a
      · rw [cb, upd_same]
        rw [cb, g1] at hb
        exact hb
      · rw [upd_ne cb]
        exact s bb u (by rw [upd_ne cb]; exact hb)
    · obtain ⟨nb, eb⟩ := hid_out hb
      have nb2 : bb ∉ pp :: ads ω := fun w => by
        rcases List.mem_cons.mp w with w | w
        · exact nb (by rw [w]; exact List.mem_cons_self)
        · exact nb (List.mem_cons_of_mem _ ((lk_mem hm).mpr w))
      exact hid_of nb2 (by rw [upd_ne (fun w => nb2 (by rw [w]; exact List.mem_cons_of_mem _ am))]; exact eb)
/-! ### {k: v for k, v in o.items() if c} -/
abbrev imK (l : List (Key × PyData)) : List (Key × Sd) := l.map fun q => (q.1, .im q.2)
theorem kvp_im {K : PySem.W.Frag} {H : Hp} : ∀ {l : List (Key × PyData)} {vs : List (Key × V)} {n : Nat} {k : Key} {w : V}, KvP K H (imK l) vs → vs[n]? = some (k, w) → ∃ d, l[n]? = some (k, d) ∧ Dp K H w d
  | [], _, n, k, w, h1, h => by
    cases h1
    simp at h
  | (k1, d1) :: l, (k2, v2) :: vs, 0, k, w, .cons h1 _, h => by
    obtain ⟨e, h1⟩ := h1
    simp only at e
    subst e
    cases h
    exact ⟨d1, rfl, h1⟩
  | (k1, d1) :: l, (k2, v2) :: vs, n + 1, k, w, .cons _ h2, h => kvp_im (n := n) h2 h
theorem putK_none {vs : List (Key × V)} {k : Key} {v : V} (h : k ∉ vs.map (·.1)) : putK vs k v = vs ++ [(k, v)] := by
  unfold putK
  rw [if_neg]
  intro z
  obtain ⟨q, hq, e⟩ := List.any_eq_true.mp z
  exact h (List.mem_map.mpr ⟨q, hq, of_decide_eq_true e⟩)
theorem rl_new {K : PySem.W.Frag} {G H : Hp} {σ : L2.St} {δ : De} {ω : Om} {D : Addr} {o : Od} (rl : Rl K G σ δ ω) (hD : G D = none) (e : Same G H) (hv : OdV K (hid (ads (omD ω D o)) H) H D o) : Rl K H σ δ (omD ω D o) := by
  refine ⟨rl.len, fun i r h => ?_, fun b o2 h => ?_, ?_, there_mono rl.ro.th e⟩
  · obtain ⟨v, h1, h2⟩ := rl.sl i r h
    exact ⟨v, h1, sdv_mono (hid_in hD e) h2⟩
  · rcases List.mem_cons.mp h with q | q
    · cases q
      exact hv
    · exact odv_mono (hid_in hD e) e (rl.ro.ob b o2 q)
  · show (D :: ω.os.map (·.1)).Nodup
    exact List.nodup_cons.mpr ⟨fun w => new_out rl.ro.there hD (List.mem_append_right _ w), rl.ro.nd⟩
theorem ex_dcK {scope : Scope} {n1 n2 : Str} {j1 j2 i : Nat} {ets : List Expr} {kk : Nat} {tp : Pos} {l : List (Key × PyData)} (f : Key × PyData → Bool) (hc : X.calm = true) (hN : X.N.Nodup) (ho : PS1 X δ (lkO ω i a) o (.ad a)) (hm : ω.os[i]? = some (a, .dct (imK l))) (nd : (l.map (·.1)).Nodup) (hz : l.length ≤ 1000)
    (ok : BlkOk X.N X.env.scope scope [(n1, j1), (n2, j2)]) (hg : ∀ (s : Shared) (H : Hp) (C : Addr) (cl : List (Str × Addr)) (fp : List Addr), PG (X.blk s H scope (compEnvC scope cl C X.env) fp) (.Tuple ets kk tp) (gTup X.K 2 (gAll [j1, j2])))
    (ht : ∀ q ∈ l, ∀ D od (s : Shared) (H : Hp) (C : Addr) (cl : List (Str × Addr)) (fp : List Addr), PTd (X.blk s H scope (compEnvC scope cl C X.env) fp) (((wipeD δ [j1, j2]).set j1 (some (.im (keyD q.1)))).set j2 (some (.im q.2))) (omD (lkO ω i a) D od) c (f q))
    (hkx : ∀ q ∈ l, ∀ D od (s : Shared) (H : Hp) (C : Addr) (cl : List (Str × Addr)) (fp : List Addr), PD (X.blk s H scope (compEnvC scope cl C X.env) fp) (((wipeD δ [j1, j2]).set j1 (some (.im (keyD q.1)))).set j2 (some (.im q.2))) (omD (lkO ω i a) D od) kx (keyD q.1))
    (hvx : ∀ q ∈ l, ∀ D od (s : Shared) (H : Hp) (C : Addr) (cl : List (Str × Addr)) (fp : List Addr), PD (X.blk s H scope (compEnvC scope cl C X.env) fp) (((wipeD δ [j1, j2]).set j1 (some (.im (keyD q.1)))).set j2 (some (.im q.2))) (omD (lkO ω i a) D od) vx q.2)
    (hR : ∀ D, R (.rt (.ad D) (omD ω D (.dct (imK (l.filter f))))))
    (hbase : attributeBase o "items" X.env (eval o X.env) = eval o X.env := by rfl) (hline : (apos.endLine == cpos.line) = true := by rfl) (hs : ∀ x, foldedSetIterable (.Call (.Attribute o "items" apos) [] [] cpos) X.env x = pure x := by intro _; rfl) :
    EX X W T (.DictComp kx vx [⟨.Tuple ets kk tp, .Call (.Attribute o "items" apos) [] [] cpos, [c], 0⟩] scope pos) δ ω R := fun σ H rl t Q q _ => by
  obtain ⟨vs, g1, g2⟩ := rl.ro.ob a _ (at_mem hm)
  have lv : vs.length = l.length := by
    have := paired_len g2
    rw [List.length_map] at this
    exact this
  refine we (pe_lock (pe_dc (own := [(n1, j1), (n2, j2)]) hc hN (pi_items pe_w hbase hline) ok hg (fun s H0 C cl fp => pts_blk s H0 C cl fp) (fun s H0 C cl fp => pe_blk s H0 C cl fp) (fun s H0 C cl fp => pe_blk s H0 C cl fp) hs)) ⟨a, .dK vs, g1, True.intro, fun od => ?_⟩
  have rl1 : Rl X.K (upd H a (.frz od (.dK vs))) σ δ (lkO ω i a) := rl_lock rl hm
  have am : a ∈ ads ω := List.mem_append_right _ (List.mem_map.mpr ⟨_, List.mem_of_getElem? hm, rfl⟩)
  refine ho σ _ rl1 _ fun v H1 s1 d1 => ?_
  have d1 : v = .ref a := d1
  subst d1
  have at1 : H1 a = some (.frz od (.dK vs)) := s1 a _ upd_same
  refine ⟨a, od, vs, rfl, at1, fun D hD => ?_⟩
  have nDa : D ≠ a := fun e => by
    rw [e, at1] at hD
    cases hD
  have rl2 := rl1.mono s1
  have vis : Same (hid (ads ω) H) (hid (ads (lkO ω i a)) H1) := by
    rw [← lk_hid (H := H) (u := .frz od (.dK vs)) hm]
    exact hid_same s1
  refine ⟨fun n m H2 => m = l.length - n ∧ n ≤ l.length ∧ Same H1 H2 ∧ ∃ us, H2 D = some (.dK us) ∧ KvP X.K (hid (ads (omD (lkO ω i a) D (.dct (imK ((l.take n).filter f))))) H2) (imK ((l.take n).filter f)) us, ⟨l.length, by omega, Nat.zero_le _, same_new hD, [], upd_same, .nil⟩, ?_⟩
  rintro n m H2 ⟨em, hn, s2, us, hv, dv⟩
  have at2 : H2 a = some (.frz od (.dK vs)) := s2 a _ at1
  by_cases hlt : n < l.length
  · refine .inr ⟨⟨at2, by omega⟩, fun H3 => Same H1 H3 ∧ ∃ us, H3 D = some (.dK us) ∧ KvP X.K (hid (ads (omD (lkO ω i a) D (.dct (imK ((l.take (n + 1)).filter f))))) H3) (imK ((l.take (n + 1)).filter f)) us, fun H3 ⟨s3, h3⟩ => ⟨l.length - (n + 1), by omega, rfl, hlt, s3, h3⟩, fun x H3 hy => ?_⟩
    obtain ⟨T1, k1, w1, h1, rfl, nT, rfl⟩ := hy
    obtain ⟨d, ed, dd⟩ := kvp_im g2 h1
    have dq : (k1, d) ∈ l := List.mem_of_getElem? ed
    have sn : Same H2 (upd H2 T1 (.tup [kV k1, w1])) := same_new nT
    have rl3 : Rl X.K H2 σ δ (omD (lkO ω i a) D (.dct (imK ((l.take n).filter f)))) := rl_new rl2 hD s2 ⟨us, hv, dv⟩
    have rl4 := rl_wipe (rl3.mono sn) [j1, j2]
    have up : Same (hid (ads ω) H) (hid (ads (omD (lkO ω i a) D (.dct (imK ((l.take n).filter f))))) (upd H2 T1 (.tup [kV k1, w1]))) := (vis.trans (hid_in hD s2)).trans (hid_same sn)
    have rl5 := (rl4.set (i := j1) (x := .im (keyD k1)) (v := kV k1) (key_dp k1)).set (i := j2) (x := .im d) (v := w1) (dpm up dd)
    refine ⟨T1, [kV k1, w1], rfl, SqT.of upd_same, rfl, ?_⟩
    refine ⟨kV k1, _, rfl, ?_⟩
    refine ⟨w1, [], rfl, ?_⟩
    refine ⟨rfl, ?_, ?_⟩
    · rw [wipe_mem (by simp), wipe_mem (by simp), wipe_wipe (fun v h => h)]
    · intro s H0 C cl fp
      refine ht (k1, d) dq D _ s H0 C cl fp _ _ rl5 _ fun H4 s4 => ?_
      have et : l.take (n + 1) = l.take n ++ [(k1, d)] := by rw [List.take_add_one, ed]; rfl
      cases hf : f (k1, d) with
      | false =>
        refine iteF ⟨s2.trans (sn.trans s4), us, s4 D _ (sn D _ hv), ?_⟩
        have ef : (l.take (n + 1)).filter f = (l.take n).filter f := by
          rw [et, List.filter_append]
          simp [hf]
        rw [ef]
        exact kvp_mono (hid_same (sn.trans s4)) dv
      | true =>
        refine iteT fun s H0 C cl fp => hkx (k1, d) dq D _ s H0 C cl fp _ _ (rl5.mono s4) _ fun y H5 s5 d5 s' H0' C' cl' fp' => hvx (k1, d) dq D _ s' H0' C' cl' fp' _ _ (rl5.mono (s4.trans s5)) _ fun z H6 s6 d6 => ?_
        have d5 := dp_key d5
        subst d5
        have s26 : Same H2 H6 := sn.trans ((s4.trans s5).trans s6)
        have lus : us.length ≤ 1000 := by
          have := paired_len dv
          rw [this, List.length_map]
          refine Nat.le_trans (List.length_filter_le _ _) ?_
          rw [List.length_take]
          omega
        refine ⟨us, k1, rfl, s26 D _ hv, small1000 (by omega), same_upd_new hD (s2.trans s26), _, upd_same, ?_⟩
        have ef : (l.take (n + 1)).filter f = (l.take n).filter f ++ [(k1, d)] := by
          rw [et, List.filter_append]
          simp [hf]
        have nk : k1 ∉ us.map (·.1) := fun w => by
          rw [kvp_keys dv, List.map_map] at w
          obtain ⟨q, hq, e⟩ := List.mem_map.mp w
          have hq2 := (List.mem_filter.mp hq).1
          obtain ⟨b, hb⟩ := List.getElem?_of_mem hq2
          rw [List.getElem?_take] at hb
          split at hb
          · rename_i lb
            have e3 : (l.map (·.1))[b]? = some k1 := by
              rw [List.getElem?_map, hb]
              exact congrArg some e
            have e4 : (l.map (·.1))[n]? = some k1 := by rw [List.getElem?_map, ed]; rfl
            obtain ⟨l3, e3⟩ := List.getElem?_eq_some_iff.mp e3
            obtain ⟨l4, e4⟩ := List.getElem?_eq_some_iff.mp e4
            exact List.pairwise_iff_getElem.mp nd b n l3 l4 lb (e3.trans e4.symm)
          · cases hb
        rw [putK_none nk, ef]
        show KvP _ _ (((l.take n).filter f ++ [(k1, d)]).map _) _
        rw [List.map_append]
        exact paired_snoc ⟨rfl, dpm hid_upd d6⟩ (kvp_mono hid_upd (kvp_mono (hid_same s26) dv))
  · have e : n = l.length := by omega
    subst e
    rw [List.take_length] at dv
    refine .inl ⟨⟨at2, by omega⟩, at2, ?_⟩
    have sH : Same H (upd H2 a (.dK vs)) := fun bb u hb => by
      by_cases cb : bb = a
      · rw [cb, upd_same]
        rw [cb, g1] at hb
        exact hb
      · rw [upd_ne cb]
        exact s2 bb u (s1 bb u (by rw [upd_ne cb]; exact hb))
    have nH : H D = none := by
      cases e : H D with
      | none => rfl
      | some u =>
        have := s1 D u (by rw [upd_ne nDa]; exact e)
        rw [hD] at this
        cases this
    have hh : Same (hid (ads (omD (lkO ω i a) D (.dct (imK (l.filter f))))) H2) (hid (ads (omD ω D (.dct (imK (l.filter f))))) (upd H2 a (.dK vs))) := fun bb u hb => by
      obtain ⟨nb, eb⟩ := hid_out hb
      have nb2 : bb ∉ ads (omD ω D (.dct (imK (l.filter f)))) := fun w => nb (by
        rcases ads_omD.mp w with w | w
        · exact ads_omD.mpr (.inl w)
        · exact ads_omD.mpr (.inr ((lk_mem hm).mpr w)))
      exact hid_of nb2 (by rw [upd_ne (fun w => nb2 (by rw [w]; exact ads_omD.mpr (.inr am)))]; exact eb)
    have rl6 : Rl X.K (upd H2 a (.dK vs)) σ δ (omD ω D (.dct (imK (l.filter f)))) := rl_new rl nH sH ⟨us, by rw [upd_ne nDa]; exact hv, kvp_mono hh dv⟩
    exact q _ _ _ _ (hR D) (stp_new sH nH) rl6 rfl
/-! ### a dict is made, with an int as a key -/
variable {trs : List (TE × TE)} {Z : List (Key × Sd) → Om → Prop} {n : Int}
theorem dx_int {ke : Expr} (hk : PD X δ ω ke (.int n)) (he : PD X δ ω e d) (hr : DX X T δ ω trs (fun kvs ω' => Z ((.inl n, .im d) :: kvs) ω')) : DX X T δ ω ((wpe X ke, wpe X e) :: trs) Z := fun σ H rl t Q q =>
  hk σ H rl _ fun y H0 s0 d0 => by
    cases d0
    exact he σ H0 (rl.mono s0) _ fun v H1 s1 d1 => hr σ H1 (rl.mono (s0.trans s1)) (t.ext (s0.trans s1)) _ fun kvs ω' vs H2 zz st l pr => q _ ω' ((.inl n, v) :: vs) H2 zz ((Stp.of (s0.trans s1)).trans st) l (.cons ⟨rfl, stp_sd (X := X) (r := .im d) st d1⟩ pr)
end
end FP

namespace FP
open PySem PySem.Spec PyProof.Rows L2 HotX L2H
section
variable {X : Cx} {W : WX} {T : List (Addr × Str)} {δ : De} {ω : Om} {a b c e : Expr} {es : List Expr} {d da : PyData} {ds : List PyData} {r : Sd} {pos p : Pos} {R : Out → Prop} {ss : List Stmt}
/-- the least and the greatest of a list of ints -/
theorem pd_minL {ns : List Int} {m : Int} (hc : X.calm = true) (hm : X.mg "min" = none) (ha : PL X δ ω a (ns.map .int)) (h1 : m ∈ ns) (h2 : ∀ y ∈ ns, m ≤ y) (hg : Gl X "min" := by rfl) (he : starEach [a] X.env = (false, eval a X.env) :: starEach [] X.env := by rfl) : PD X δ ω (.Call (.Name "min" p) [a] [] pos) (.int m) := fun σ H rl Q k =>
  we (pe_callB (cr_min hc) hg hm (by decide +kernel) (pa_cons pe_w pa_nil he) (he := he)) (ha σ H rl _ fun q vs H1 s1 g1 d1 => by
    have ev := dpa_int d1
    subst ev
    refine ⟨q, ns, rfl, g1, List.length_pos_of_mem h1, fun x hx hl => ?_⟩
    have : x = m := Int.le_antisymm (hl m h1) (h2 x hx)
    subst this
    exact k _ H1 s1 (.int _))
theorem pd_maxL {ns : List Int} {m : Int} (hc : X.calm = true) (hm : X.mg "max" = none) (ha : PL X δ ω a (ns.map .int)) (h1 : m ∈ ns) (h2 : ∀ y ∈ ns, y ≤ m) (hg : Gl X "max" := by rfl) (he : starEach [a] X.env = (false, eval a X.env) :: starEach [] X.env := by rfl) : PD X δ ω (.Call (.Name "max" p) [a] [] pos) (.int m) := fun σ H rl Q k =>
  we (pe_callB (cr_max hc) hg hm (by decide +kernel) (pa_cons pe_w pa_nil he) (he := he)) (ha σ H rl _ fun q vs H1 s1 g1 d1 => by
    have ev := dpa_int d1
    subst ev
    refine ⟨q, ns, rfl, g1, List.length_pos_of_mem h1, fun x hx hl => ?_⟩
    have : x = m := Int.le_antisymm (h2 x hx) (hl m h1)
    subst this
    exact k _ H1 s1 (.int _))
theorem pt_inK {o : Expr} {z : Addr} {kvs : List (Key × Sd)} {k : Key} (hb : PD X δ ω b (keyD k)) (ho : PS1 X δ ω o (.ad z)) (hc : (z, Od.dct kvs) ∈ ω.os) (hu : X.A.units + 1 < cLine) (hm : behindInMarks .In o = false := by rfl) : PTd X δ ω (.Compare b [.In] [o] pos) (hasK kvs k) := fun σ H rl Q q =>
  wt (L2.pt_cmp (pc_din hu pe_w pe_w) hm) (hb σ H rl _ fun y H1 s1 d1 => ho σ H1 (rl.mono s1) _ fun x H2 s2 d2 => by
    have d1 := dp_key d1
    subst d1
    have d2 : x = .ref z := d2
    subst d2
    obtain ⟨vs, g1, g2⟩ := (rl.mono (s1.trans s2)).ro.ob z _ hc
    refine ⟨z, _, rfl, DGet.k (k := k) g1, _, rfl, ?_⟩
    rw [kvp_has g2]
    exact q H2 (s1.trans s2))
/-- a in b, b a list that is read -/
theorem pd_inL (h1 : SeqAt.shaped da = true) (h2 : SeqAt.shaped (.list ds) = true) (hu : X.A.units + 65 < cLine) (ha : PD X δ ω a da) (hb : PL X δ ω b ds) (hm : behindInMarks .In b = false := by rfl) : PD X δ ω (.Compare a [.In] [b] pos) (.bool (ds.any fun z => PyData.eqv z da)) := fun σ H rl Q k =>
  we (pe_cmpR (op_inD hu) pe_w pe_w hm) (ha σ H rl _ fun x H1 s1 d1 => hb σ H1 (rl.mono s1) _ fun q vs H2 s2 g2 d2 =>
    ⟨da, ds, dpm hid_sub (dpm (hid_same s2) d1), .lst g2 (dpam hid_sub d2), h1, h2, k _ H2 (s1.trans s2) (.bl _)⟩)
theorem pt_inL (h1 : SeqAt.shaped da = true) (h2 : SeqAt.shaped (.list ds) = true) (hu : X.A.units + 65 < cLine) (ha : PD X δ ω a da) (hb : PL X δ ω b ds) (hm : behindInMarks .In b = false := by rfl) : PTd X δ ω (.Compare a [.In] [b] pos) (ds.any fun z => PyData.eqv z da) := fun σ H rl Q k =>
  wt (pt_cmpR (op_inD hu) pe_w pe_w hm) (ha σ H rl _ fun x H1 s1 d1 => hb σ H1 (rl.mono s1) _ fun q vs H2 s2 g2 d2 =>
    ⟨da, ds, dpm hid_sub (dpm (hid_same s2) d1), .lst g2 (dpam hid_sub d2), h1, h2, _, rfl, k H2 (s1.trans s2)⟩)
end
end FP

namespace FP
open PySem PySem.Spec PyProof.Rows L2 HotX L2H
/-! ### the greatest key of a dict of one's own -/
theorem kv_key {kvs : List (Key × V)} {vs : List (Key × Value)} (r : KV kvs vs) {i : Nat} {k : Key} {x : Value} (h : vs[i]? = some (k, x)) : (kvs.map (·.1))[i]? = some k := by
  unfold KV at r
  induction r generalizing i with
  | nil => simp at h
  | cons h1 _ ih =>
    cases i with
    | zero =>
      cases h
      exact congrArg some h1.1
    | succ i => exact ih h
theorem cr_maxK {X : Cx} (hc : X.calm = true) : CallR X (.builtin "max") (fun xs H Q => ∃ (a : Addr) (kvs : List (Key × V)) (ns : List Int), xs = [.ref a] ∧ H a = some (.dK kvs) ∧ kvs.map (·.1) = ns.map Sum.inl ∧ 0 < ns.length ∧ ∀ m, m ∈ ns → (∀ y ∈ ns, y ≤ m) → Q (.int m) H) := by
  intro pins s σ H xs us Q I rx q
  obtain ⟨a, kvs, ns, rfl, ha, ek, hne, q⟩ := q
  rw [Vals.ref1 rx]
  obtain ⟨od, I1⟩ := I.lock ha True.intro
  obtain ⟨hs, hgd, hx, es, ep, vs, hdt, hsz, kv, hm⟩ := I1.frzK upd_same
  have hl : kvs.length = vs.length := Paired.length kv
  have ln : kvs.length = ns.length := by
    have := congrArg List.length ek
    rw [List.length_map, List.length_map] at this
    exact this
  have val : ∀ i v, (∃ k x, vs[i]? = some (k, x) ∧ (mixKind X.prog X.w).is k v = true) → ∃ t, v = .int (ns.getD i 0) t := fun i v ⟨k, x, h1, h2⟩ => by
    have e := kv_key kv h1
    rw [ek, List.getElem?_map] at e
    cases en : ns[i]? with
    | none => rw [en] at e; cases e
    | some n =>
      rw [en] at e
      cases e
      have r : RelV (kV (.inl n)) v := relV_key (show keyIs (.inl n) v = true from h2)
      obtain ⟨t, rfl⟩ := r
      exact ⟨t, by rw [List.getD_eq_getElem?_getD, en]; rfl⟩
  have la : a < s.heap.objs.size := Heap.lt_size hgd
  refine call_max_walk (iter_keys hs hgd hx hdt ?_)
  refine ⟨s.heap.objs.size, [s.heap.objs.size, a], [s.heap.objs.size], vs.length, _, _, _, rfl, Walks.dictKeys (knd := mixKind X.prog X.w) (show X.A.in1.handled = none from I.ok.hd hc) _ a (Nat.ne_of_lt la) vs ep, ⟨⟨_, Heap.get?_push_size _ rfl, rfl, ?_⟩, hm.push _⟩, fun b hb => ?_, by omega, CmpOf.ints_gt (fun i => ns.getD i 0) val, fun v h' tk hv hk => ?_⟩
  · rw [hsz, hl]
    rfl
  · show b < (s.heap.push _).objs.size
    rw [Heap.size_push]
    rcases List.mem_cons.mp hb with e | e
    · rw [e]
      exact Nat.lt_succ_self _
    · rw [List.mem_singleton.mp e]
      exact Nat.lt_succ_of_lt la
  · obtain ⟨t, rfl⟩ := val _ _ hv
    obtain ⟨m1, m2⟩ := argBest_gt (fun i => ns.getD i 0) (vs.length - 1)
    have kept : ∀ b o, s.heap.get? b = some o → h'.get? b = some o := fun b o e => hk b o (fun z => by
      rw [List.mem_singleton.mp z] at e
      exact absurd (Heap.lt_size e) (Nat.lt_irrefl _)) (Heap.get?_push_of_some _ e)
    refine ⟨.int _, H, I.kept (t' := tk) kept, ⟨t, rfl⟩, q _ (PySem.getD_mem (by omega)) fun y hy => ?_⟩
    obtain ⟨i, hi, e⟩ := List.mem_iff_getElem.mp hy
    have z := m2 i (by omega)
    have e3 : ns.getD i 0 = y := by
      rw [List.getD_eq_getElem?_getD, List.getElem?_eq_getElem hi, ← e]
      rfl
    rw [← e3]
    exact z
section
variable {X : Cx} {δ : De} {ω : Om} {o : Expr} {pos p : Pos} {a : Addr} {kvs : List (Key × Sd)}
theorem pd_maxK {ns : List Int} {m : Int} (hc : X.calm = true) (hm : X.mg "max" = none) (ho : PS1 X δ ω o (.ad a)) (hk : (a, Od.dct kvs) ∈ ω.os) (ek : kvs.map (·.1) = ns.map Sum.inl) (h1 : m ∈ ns) (h2 : ∀ y ∈ ns, y ≤ m) (hg : Gl X "max" := by rfl) (he : starEach [o] X.env = (false, eval o X.env) :: starEach [] X.env := by rfl) :
    PD X δ ω (.Call (.Name "max" p) [o] [] pos) (.int m) := fun σ H rl Q q =>
  we (pe_callB (cr_maxK hc) hg hm (by decide +kernel) (pa_cons pe_w pa_nil he) (he := he)) (ho σ H rl _ fun v H1 s1 d1 => by
    have d1 : v = .ref a := d1
    subst d1
    obtain ⟨vs, g1, g2⟩ := (rl.mono s1).ro.ob a _ hk
    refine ⟨a, vs, ns, rfl, g1, by rw [kvp_keys g2]; exact ek, List.length_pos_of_mem h1, fun x hx hl => ?_⟩
    have : x = m := Int.le_antisymm (h2 x hx) (hl m h1)
    subst this
    exact q _ H1 s1 (.int _))
theorem pt_notinK {X : Cx} {δ : De} {ω : Om} {b o : Expr} {pos : Pos} {z : Addr} {kvs : List (Key × Sd)} {k : Key} (hb : PD X δ ω b (keyD k)) (ho : PS1 X δ ω o (.ad z)) (hc : (z, Od.dct kvs) ∈ ω.os) (hu : X.A.units + 1 < cLine) (hm : behindInMarks .NotIn o = false := by rfl) : PTd X δ ω (.Compare b [.NotIn] [o] pos) (!hasK kvs k) := fun σ H rl Q q =>
  wt (L2.pt_cmp (pc_dnotin hu pe_w pe_w) hm) (hb σ H rl _ fun y H1 s1 d1 => ho σ H1 (rl.mono s1) _ fun x H2 s2 d2 => by
    have d1 := dp_key d1
    subst d1
    have d2 : x = .ref z := d2
    subst d2
    obtain ⟨vs, g1, g2⟩ := (rl.mono (s1.trans s2)).ro.ob z _ hc
    refine ⟨z, _, rfl, DGet.k (k := k) g1, _, rfl, ?_⟩
    rw [kvp_has g2]
    exact q H2 (s1.trans s2))
end
end FP

namespace FP
open PySem PySem.Spec PyProof.Rows L2 HotX L2H
/-- is None, of what isn't -/
theorem rd_isN {K : PySem.W.Frag} {da : PyData} (hd : da ≠ .none) : RD K (fun x y H Q => y = .non ∧ Q (.bl (decide (x = .non))) H) da .none (.bool false) := fun ps x y H _ hx hy Q q => by
  cases hy
  refine ⟨rfl, ?_⟩
  have e : decide (x = .non) = false := decide_eq_false fun z => by
    subst z
    cases hx
    exact hd rfl
  rw [e]
  exact q _ H (Same.refl H) (.bl _)
section
variable {X : Cx} {W : WX} {T : List (Addr × Str)} {δ : De} {ω : Om} {a b e : Expr} {es r : List Expr} {d da db : PyData} {ds : List PyData} {pos p : Pos}
/-- a not in b, b a list that is read -/
theorem pt_notinL (h1 : SeqAt.shaped da = true) (h2 : SeqAt.shaped (.list ds) = true) (hu : X.A.units + 65 < cLine) (ha : PD X δ ω a da) (hb : PL X δ ω b ds) (hm : behindInMarks .NotIn b = false := by rfl) : PTd X δ ω (.Compare a [.NotIn] [b] pos) (!ds.any fun z => PyData.eqv z da) := fun σ H rl Q k =>
  wt (pt_cmpR (op_notInD hu) pe_w pe_w hm) (ha σ H rl _ fun x H1 s1 d1 => hb σ H1 (rl.mono s1) _ fun q vs H2 s2 g2 d2 =>
    ⟨da, ds, dpm hid_sub (dpm (hid_same s2) d1), .lst g2 (dpam hid_sub d2), h1, h2, _, rfl, k H2 (s1.trans s2)⟩)
/-- what is made stands in a row of values -/
theorem ax_ex {Z : List Sd → Om → Prop} (h : EX X (fun _ _ _ _ => False) T e δ ω (Val1 (fun r ω' => AX X T δ ω' es (fun rs ω'' => Z (r :: rs) ω'')) (fun _ => False))) (hs : starEach (e :: es) X.env = (false, eval e X.env) :: starEach es X.env := by rfl) : AX X T δ ω (e :: es) Z := fun σ H rl t Q k =>
  wa (pa_cons pe_w pa_w hs) (h σ H rl t _ (fun r ω' v H1 z s1 l1 d1 =>
    (show AX X T δ ω' es (fun rs ω'' => Z (r :: rs) ω'') from z) σ H1 l1 (s1.tab t) _ fun rs ω2 vs H2 z2 s2 l2 d2 => k (r :: rs) ω2 (v :: vs) H2 z2 (s1.trans s2) l2 (.cons (stp_sd (X := X) s2 d1) d2)) (fun Z ω' σ' H' z _ _ => False.elim (show False from z)))
/-- values of and, of a comparison, what stands last may write -/
theorem ze_one {op : PySem.BoolOp} {Z : PyData → Om → Prop} (h : ZE X T δ ω a Z) : ZE X T δ ω (.BoolOp op [a] pos) Z := fun σ H rl t Q q => we (pe_one pe_w) (h σ H rl t Q q)
theorem ze_and {x : Bool} {Z : PyData → Om → Prop} (h : PD X δ ω a (.bool x)) (h2 : x = true → ZE X T δ ω (.BoolOp .And (b :: r) pos) Z) (h0 : x = false → Z (.bool false) ω) : ZE X T δ ω (.BoolOp .And (a :: b :: r) pos) Z := fun σ H rl t Q q =>
  we (pe_and pe_w pe_w) (h σ H rl _ fun v H1 s1 d1 => by
    cases d1
    refine ⟨x, rfl, ?_⟩
    cases x with
    | true => exact iteT (h2 rfl σ H1 (rl.mono s1) (t.ext s1) Q fun d ω' v H' z s l dv => q d ω' v H' z ((Stp.of s1).trans s) l dv)
    | false => exact iteF (q _ ω _ H1 (h0 rfl) (.of s1) (rl.mono s1) (.bl false)))
theorem ze_cmp {op : CmpOp} {r : R2} {Z : PyData → Om → Prop} (ho : OpR X (compareOp op) r) (ha : ZE X T δ ω a (fun da ω1 => ZE X T δ ω1 b (fun db ω2 => ∃ dz, RD X.K r da db dz ∧ Z dz ω2))) (hm : behindInMarks op b = false) : ZE X T δ ω (.Compare a [op] [b] pos) Z := fun σ H rl t Q q =>
  we (pe_cmpR ho pe_w pe_w hm) (ha σ H rl t _ fun da ω1 x H1 hb s1 l1 d1 => hb σ H1 l1 (s1.tab t) _ fun db ω2 y H2 hr s2 l2 d2 => by
    obtain ⟨dz, hr, z⟩ := hr
    exact hr _ x y H2 l2.ro.there (stp_sd (X := X) (r := .im da) s2 d1) d2 _ fun w H3 s3 d3 =>
      q dz ω2 w H3 z ((s1.trans s2).trans (.of s3)) (l2.mono s3) d3)
end
end FP

namespace FP
open PySem PySem.Spec PyProof.Rows L2 HotX L2H
/-! ### a set of the keys of a list: how many differ -/
def hadK (val : Nat → Key) (i : Nat) (k : Key) : Bool := (List.range i).any fun j => decide (val j = k)
theorem hadK_succ (val : Nat → Key) (i : Nat) (k : Key) : hadK val (i + 1) k = (hadK val i k || decide (k = val i)) := by
  unfold hadK
  rw [List.range_succ, List.any_append, List.any_cons, List.any_nil, Bool.or_false]
  congr 1
  exact decide_eq_decide.mpr eq_comm
def manyK (val : Nat → Key) : Nat → Nat
  | 0 => 0
  | i + 1 => if hadK val i (val i) = true then manyK val i else manyK val i + 1
theorem manyK_le (val : Nat → Key) : ∀ i, manyK val i ≤ i
  | 0 => Nat.le_refl _
  | i + 1 => by
    have := manyK_le val i
    unfold manyK
    split <;> omega
theorem hadK_iff {val : Nat → Key} {i : Nat} {k : Key} : hadK val i k = true ↔ ∃ j, j < i ∧ val j = k := by
  unfold hadK
  rw [List.any_eq_true]
  constructor
  · rintro ⟨j, h1, h2⟩
    exact ⟨j, List.mem_range.mp h1, of_decide_eq_true h2⟩
  · rintro ⟨j, h1, h2⟩
    exact ⟨j, List.mem_range.mpr h1, decide_eq_true h2⟩
theorem manyK_all {val : Nat → Key} : ∀ {i : Nat}, (∀ a b, a < b → b < i → val a ≠ val b) → manyK val i = i
  | 0, _ => rfl
  | i + 1, h => by
    have ih := manyK_all (val := val) (i := i) fun a b h1 h2 => h a b h1 (Nat.lt_succ_of_lt h2)
    have no : ¬ hadK val i (val i) = true := fun w => by
      obtain ⟨j, h1, h2⟩ := hadK_iff.mp w
      exact h j i h1 (Nat.lt_succ_self i) h2
    show (if _ then _ else _) = _
    rw [if_neg no, ih]
theorem manyK_less {val : Nat → Key} {a b : Nat} (hab : a < b) (e : val a = val b) : ∀ {i : Nat}, b < i → manyK val i < i
  | 0, h => by omega
  | i + 1, h => by
    have le := manyK_le val i
    unfold manyK
    by_cases hb : b = i
    · subst hb
      rw [if_pos (hadK_iff.mpr ⟨a, hab, e⟩)]
      omega
    · have := manyK_less hab e (i := i) (by omega)
      split <;> omega
section
variable {prog : Program} {w : World} {A : Around} {R : Result → Shared → Prop} {I : Addr} {fp wr : List Addr} {G : Array GenState → Array GenState → Prop} {n : Nat} {P : Nat → Value → Prop} {St : Nat → Shared → Prop}
theorem set_of_keep {h h' : Heap} {S : Addr} {f : Key → Bool} {m : Nat} (x : h.SetOf (mixKind prog w) S f m) (k : ∀ o, h.get? S = some o → h'.get? S = some o) : h'.SetOf (mixKind prog w) S f m := by
  obtain ⟨o, es, ep, t, ho, rest⟩ := x
  exact ⟨o, es, ep, t, k o ho, rest⟩
/-- what the set's loop asks of what comes next -/
theorem set_turn {S : Addr} {s : Shared} (h : wpAny (model prog w) A.in1 (pyNext (.ref I)) (fun r s1 => match r with
      | none => R (.ok (.ret .none)) s1
      | some v => wpAny (model prog w) A.in1 (setAdd S v) (fun _ s2 => codeAny (model prog w) A (.builtin "set.update.loop" ⟨[.ref S, .ref I], []⟩) R s2) (fun e s' => R (.error e) s') s1)
      (fun e s' => R (.error e) s') s) : codeAny (model prog w) A (.builtin "set.update.loop" ⟨[.ref S, .ref I], []⟩) R s := by
  apply codeAny_builtin F.entry_set_update_loop
  rw [Around.under_plainId F.plain_set_update_loop]
  refine wpAny_bind (wpAny_mono h (fun r s1 h1 => ?_) fun _ _ z => z)
  cases r with
  | none => exact wpAny_pure h1
  | some v => exact wpAny_bind (wpAny_holding (wpAny_mono h1 (fun _ s2 h2 => wpAny_pure ⟨plainId_quiet F.plain_set_update_loop _, h2⟩) fun _ _ z => z))
/-- the keys are put into the set S one by one, from the i-th on -/
theorem set_loopK (W : WalksS prog w A.in1 I fp wr G n P St) {S : Addr} (hS : S ∉ fp) {val : Nat → Key} (hval : ∀ i v, P i v → (mixKind prog w).is (val i) v = true ∧ v.scannable = true) (hn : n + 1 < scanBound) :
    ∀ (k i : Nat) (s : Shared), i + k = n → St i s → s.heap.SetOf (mixKind prog w) S (hadK val i) (manyK val i) →
      (∀ s', Moved (S :: wr) G s s' → s'.heap.SetOf (mixKind prog w) S (hadK val n) (manyK val n) → R (.ok (.ret .none)) s') →
      codeAny (model prog w) A (.builtin "set.update.loop" ⟨[.ref S, .ref I], []⟩) R s
  | 0, i, s, hi, st, hs, q => by
    have hi : i = n := by omega
    subst hi
    refine set_turn (W.done s _ _ st fun s1 m1 => ?_)
    exact q s1 (m1.mono fun b h => List.mem_cons_of_mem _ h) (set_of_keep hs fun o e => m1.heap S o (fun z => hS (W.sub _ z)) e)
  | k + 1, i, s, hi, st, hs, q => by
    have hlt : i < n := by omega
    refine set_turn (W.item i s _ _ hlt st fun v s1 hP st1 m1 => ?_)
    obtain ⟨hv, hsc⟩ := hval i v hP
    have hs1 := set_of_keep (h' := s1.heap) hs fun o e => m1.heap S o (fun z => hS (W.sub _ z)) e
    unfold setAdd
    refine wpAny_holding (wpAny_bind ((mixKind prog w).pyHash hv ?_))
    refine wpAny_setAddHashed_of (s := { s1 with toks := s1.toks + 1 }) hv hsc hs1 (by have := manyK_le val i; omega) fun h2 sb hs2 => ?_
    have hs3 : h2.SetOf (mixKind prog w) S (hadK val (i + 1)) (manyK val (i + 1)) := by
      have e : (fun k => hadK val i k || decide (k = val i)) = hadK val (i + 1) := funext fun k => (hadK_succ val i k).symm
      rw [← e]
      exact hs2
    refine set_loopK W hS hval hn k (i + 1) _ (by omega) (W.frame _ s1 _ _ st1 (Nat.le_succ _) fun b hb o e => (sb.2 b fun z => hS (by rw [← z]; exact hb)).trans e) hs3 fun s3 m3 hs4 => ?_
    exact q s3 (Moved.trans W.gtrans ((m1.mono fun b h => List.mem_cons_of_mem _ h).then_heap (Nat.le_succ _) fun b o hb e => (sb.2 b fun z => hb (by rw [z]; exact List.mem_cons_self)).trans e) m3) hs4
end
section
variable {prog : Program} {w : World} {A : Around} {E : Value → Shared → Prop} {s : Shared}
abbrev bareSet (led : Bool) : Obj := { cls := .type "set", dict := none, data := .set #[] 0 (.fresh 0 0 led) }
/-- what the making of a set leaves: all else stands as it stood -/
def SetMade (prog : Program) (w : World) (val : Nat → Key) (n : Nat) (s s2 : Shared) : Prop := ∃ h' tk, s2 = { s with heap := h', toks := tk } ∧ h'.SetOf (mixKind prog w) s.heap.objs.size (hadK val n) (manyK val n) ∧ ∀ b o, b < s.heap.objs.size → s.heap.get? b = some o → h'.get? b = some o
abbrev walkOf (l : Addr) : Obj := { cls := .type "list_iterator", data := .fields #[.ref l, .int 0 0] }
/-- a set begins with a list: all rests on the loop -/
theorem set_started {l : Addr} {items : Array Value} {led : Bool} {Post : Shared → Prop} (hl : s.heap.IsList l items)
    (loop : codeAny (model prog w) A.in1 (.builtin "set.update.loop" ⟨[.ref s.heap.objs.size, .ref (s.heap.push (bareSet led)).objs.size], []⟩) (wants (fun _ s2 => Post s2) E) { s with heap := (s.heap.push (bareSet led)).push (walkOf l) }) :
    codeAny (model prog w) A (.call (.builtin "set.__init__") ⟨[.ref s.heap.objs.size, .ref l], []⟩) (wants (fun r s2 => r = .none ∧ Post s2) E) { s with heap := s.heap.push (bareSet led) } := by
  have isSet : Shared.TypeIs { s with heap := s.heap.push (bareSet led) } (.ref s.heap.objs.size) "set" := ⟨_, Heap.get?_push_size _ rfl, rfl⟩
  refine codeAny_call_builtin PySem.F.called_set.init.plain PySem.F.entry_set_init (check_set_init_1 isSet ?_)
  have still : (s.heap.push (bareSet led)).IsList l items := hl.push _
  rcases hl with ⟨⟨c, dd, da, sl⟩, at_, isL, nl, isS⟩
  cases show c = _ from isL
  cases show da = _ from isS
  have at1 := Heap.get?_push_of_some (bareSet led) at_
  have no1 := PySem.F.sub_list_set
  have no2 := PySem.F.sub_list_frozenset
  have no3 : (Value.type "list" == Value.type "dict") = false := rfl
  delta Builtin.«set.__init__» Builtin.Frozenset.updateFrom noKeywords
  generalize hold : pyIter = held
  wp_walk
  cases hold
  refine wpAny_pyIter_list still (wpAny_bind (wpAny_runValue (codeAny_mono loop fun r s2 told => ?_)))
  match r, told with
  | .error e, told => exact told
  | .ok (.ret v), told => exact wpAny_pure (wpAny_pure ⟨rfl, told⟩)
/-- set(x) for any x with which a set can begin -/
theorem set_called {x : Value} {Post : Shared → Prop} {Q : Value → Shared → Prop}
    (begins : ∀ led, codeAny (model prog w) A.in1 (.call (.builtin "set.__init__") ⟨[.ref s.heap.objs.size, x], []⟩) (wants (fun r s2 => r = .none ∧ Post s2) E) { s with heap := s.heap.push (bareSet led) })
    (q : ∀ s2, Post s2 → Q (.ref s.heap.objs.size) s2) : wpAny (model prog w) A (call (.type "set") [x]) Q E s := by
  have made := code_set_new_1 (prog := prog) (w := w) (A := A.in1) (s := s) x (E := E) (Q₁ := fun u s1 => ∃ led : Bool, u = .ref s.heap.objs.size ∧ s1 = { s with heap := s.heap.push (bareSet led) }) fun led => ⟨led, rfl, rfl⟩
  rcases PySem.F.called_set with ⟨no1, no2, ⟨_, _, line⟩, by_, _, self_, init⟩
  have one := PySem.F.typeCall_set_1 x
  apply wpAny_call
  apply codeAny_of_tree
  refine wpAny_pure (a := Fin.again (.builtin "type.__call__" ⟨[.type "set", x], []⟩)) ⟨Code.quiet_builtin _ (by decide +kernel), codeAny_builtin PySem.F.entry_type_call ?_⟩
  rw [Around.under_plain (weight_type_call_type "set" [x] []) rfl]
  repeat (any_goals (first | assumption | wp_step))
  refine codeAny_mono made fun r s1 told => ?_
  match r, told with
  | .error e, told => exact told
  | .ok (.ret _), ⟨led, e1, e2⟩ =>
    cases e1
    cases e2
    have isSet : Shared.TypeIs { s with heap := s.heap.push (bareSet led) } (.ref s.heap.objs.size) "set" := ⟨_, Heap.get?_push_size _ rfl, rfl⟩
    have find := init.lookup
    have bound := init.bind (.ref s.heap.objs.size)
    repeat (any_goals (first | assumption | wp_step))
    refine codeAny_mono (begins led) fun r2 s2 told2 => ?_
    match r2, told2 with
    | .error e, told2 => exact told2
    | .ok (.ret _), ⟨rfl, m⟩ =>
      repeat (any_goals (first | assumption | wp_step))
      exact q _ m
/-- the set's own begin, of a list -/
theorem set_initK {l : Addr} {items : Array Value} {val : Nat → Key} {led : Bool} (hh : A.handled = none) (hl : s.heap.IsList l items) (hval : ∀ i v, items[i]? = some v → (mixKind prog w).is (val i) v = true ∧ v.scannable = true) (hn : items.size + 1 < scanBound) :
    codeAny (model prog w) A (.call (.builtin "set.__init__") ⟨[.ref s.heap.objs.size, .ref l], []⟩) (wants (fun r s2 => r = .none ∧ SetMade prog w val items.size s s2) E) { s with heap := s.heap.push (bareSet led) } := by
  have lt : l < s.heap.objs.size := hl.elim fun o ho => Heap.lt_size ho.1
  have sz : (s.heap.push (bareSet led)).objs.size = s.heap.objs.size + 1 := Heap.size_push ..
  have l1 : (s.heap.push (bareSet led)).IsList l items := hl.push _
  have lI : l ≠ (s.heap.push (bareSet led)).objs.size := Nat.ne_of_lt (by rw [sz]; exact Nat.lt_succ_of_lt lt)
  have hB : A.in1.in1.handled = none := by simp [hh]
  refine set_started hl (set_loopK ((Walks.list hB _ l lI items).toS) (S := s.heap.objs.size) (fun z => ?_) hval hn items.size 0 _ (Nat.zero_add _) ⟨⟨_, Heap.get?_push_size _ rfl, rfl, rfl⟩, l1.push _⟩ ?_ (fun s2 m2 hs2 => ?_))
  · rcases List.mem_cons.mp z with e | e
    · exact Nat.ne_of_lt (Nat.lt_succ_self _) (e.trans sz)
    · exact Nat.ne_of_gt lt (List.mem_singleton.mp e)
  · exact ⟨bareSet led, #[], 0, _, Heap.get?_push_of_some _ (Heap.get?_push_size _ rfl), ⟨rfl, rfl, rfl⟩, rfl, fun e he => by simp at he, fun k => by simp [hadK], by show 0 < scanBound; omega, rfl, rfl⟩
  · rcases s2 with ⟨h2, g2, d2, t2, o2⟩
    cases show g2 = s.gens from m2.gens
    cases show d2 = s.drawn from m2.drawn
    cases show o2 = s.os from m2.os
    refine ⟨h2, t2, rfl, hs2, fun b o hb e => m2.heap b o (fun z => ?_) (Heap.get?_push_of_some _ (Heap.get?_push_of_some _ e))⟩
    rcases List.mem_cons.mp z with q | q
    · exact Nat.ne_of_lt hb q
    · exact Nat.ne_of_lt (Nat.lt_succ_of_lt hb) ((List.mem_singleton.mp q).trans sz)
/-- set(l) -/
theorem call_setK {l : Addr} {items : Array Value} {val : Nat → Key} {Q : Value → Shared → Prop} (hh : A.handled = none) (hl : s.heap.IsList l items) (hval : ∀ i v, items[i]? = some v → (mixKind prog w).is (val i) v = true ∧ v.scannable = true) (hn : items.size + 1 < scanBound)
    (q : ∀ s2, SetMade prog w val items.size s s2 → Q (.ref s.heap.objs.size) s2) : wpAny (model prog w) A (call (.type "set") [.ref l]) Q E s :=
  set_called (fun _ => set_initK (by simp [hh]) hl hval hn) q
end
end FP

namespace FP
open PySem PySem.Spec PyProof.Rows L2 HotX L2H
/-! ### len(set(l)), l a list of keys -/
def valK (ks : List Key) (i : Nat) : Key := ks.getD i (.inl 0)
def tLenSetK (K : PySem.W.Frag) (ta : TE) : TE := fun σ H Q => ta σ H fun x H1 => ∃ (l : Addr) (ks : List Key), x = .ref l ∧ SqL K H1 l (ks.map kV) ∧ ks.length ≤ 1000 ∧ Q (.int (manyK (valK ks) ks.length : Nat)) H1
theorem pe_lenSetK {X : Cx} {a : Expr} {ta : TE} {p p2 q pos : Pos} (hc : X.calm = true) (hg : Gl X "len") (hm : X.mg "len" = none) (hg2 : Gl X "set") (hm2 : X.mg "set" = none) (ha : PE X a ta)
    (na : starEach [a] X.env = (false, eval a X.env) :: starEach [] X.env := by rfl) : PE X (.Call (.Name "len" p) [.Call (.Name "set" p2) [a] [] q] [] pos) (tLenSetK X.K ta) := by
  refine ⟨fun pins s σ H Q I h => ?_⟩
  refine Call_ (ld_blt I hg hm boot_len (callWith_builtin1 (args_cons ?_ rfl) rfl rfl))
  refine Call_ (ld_blt I hg2 hm2 boot_set (callWith_type1 (args_cons (thn (ha.run pins s σ H _ I h) fun v s1 ⟨x, H1, I1, r1, q1⟩ => args_nil ?_) na) na rfl))
  obtain ⟨l, ks, rfl, hq, hz, q1⟩ := q1
  cases r1
  obtain ⟨its, r, pl, _⟩ := I1.list hq
  have ln : its.toArray.size = ks.length := by rw [List.size_toArray, ← r.length, List.length_map]
  refine call_setK (val := valK ks) (I1.ok.hd hc) pl.isList (fun i v hv => ?_) (by rw [ln]; unfold scanBound; omega) fun s2 m => args_nil ?_
  · have hi : i < ks.length := by
      rw [← ln]
      exact (Array.getElem?_eq_some_iff.mp hv).1
    obtain ⟨u, hu, ru⟩ := r.get (i := i) (x := kV ks[i]) (by simp [hi])
    have e : v = u := by
      have hv : its[i]? = some v := by simpa using hv
      rw [hu] at hv
      cases hv
      rfl
    have e2 : valK ks i = ks[i] := by
      unfold valK
      rw [List.getD_eq_getElem?_getD, List.getElem?_eq_getElem hi]
      rfl
    rw [e, e2]
    exact ⟨kV_is ru, key_scan ru⟩
  · obtain ⟨h2, t2, rfl, hs, hk⟩ := m
    rw [ln] at hs
    obtain ⟨o, es, ep, t, ho, hex, hd, _, _, _, hf, hn⟩ := hs
    have I2 : Inv X pins σ H1 { s1 with heap := h2, toks := t2 } := I1.kept fun b o e => hk b o (Heap.lt_size e) e
    have := manyK_le (valK ks) ks.length
    exact call_len_set ho hex hd hf (by rw [hn]; omega) ⟨.int (manyK (valK ks) ks.length : Nat), H1, I2.tok _, ⟨_, by rw [hn]⟩, q1⟩
section
variable {X : Cx} {δ : De} {ω : Om} {a : Expr} {p p2 q pos : Pos}
theorem dpa_keys {K : PySem.W.Frag} {H : Hp} : ∀ {ks : List Key} {vs : List V}, DpAll K H vs (ks.map keyD) → vs = ks.map kV
  | [], _, .nil => rfl
  | k :: ks, _, .cons h r => by rw [dp_key h, dpa_keys r]; rfl
theorem pd_lenSetK {ks : List Key} (hc : X.calm = true) (hm : X.mg "len" = none) (hm2 : X.mg "set" = none) (ha : PL X δ ω a (ks.map keyD)) (hz : ks.length ≤ 1000) (hg : Gl X "len" := by rfl) (hg2 : Gl X "set" := by rfl) (na : starEach [a] X.env = (false, eval a X.env) :: starEach [] X.env := by rfl) :
    PD X δ ω (.Call (.Name "len" p) [.Call (.Name "set" p2) [a] [] q] [] pos) (.int (manyK (valK ks) ks.length : Nat)) := fun σ H rl Q k =>
  we (pe_lenSetK hc hg hm hg2 hm2 pe_w na) (ha σ H rl _ fun l vs H1 s1 g d => by
    have d := dpa_keys d
    subst d
    exact ⟨l, ks, rfl, g, hz, k _ H1 s1 (.int _)⟩)
end
end FP

namespace FP
open PySem PySem.Spec PyProof.Rows L2 HotX L2H
section
variable {X : Cx} {W : WX} {T : List (Addr × Str)} {δ : De} {ω : Om} {a b e o : Expr} {es : List Expr} {d : PyData} {pos p : Pos} {k : Nat} {x y : Str} {rs : List Sd} {fr : FrG} {R : Out → Prop} {ss : List Stmt}
/-- {} -/
theorem nw_dct0 : NW X T δ ω (.Dict [] [] pos) (.dct []) := fun σ H rl t Q k =>
  we pe_dnewK fun D hD => k D _ (stp_new (same_new hD) hD) (rl_new rl hD (same_new hD) ⟨[], upd_same, .nil⟩)
/-- a value that is told stands in a row -/
theorem ax_ze {Z : List Sd → Om → Prop} (h : ZE X T δ ω e (fun d ω' => AX X T δ ω' es (fun rs ω'' => Z (.im d :: rs) ω''))) (hs : starEach (e :: es) X.env = (false, eval e X.env) :: starEach es X.env := by rfl) : AX X T δ ω (e :: es) Z := fun σ H rl t Q k =>
  wa (pa_cons pe_w pa_w hs) (h σ H rl t _ fun d ω' v H1 z s1 l1 d1 =>
    z σ H1 l1 (s1.tab t) _ fun rs ω2 vs H2 z2 s2 l2 d2 => k (.im d :: rs) ω2 (v :: vs) H2 z2 (s1.trans s2) l2 (.cons (stp_sd (X := X) (r := .im d) s2 d1) d2))
/-- a def is called, what it gets may be made there -/
theorem yx_callA {Z : Rg → Om → Prop} (G : GOk X.prog X.w X.K X.mg X.base k x fr) (hr : Room k X.A) (tk : L2N.Takes X W)
    (ha : AX X T δ ω (e :: es) (fun rs ω' => ∃ (ps : List Addr) (os rest : Os) (Rr : Rg → Os → Prop), ω' = ⟨ps, os ++ rest⟩ ∧ fr os rs Rr ∧ ∀ r os', Rr r os' → Z r ⟨ps, os' ++ rest⟩)) (hg : Gl X x := by rfl)
    (hdb : (x == ("__debug__" : Str)) = false := by decide) (he : starEach (e :: es) X.env = (false, eval e X.env) :: starEach es X.env := by rfl) (hpl : (backTo pos (starEach es X.env)).any (·.1) = false := by rfl) : YX X W T δ ω (.Call (.Name x p) (e :: es) [] pos) Z := fun σ H rl t Q q q2 => by
  obtain ⟨f, fd, pn, F, m, kp, b⟩ := G.ex
  refine we (pe_callS (E := WE W) F hr hg m kp b (fun σ => L2N.passAt tk σ) pa_w hdb he hpl) (ha σ H rl t _ fun rs ω' vs H1 z st l pr => ?_)
  obtain ⟨ps, os, rest, Rr, rfl, hf, hR⟩ := z
  refine callG_end (T := T) l pr hf fun r os' H' hr st2 l2 => ?_
  have z := hR r os' hr
  cases r with
  | ok r => exact fun v hv => q r _ v H' z (st.trans st2) l2 hv
  | er Z => exact q2 Z _ H' z (st.trans st2) l2
/-- y = [.., ..], a list of one's own of what was told -/
theorem sd_lstA (i : Nat) {py lp : Pos} (ha : AX X T δ ω es (fun rs ω' => rs.length ≤ 1000 ∧ ∀ D, SD X W T ss (δ.set i (some (.ad D))) (omD ω' D (.lst rs)) R)) (hN : X.N.Nodup) (hi : X.N[i]? = some y := by rfl) (hx : Loc X.env.scope y := by first | exact Or.inl rfl | exact Or.inr rfl)
    (hs : swapsWith (.List es lp) (some (.Name y py)) pos.line X.env = pure false := by rfl) (hf : X.fn y = true ∨ X.env.scope.names.lookup y = some .local := by first | exact .inl rfl | exact .inr rfl | assumption) : SD X W T (.Assign [.Name y py] (.List es lp) pos :: ss) δ ω R :=
  sd_cons fun σ H D rl t kt => ws (ps_set hN hi hx (pe_lst pa_w) hs hf) (ha σ H rl t _ fun rs ω' vs H1 z st l pr => by
    obtain ⟨hz, z⟩ := z
    refine ⟨Nat.le_of_lt (small1000 (by rw [paired_len pr]; exact hz)), fun q hq => ?_⟩
    have sm : Same H1 (upd H1 q (.lst vs)) := same_new hq
    refine kt.nx _ _ _ _ (z q) (st.trans (stp_new sm hq)) ((rl_new (o := .lst rs) l hq sm ⟨vs, upd_same, paired_mono (hid_in hq sm) pr⟩).set (x := .ad q) (v := .ref q) rfl))
/-- o.append(e), what is told -/
theorem sd_appZ {ad : Addr} {apos cpos : Pos} (ho : PS1 X δ ω o (.ad ad)) (he : (ad, Od.lst rs) ∈ ω.os) (hz : ZE X T δ ω e (fun d ω' => ∃ j xs, ω'.os[j]? = some (ad, .lst xs) ∧ xs.length < 10000 ∧ SD X W T ss δ (putO ω' j (ad, .lst (xs ++ [.im d]))) R))
    (hs : swapsWith (.Call (.Attribute o "append" apos) [e] [] cpos) none pos.line X.env = pure false := by rfl)
    (hbase : attributeBase o "append" X.env (eval o X.env) = eval o X.env := by rfl)
    (hfew : ((backTo cpos (starEach [e] X.env)).all (fun x => !x.1) && (backToKw cpos (keywordEach [] X.env)).all (fun x => x.1.isSome)
      && decide (([e] : List Expr).length + ([] : List Keyword).length + (if ([] : List Keyword).isEmpty then 0 else 1) < 30)) = true := by rfl)
    (hline : (apos.endLine == cpos.line) = true := by rfl) (hst : starEach [e] X.env = (false, eval e X.env) :: starEach [] X.env := by rfl) :
    SD X W T (.Expr (.Call (.Attribute o "append" apos) [e] [] cpos) pos :: ss) δ ω R :=
  sd_cons fun σ H Dd rl t kt => ws (ps_expr (pe_bm PySem.F.plainAttrs_list PySem.F.slot_list_append PySem.F.type_list_append mt_append pe_w (pa_cons pe_w pa_nil hst) hbase hfew hline hst) hs) (ho σ H rl _ fun v H1 s1 d1 => by
    have d1 : v = .ref ad := d1
    subst d1
    obtain ⟨vs, e3, e4⟩ := (rl.mono s1).ro.ob ad _ he
    refine ⟨.inl ⟨rfl, vs, SqL.of e3⟩, hz σ H1 (rl.mono s1) (t.ext s1) _ fun d ω' y H2 z s2 l2 d2 => ?_⟩
    obtain ⟨j, xs, hj, hn, z⟩ := z
    obtain ⟨us, g3, g4⟩ := l2.ro.ob ad _ (at_mem hj)
    refine ⟨ad, us, y, rfl, rfl, g3, ?_, ?_⟩
    · rw [paired_len g4]
      exact Nat.lt_of_lt_of_le hn (by rw [sizeLine_eq]; decide)
    · have am : ad ∈ ads ω' := List.mem_append_right _ (List.mem_map.mpr ⟨_, at_mem hj, rfl⟩)
      have hh : Same (hid (ads ω') H2) (hid (ads ω') (upd H2 ad (.lst (us ++ [y])))) := fun bb o h => by
        obtain ⟨n, e⟩ := hid_out h
        exact hid_of n (by rw [upd_ne (fun q => n (by rw [q]; exact am))]; exact e)
      obtain ⟨st, l3⟩ := own_at (T := T) (o' := .lst (xs ++ [.im d])) (H' := upd H2 ad (.lst (us ++ [y]))) l2 hj g3 (fun _ q => by cases q) (fun _ _ q => by unfold LamX.CodeO at q; cases q) (fun bb o nb h => by rw [upd_ne nb]; exact h) ⟨_, upd_same, paired_snoc (R := SdV X.K _) (x := Sd.im d) (y := y) (dpm hh d2) (L2.Paired.mapP g4 fun _ _ q => sdv_mono hh q)⟩
      exact kt.nx δ _ σ _ z (((Stp.of s1).trans s2).trans st) l3)
theorem PR.yx {rr : Rs} {Z : Rg → Om → Prop} (h : PR X W δ ω e rr) (z : match rr with | .ok d => Z (.ok (.im d)) ω | .er C => Z (.er C) ω) : YX X W T δ ω e Z := fun σ H rl t Q q q2 => h σ H rl Q (by
  cases rr with
  | ok d => exact fun v H' s dv => q (.im d) ω v H' z (.of s) (rl.mono s) dv
  | er C => exact fun H' s => q2 C ω H' z (.of s) (rl.mono s))
end
end FP

namespace FP
open PySem PySem.Spec PyProof.Rows L2 HotX L2H
section
variable {X : Cx} {W : WX} {T : List (Addr × Str)} {δ : De} {ω : Om} {a b : Expr} {ds : List PyData} {pos : Pos}
/-- a list and what a call tells, which may raise -/
def catR (ds : List PyData) : Rs → Rs
  | .ok (.list dt) => .ok (.list (ds ++ dt))
  | r => r
theorem pr_catL {rr : Rs} (ha : PL X δ ω a ds) (hb : PR X W δ ω b rr) (hz : ∀ d, rr = .ok d → ∃ dt, d = .list dt ∧ ds.length + dt.length ≤ 10000) : PR X W δ ω (.BinOp a .Add b pos) (catR ds rr) := fun σ H rl Q k =>
  we (pe_op op_catQ pe_w pe_w) (ha σ H rl _ fun q vs H1 s1 h1 d1 => hb σ H1 (rl.mono s1) _ (by
    cases rr with
    | er C => exact fun H2 s2 => k H2 (s1.trans s2)
    | ok d =>
      obtain ⟨dt, rfl, hz⟩ := hz d rfl
      intro v H2 s2 dv
      cases dv with
      | lst h2 d2 =>
        have d1 := dpam (hid_same s2) d1
        exact ⟨q, _, vs, _, rfl, rfl, s2.seq h1, hid_sub.seq h2, by rw [dpa_len d1, dpa_len d2, sizeLine_eq]; omega, fun p hp => k _ _ ((s1.trans s2).trans (same_new hp)) (.lst (SqL.of (hid_of (new_out (rl.mono (s1.trans s2)).ro.there hp) upd_same)) (dpam (hid_same (same_new hp)) (dpa_app d1 d2)))⟩))
end
end FP

namespace FP
open PySem PySem.Spec PyProof.Rows L2 HotX L2H
/-! ### the least and the greatest of alike data -/
/-- the item of a row that is read so -/
theorem dpa_item {X : Cx} {pins : List (Addr × Obj)} {σ : L2.St} {H : Hp} {s : Shared} {h' : Heap} (I : Inv X pins σ H s) (hk : ∀ b o, s.heap.get? b = some o → h'.get? b = some o) : ∀ {vs : List V} {ds : List PyData} {its : List Value}, DpAll X.K H vs ds → Vals vs its → ∀ {i : Nat} {v : Value} {e : PyData} {bs : List Addr},
    its[i]? = some v → Reads h' v e bs → ∃ x, vs[i]? = some x ∧ ds[i]? = some e ∧ RelV x v
  | [], [], [], _, _, i, v, e, bs, hv, _ => by cases hv
  | x :: vs, d :: ds, u :: us, hd, rv, i, v, e, bs, hv, hr => by
    cases hd with
    | cons h1 h2 =>
      cases rv with
      | cons r1 r2 =>
        cases i with
        | zero =>
          cases hv
          obtain ⟨as, r⟩ := Dp.reads I d x u h1 r1
          have e1 := (Reads.unique (PySem.W.reads_keeps hk r) _ _ hr).1
          subst e1
          exact ⟨x, rfl, rfl, r1⟩
        | succ i => exact dpa_item I hk h2 r2 hv hr
theorem dpa_both {K : PySem.W.Frag} {H : Hp} : ∀ {vs : List V} {ds : List PyData}, DpAll K H vs ds → ∀ {i : Nat} {x : V} {e : PyData}, vs[i]? = some x → ds[i]? = some e → Dp K H x e
  | [], [], _, i, x, e, h1, _ => by cases h1
  | y :: vs, d :: ds, h, i, x, e, h1, h2 => by
    cases h with
    | cons a b =>
      cases i with
      | zero =>
        cases h1
        cases h2
        exact a
      | succ i => exact dpa_both b h1 h2
def rMinA (X : Cx) : List V → Hp → VK → Prop := fun xs H Q => ∃ (a : Addr) (vs : List V) (d : PyData) (ds : List PyData), xs = [.ref a] ∧ SqL X.K H a vs ∧ DpAll X.K H vs (d :: ds) ∧ PySem.W.AlikeAll (d :: ds) ∧ X.A.units + 1 + PyData.depthAll (d :: ds) < cLine ∧ ∀ (i : Nat) (x : V), vs[i]? = some x → (d :: ds)[i]? = some (PySem.W.minD d ds) → Q x H
theorem cr_minA {X : Cx} (hc : X.calm = true) : CallR X (.builtin "min") (rMinA X) := by
  intro pins s σ H xs us Q I r h
  obtain ⟨a, vs, d, ds, rfl, hq, hd, al, hu, q⟩ := h
  rw [Vals.ref1 r]
  obtain ⟨its, rv, pl, _⟩ := I.list hq
  obtain ⟨as, ra⟩ := Dp.readsAll I (d :: ds) vs its hd rv
  refine PySem.W.min_list_data (I.ok.hd hc) pl.isList (by simpa using ra) al hu fun i v h' tk bs hv hr hk => ?_
  obtain ⟨x, h1, h2, r1⟩ := dpa_item I hk hd rv (i := i) (by simpa using hv) hr
  exact ⟨x, H, I.kept (t' := tk) hk, r1, q i x h1 h2⟩
def rMaxA (X : Cx) : List V → Hp → VK → Prop := fun xs H Q => ∃ (a : Addr) (vs : List V) (d : PyData) (ds : List PyData), xs = [.ref a] ∧ SqL X.K H a vs ∧ DpAll X.K H vs (d :: ds) ∧ PySem.W.AlikeAll (d :: ds) ∧ X.A.units + 1 + PyData.depthAll (d :: ds) < cLine ∧ ∀ (i : Nat) (x : V), vs[i]? = some x → (d :: ds)[i]? = some (PySem.W.maxD d ds) → Q x H
theorem cr_maxA {X : Cx} (hc : X.calm = true) : CallR X (.builtin "max") (rMaxA X) := by
  intro pins s σ H xs us Q I r h
  obtain ⟨a, vs, d, ds, rfl, hq, hd, al, hu, q⟩ := h
  rw [Vals.ref1 r]
  obtain ⟨its, rv, pl, _⟩ := I.list hq
  obtain ⟨as, ra⟩ := Dp.readsAll I (d :: ds) vs its hd rv
  refine PySem.W.max_list_data (I.ok.hd hc) pl.isList (by simpa using ra) al hu fun i v h' tk bs hv hr hk => ?_
  obtain ⟨x, h1, h2, r1⟩ := dpa_item I hk hd rv (i := i) (by simpa using hv) hr
  exact ⟨x, H, I.kept (t' := tk) hk, r1, q i x h1 h2⟩
section
variable {X : Cx} {δ : De} {ω : Om} {a : Expr} {d : PyData} {ds : List PyData} {pos p : Pos}
/-- min(a), a a list of alike data that is read -/
theorem pd_minA (hc : X.calm = true) (hm : X.mg "min" = none) (ha : PL X δ ω a (d :: ds)) (al : PySem.W.AlikeAll (d :: ds)) (hu : X.A.units + 1 + PyData.depthAll (d :: ds) < cLine) (hg : Gl X "min" := by rfl) (he : starEach [a] X.env = (false, eval a X.env) :: starEach [] X.env := by rfl) : PD X δ ω (.Call (.Name "min" p) [a] [] pos) (PySem.W.minD d ds) := fun σ H rl Q k =>
  we (pe_callB (cr_minA hc) hg hm (by decide +kernel) (pa_cons pe_w pa_nil he) (he := he)) (ha σ H rl _ fun q vs H1 s1 g d1 =>
    ⟨q, vs, d, ds, rfl, g, dpam hid_sub d1, al, hu, fun i x h1 h2 => k x H1 s1 (dpa_both d1 h1 h2)⟩)
/-- max(a), a a list of alike data that is read -/
theorem pd_maxA (hc : X.calm = true) (hm : X.mg "max" = none) (ha : PL X δ ω a (d :: ds)) (al : PySem.W.AlikeAll (d :: ds)) (hu : X.A.units + 1 + PyData.depthAll (d :: ds) < cLine) (hg : Gl X "max" := by rfl) (he : starEach [a] X.env = (false, eval a X.env) :: starEach [] X.env := by rfl) : PD X δ ω (.Call (.Name "max" p) [a] [] pos) (PySem.W.maxD d ds) := fun σ H rl Q k =>
  we (pe_callB (cr_maxA hc) hg hm (by decide +kernel) (pa_cons pe_w pa_nil he) (he := he)) (ha σ H rl _ fun q vs H1 s1 g d1 =>
    ⟨q, vs, d, ds, rfl, g, dpam hid_sub d1, al, hu, fun i x h1 h2 => k x H1 s1 (dpa_both d1 h1 h2)⟩)
end
end FP

namespace FP
open PySem PySem.Spec PyProof.Rows L2 HotX L2H
section
variable {X : Cx} {W : WX} {T : List (Addr × Str)} {δ : De} {ω : Om} {b e o : Expr} {d : PyData} {pos lp ap cp : Pos} {k : Key} {z : Addr} {j : Nat} {kvs : List (Key × Sd)} {R : Out → Prop} {ss : List Stmt}
/-- o.setdefault(b, []), o a dict of one's own whose values are lists of one's own -/
theorem yx_setd {Z : Rg → Om → Prop} (ho : PS1 X δ ω o (.ad z)) (hj : ω.os[j]? = some (z, .dct kvs)) (hz : kvs.length < 1000) (hb : PD X δ ω b (keyD k))
    (h1 : hasK kvs k = true → ∃ a, valS kvs k = some (.ad a) ∧ ∀ D, Z (.ok (.ad a)) (omD ω D (.lst []))) (h2 : hasK kvs k = false → ∀ D, Z (.ok (.ad D)) (putO (omD ω D (.lst [])) (j + 1) (z, .dct (putS kvs k (.ad D)))))
    (m : M2 X o "setdefault" ap b (.List [] lp) cp := by exact ⟨rfl, rfl, rfl, rfl⟩) : YX X W T δ ω (.Call (.Attribute o "setdefault" ap) [b, .List [] lp] [] cp) Z := fun σ H rl t Q q _ =>
  we (pe_dsetd pe_w pe_w pe_w m) (ho σ H rl _ fun v H1 s1 d1 => by
    have d1 : v = .ref z := d1
    subst d1
    obtain ⟨vs0, g0, _⟩ := (rl.mono s1).ro.ob z _ (at_mem hj)
    refine ⟨z, rfl, .inl ⟨vs0, .of g0⟩, hb σ H1 (rl.mono s1) _ fun y H2 s2 d2 => ?_⟩
    have d2 := dp_key d2
    subst d2
    refine (PN.nw (ω := ω) (T := T) (pn_lst (X := X) (δ := δ) (pos := lp) pds_nil)) σ H2 (rl.mono (s1.trans s2)) (t.ext (s1.trans s2)) _ fun D H3 st l => ?_
    have hj2 : (omD ω D (.lst [])).os[j + 1]? = some (z, .dct kvs) := hj
    have l : Rl X.K H3 σ δ (omD ω D (.lst [])) := l
    have st : Stp T ω (omD ω D (.lst [])) H2 H3 := st
    obtain ⟨vs, g1, g2⟩ := l.ro.ob z _ (at_mem hj2)
    have lv : vs.length = kvs.length := paired_len g2
    refine ⟨vs, k, g1, rfl, by rw [lv, sizeLine_eq]; omega, fun v hv => ?_, fun hn => ?_⟩
    · have hk : hasK kvs k = true := by
        rw [← kvp_has g2, hv]
        rfl
      obtain ⟨a, e1, e2⟩ := h1 hk
      obtain ⟨u, f1, f2⟩ := kvp_get g2 e1
      rw [hv] at f1
      cases f1
      exact q (.ad a) _ v H3 (e2 D) ((Stp.of (s1.trans s2)).trans st) l f2
    · have hk : hasK kvs k = false := by
        rw [← kvp_has g2, hn]
        rfl
      have am : z ∈ ads (omD ω D (.lst [])) := List.mem_append_right _ (List.mem_map.mpr ⟨_, at_mem hj2, rfl⟩)
      have hh : Same (hid (ads (omD ω D (.lst []))) H3) (hid (ads (omD ω D (.lst []))) (upd H3 z (.dK (putK vs k (.ref D))))) := fun bb o h => by
        obtain ⟨n, e⟩ := hid_out h
        exact hid_of n (by rw [upd_ne (fun q => n (by rw [q]; exact am))]; exact e)
      obtain ⟨st2, l3⟩ := own_at (T := T) (o' := .dct (putS kvs k (.ad D))) (H' := upd H3 z (.dK (putK vs k (.ref D)))) l hj2 g1 (fun _ q => by cases q) (fun _ _ q => by unfold LamX.CodeO at q; cases q) (fun bb o nb h => by rw [upd_ne nb]; exact h) ⟨_, upd_same, kvp_put (r := .ad D) rfl (kvp_mono hh g2)⟩
      exact q (.ad D) _ (.ref D) _ (h2 hk D) (((Stp.of (s1.trans s2)).trans st).trans st2) l3 rfl)
/-- o.append(e), o whatever tells a list of one's own -/
theorem sd_appY {apos cpos : Pos} (ho : YX X (fun _ _ _ _ => False) T δ ω o (fun r ω' => ∃ a j xs d, r = .ok (.ad a) ∧ ω'.os[j]? = some (a, .lst xs) ∧ xs.length < 10000 ∧ PD X δ ω' e d ∧ SD X W T ss δ (putO ω' j (a, .lst (xs ++ [.im d]))) R))
    (hs : swapsWith (.Call (.Attribute o "append" apos) [e] [] cpos) none pos.line X.env = pure false := by rfl)
    (hbase : attributeBase o "append" X.env (eval o X.env) = eval o X.env := by rfl)
    (hfew : ((backTo cpos (starEach [e] X.env)).all (fun x => !x.1) && (backToKw cpos (keywordEach [] X.env)).all (fun x => x.1.isSome)
      && decide (([e] : List Expr).length + ([] : List Keyword).length + (if ([] : List Keyword).isEmpty then 0 else 1) < 30)) = true := by rfl)
    (hline : (apos.endLine == cpos.line) = true := by rfl) (hst : starEach [e] X.env = (false, eval e X.env) :: starEach [] X.env := by rfl) :
    SD X W T (.Expr (.Call (.Attribute o "append" apos) [e] [] cpos) pos :: ss) δ ω R :=
  sd_cons fun σ H Dd rl t kt => ws (ps_expr (pe_bm PySem.F.plainAttrs_list PySem.F.slot_list_append PySem.F.type_list_append mt_append pe_w (pa_cons pe_w pa_nil hst) hbase hfew hline hst) hs) (ho σ H rl t _ (fun r ω' v H1 zz s1 l1 d1 => by
    obtain ⟨a, j, xs, d, e0, hj, hn, he, zz⟩ := zz
    cases e0
    have d1 : v = .ref a := d1
    subst d1
    obtain ⟨vs, e3, e4⟩ := l1.ro.ob a _ (at_mem hj)
    refine ⟨.inl ⟨rfl, vs, SqL.of e3⟩, he σ H1 l1 _ fun y H2 s2 d2 => ⟨a, vs, y, rfl, rfl, s2 a _ e3, ?_, ?_⟩⟩
    · rw [paired_len e4]
      exact Nat.lt_of_lt_of_le hn (by rw [sizeLine_eq]; decide)
    · have l2 := l1.mono s2
      have am : a ∈ ads ω' := List.mem_append_right _ (List.mem_map.mpr ⟨_, at_mem hj, rfl⟩)
      have hh : Same (hid (ads ω') H2) (hid (ads ω') (upd H2 a (.lst (vs ++ [y])))) := fun bb o h => by
        obtain ⟨n, e⟩ := hid_out h
        exact hid_of n (by rw [upd_ne (fun q => n (by rw [q]; exact am))]; exact e)
      obtain ⟨st, l3⟩ := own_at (T := T) (o' := .lst (xs ++ [.im d])) (H' := upd H2 a (.lst (vs ++ [y]))) l2 hj (s2 a _ e3) (fun _ q => by cases q) (fun _ _ q => by unfold LamX.CodeO at q; cases q) (fun bb o nb h => by rw [upd_ne nb]; exact h) ⟨_, upd_same, paired_snoc (R := SdV X.K _) (x := Sd.im d) (y := y) (dpm hh d2) (L2.Paired.mapP e4 fun _ _ q => sdv_mono ((hid_same s2).trans hh) q)⟩
      exact kt.nx δ _ σ _ zz ((s1.trans (.of s2)).trans st) l3) (fun Z ω' H' z _ _ => False.elim (by
        obtain ⟨_, _, _, _, e0, _⟩ := z
        cases e0)))
end
end FP

namespace FP
open PySem PySem.Spec PyProof.Rows L2 HotX L2H
/-! ### dicts of one's own: copied, asked for their kind, made of a list -/
section
variable {X : Cx} {W : WX} {T : List (Addr × Str)} {δ : De} {ω : Om} {o e iter tg kx vx elt : Expr} {es : List Expr} {d : PyData} {a : Addr} {kvs : List (Key × Sd)} {pos p p2 : Pos} {R : Out → Prop} {ss : List Stmt}
/-- dict(o) -/
theorem nw_dictD (hm : X.mg "dict" = none) (ho : PS1 X δ ω o (.ad a)) (hc : (a, Od.dct kvs) ∈ ω.os) (hg : Gl X "dict" := by rfl) (he : starEach [o] X.env = (false, eval o X.env) :: starEach [] X.env := by rfl) :
    NW X T δ ω (.Call (.Name "dict" p) [o] [] pos) (.dct kvs) := fun σ H rl t Q k =>
  we (pe_callTy call_dictD hg hm (by decide +kernel) (pa_cons pe_w pa_nil he) (he := he)) (ho σ H rl _ fun v H1 s1 d1 => by
    have d1 : v = .ref a := d1
    subst d1
    have rl1 := rl.mono s1
    obtain ⟨vs, g1, g2⟩ := rl1.ro.ob a _ hc
    exact ⟨a, vs, rfl, .of g1, fun q hq => k q _ (stp_new (s1.trans (same_new hq)) (s1.free hq)) (rl_new rl1 hq (same_new hq) ⟨vs, upd_same, kvp_mono (hid_in hq (same_new hq)) g2⟩)⟩)
/-- isinstance(o, t) -/
theorem pd_isiK {t : String} {x : Str} {k : Bool} (hm : X.mg "isinstance" = none) (hmx : X.mg x = none) (hbx : bootBuiltins x = some (.type t)) (ho : PS1 X δ ω o (.ad a)) (hc : (a, Od.dct kvs) ∈ ω.os) (hk : kitB "dict" t = some k) (hg : Gl X "isinstance" := by rfl) (hgx : Gl X x := by rfl)
    (hnx : x ≠ "__name__" := by decide) (hdx : (x == ("__debug__" : Str)) = false := by decide)
    (he : starEach [o, .Name x p2] X.env = (false, eval o X.env) :: starEach [.Name x p2] X.env := by rfl) (he2 : starEach [.Name x p2] X.env = (false, eval (.Name x p2) X.env) :: starEach [] X.env := by rfl) (hpl : (backTo pos (starEach [.Name x p2] X.env)).any (·.1) = false := by rfl) :
    PD X δ ω (.Call (.Name "isinstance" p) [o, .Name x p2] [] pos) (.bool k) := fun σ H rl Q q =>
  we (pe_callB call_isi hg hm (by decide +kernel) (pa_cons pe_w (pa_cons (pe_bltn (v := .ty t) hgx hmx hbx rfl hnx hdx) pa_nil he2) he) (he := he) (hpl := hpl)) (ho σ H rl _ fun v H1 s1 d1 => by
    have d1 : v = .ref a := d1
    subst d1
    obtain ⟨vs, g1, g2⟩ := (rl.mono s1).ro.ob a _ hc
    exact ⟨_, .ty t, _, _, k, rfl, .ty t, .base (.dK g1), kit_ty hk, q _ H1 s1 (.bl _)⟩)
/-- {k: v for y in iter}, iter a list that is told: what its making leaves -/
theorem dc_list {σ : L2.St} {H : Hp} {Q : VK} {wi : TI} (rl : Rl X.K H σ δ ω) {scope : Scope} {y : Str} {j : Nat} {items : List PyData} (l : List (Key × PyData)) (hw : ∀ R : It → Hp → Prop, (∀ J H2, Same H H2 → Wk X.K (Same H2) (hid (ads ω) H2) J items → R J H2) → wi σ H R) (hl : l.length = items.length) (nd : (l.map (·.1)).Nodup) (hz : l.length ≤ 1000)
    (hkx : ∀ (i : Nat) (d : PyData) (q : Key × PyData), items[i]? = some d → l[i]? = some q → ∀ D od (s : Shared) (H : Hp) (C : Addr) (cl : List (Str × Addr)) (fp : List Addr), PD (X.blk s H scope (compEnvC scope cl C X.env) fp) (δ.set j (some (.im d))) (omD ω D od) kx (keyD q.1))
    (hvx : ∀ (i : Nat) (d : PyData) (q : Key × PyData), items[i]? = some d → l[i]? = some q → ∀ D od (s : Shared) (H : Hp) (C : Addr) (cl : List (Str × Addr)) (fp : List Addr), PD (X.blk s H scope (compEnvC scope cl C X.env) fp) (δ.set j (some (.im d))) (omD ω D od) vx q.2)
    (k : ∀ D us H2, Same H H2 → H D = none → H2 D = some (.dK us) → KvP X.K (hid (ads (omD ω D (.dct (imK l)))) H2) (imK l) us → Q (.ref D) H2) :
    tDc wi (gName j) tYes (tBlk X scope kx) (tBlk X scope vx) (List.map (fun (x : Str × Nat) => x.snd) [(y, j)]) σ H Q := by
  refine hw _ fun J H1 s1 w => fun D hD => ?_
  have rl1 := rl.mono s1
  refine ⟨fun n m H2 => m = l.length - n ∧ n ≤ l.length ∧ Same H1 H2 ∧ ∃ us, H2 D = some (.dK us) ∧ KvP X.K (hid (ads (omD ω D (.dct (imK (l.take n))))) H2) (imK (l.take n)) us, ⟨l.length, by omega, Nat.zero_le _, same_new hD, [], upd_same, .nil⟩, ?_⟩
  rintro n m H2 ⟨em, hn, s2, us, hv, dv⟩
  obtain ⟨go, stop, yld⟩ := w H2 s2
  by_cases hlt : n < l.length
  · have el : l[n]? = some l[n] := List.getElem?_eq_getElem hlt
    refine .inr ⟨go n (by omega), fun H3 => Same H1 H3 ∧ ∃ us, H3 D = some (.dK us) ∧ KvP X.K (hid (ads (omD ω D (.dct (imK (l.take (n + 1)))))) H3) (imK (l.take (n + 1))) us, fun H3 ⟨s3, h3⟩ => ⟨l.length - (n + 1), by omega, rfl, hlt, s3, h3⟩, fun x H3 hy => ?_⟩
    obtain ⟨e3, d, ed, dx⟩ := yld n x H3 (by omega) hy
    subst e3
    have rl3 : Rl X.K H3 σ δ (omD ω D (.dct (imK (l.take n)))) := rl_new rl1 hD s2 ⟨us, hv, dv⟩
    have wj : (wipe σ (List.map (fun (x : Str × Nat) => x.snd) [(y, j)])).set j (some x) = σ.set j (some x) := by
      show (σ.set j none).set j (some x) = _
      rw [List.set_set]
    show wipe ((wipe σ [j]).set j (some x)) [j] = wipe σ [j] ∧ _
    refine ⟨?_, ?_⟩
    · show (((σ.set j none).set j (some x)).set j none) = σ.set j none
      rw [List.set_set, List.set_set]
    rw [wj]
    have rl4 := rl3.set (i := j) (x := .im d) (v := x) (dpm (hid_in hD s2) dx)
    unfold tYes
    refine iteT ?_
    refine fun s H0 C cl fp => hkx n d l[n] ed el D _ s H0 C cl fp _ _ rl4 _ fun yv H5 s5 d5 s' H0' C' cl' fp' => hvx n d l[n] ed el D _ s' H0' C' cl' fp' _ _ (rl4.mono s5) _ fun z H6 s6 d6 => ?_
    have d5 := dp_key d5
    subst d5
    have s36 : Same H3 H6 := s5.trans s6
    have lus : us.length ≤ 1000 := by
      have := paired_len dv
      rw [this, List.length_map, List.length_take]
      omega
    refine ⟨us, l[n].1, rfl, s36 D _ hv, small1000 (by omega), same_upd_new hD (s2.trans s36), _, upd_same, ?_⟩
    have nk : l[n].1 ∉ us.map (·.1) := fun w => by
      rw [kvp_keys dv, List.map_map] at w
      obtain ⟨q, hq, e⟩ := List.mem_map.mp w
      obtain ⟨b, hb⟩ := List.getElem?_of_mem hq
      rw [List.getElem?_take] at hb
      split at hb
      · rename_i lb
        have e3 : (l.map (·.1))[b]? = some l[n].1 := by
          rw [List.getElem?_map, hb]
          exact congrArg some e
        have e4 : (l.map (·.1))[n]? = some l[n].1 := by rw [List.getElem?_map, el]; rfl
        obtain ⟨l3, e3⟩ := List.getElem?_eq_some_iff.mp e3
        obtain ⟨l4, e4⟩ := List.getElem?_eq_some_iff.mp e4
        exact List.pairwise_iff_getElem.mp nd b n l3 l4 lb (e3.trans e4.symm)
      · cases hb
    rw [putK_none nk, List.take_add_one, el]
    show KvP _ _ ((l.take n ++ [l[n]]).map _) _
    rw [List.map_append]
    exact paired_snoc ⟨rfl, dpm hid_upd d6⟩ (kvp_mono hid_upd (kvp_mono (hid_same s36) dv))
  · have e : n = l.length := by omega
    subst e
    rw [List.take_length] at dv
    refine .inl ⟨by rw [hl]; exact stop, ?_⟩
    exact k D us H2 (s1.trans s2) (s1.free hD) hv dv
/-- as a value -/
theorem ex_dcL {scope : Scope} {y : Str} {j : Nat} {items : List PyData} (l : List (Key × PyData)) (hc : X.calm = true) (hN : X.N.Nodup) (hw : PWs X δ ω tg iter items) (hl : l.length = items.length) (nd : (l.map (·.1)).Nodup) (hz : l.length ≤ 1000)
    (ok : BlkOk X.N X.env.scope scope [(y, j)]) (hg : ∀ (s : Shared) (H : Hp) (C : Addr) (cl : List (Str × Addr)) (fp : List Addr), PG (X.blk s H scope (compEnvC scope cl C X.env) fp) tg (gName j))
    (hkx : ∀ (i : Nat) (d : PyData) (q : Key × PyData), items[i]? = some d → l[i]? = some q → ∀ D od (s : Shared) (H : Hp) (C : Addr) (cl : List (Str × Addr)) (fp : List Addr), PD (X.blk s H scope (compEnvC scope cl C X.env) fp) (δ.set j (some (.im d))) (omD ω D od) kx (keyD q.1))
    (hvx : ∀ (i : Nat) (d : PyData) (q : Key × PyData), items[i]? = some d → l[i]? = some q → ∀ D od (s : Shared) (H : Hp) (C : Addr) (cl : List (Str × Addr)) (fp : List Addr), PD (X.blk s H scope (compEnvC scope cl C X.env) fp) (δ.set j (some (.im d))) (omD ω D od) vx q.2)
    (hR : ∀ D, R (.rt (.ad D) (omD ω D (.dct (imK l))))) (hs : ∀ x, foldedSetIterable iter X.env x = pure x := by intro _; rfl) :
    EX X W T (.DictComp kx vx [⟨tg, iter, [], 0⟩] scope pos) δ ω R := fun σ H rl t Q q _ => by
  obtain ⟨wi, h1, h2⟩ := hw
  exact we (pe_dc (own := [(y, j)]) hc hN h1 ok hg (fun _ _ _ _ _ => pts_nil) (fun s H0 C cl fp => pe_blk s H0 C cl fp) (fun s H0 C cl fp => pe_blk s H0 C cl fp) hs) (dc_list rl l (fun R kk => h2 σ H rl R kk) hl nd hz hkx hvx fun D us H2 s n hv dv => q _ _ _ _ (hR D) (stp_new s n) (rl_new rl n s ⟨us, hv, dv⟩) rfl)
/-- a local gets such a dict, all on one row -/
theorem ps_setDc {i : Nat} {y : Str} {py spos : Pos} {scope : Scope} {own : List (Str × Nat)} {wi : TI} {g : TG} {tk tv : TE} (hc : X.calm = true) (hN : X.N.Nodup) (hy : X.N[i]? = some y) (loc : X.env.scope.names.lookup y = some .local)
    (hsw : swapsWith (.DictComp kx vx [⟨tg, iter, [], 0⟩] scope pos) (some (.Name y py)) spos.line X.env = pure true) (hi : PI X tg iter wi) (ok : BlkOk X.N X.env.scope scope own)
    (hg : ∀ (s : Shared) (H : Hp) (C : Addr) (cl : List (Str × Addr)) (fp : List Addr), PG (X.blk s H scope (compEnvC scope cl C X.env) fp) tg g) (hk : ∀ (s : Shared) (H : Hp) (C : Addr) (cl : List (Str × Addr)) (fp : List Addr), PE (X.blk s H scope (compEnvC scope cl C X.env) fp) kx tk)
    (he : ∀ (s : Shared) (H : Hp) (C : Addr) (cl : List (Str × Addr)) (fp : List Addr), PE (X.blk s H scope (compEnvC scope cl C X.env) fp) vx tv) (hs : ∀ x, foldedSetIterable iter X.env x = pure x) :
    PS X (.Assign [.Name y py] (.DictComp kx vx [⟨tg, iter, [], 0⟩] scope pos) spos) (tAsg (tDc wi g tYes tk tv (own.map (·.2))) (gName i)) := ⟨fun pins s σ H D I h => by
  have put : ∀ (L C : Addr) (t : Shared) (m : Str → Option Value) (G : Hp), Inv X pins σ G t → gName i (.ref L) σ G D.nx → t.heap.Ns C m → FpOk X pins G C → wpAny (model X.prog X.w) X.A (assign (.Name y py) X.env (.ref L)) (fun _ t' => ∃ m', t'.heap.Ns C m' ∧ ∀ h3, Heap.SameBut C t'.heap h3 → SP X pins D .next { t' with heap := h3 }) X.xe t := fun L C t m G J q n ⟨f0, f1, f2, f3, f4, f5⟩ =>
    wpAny_assign_Name (store_ok2 (v := V.ref L) J hN hy (.inl loc) rfl (fun t2 J2 ⟨a, sb, wa⟩ => ⟨m, n.sameBut sb (by
      rcases wa with z | z
      · exact z ▸ f1
      · exact fun e => f4 y a z e.symm), fun h3 sb3 => ⟨_, G, J2.turned (t' := t2.toks) (fun b o hb e => (sb3.2 b hb).trans e) f0 f1 f3 f4 f5, q⟩⟩) (.inr loc))
  rw [exec_Assign_Name_used _ _ _ _ hsw]
  exact wpAny_bind (wpAny_standAt (wpAny_bind (wpAny_bind (thn (dc_core (use := some (assign (.Name y py) X.env)) (Qf := fun _ t => SP X pins D .next t) hc hN I hi ok hg (fun _ _ _ _ _ => pts_nil) hk he hs h fun L C t m G J q n f => put L C t m G J q n f) fun _ t z => wpAny_pure (wpAny_pure z)))))⟩
/-- y = {k: v for y in iter}, a dict of one's own -/
theorem sd_dcL (i : Nat) {x : Str} {py cpos : Pos} {scope : Scope} {y : Str} {j : Nat} {items : List PyData} (l : List (Key × PyData)) (hc : X.calm = true) (hN : X.N.Nodup) (hw : PWs X δ ω tg iter items) (hl : l.length = items.length) (nd : (l.map (·.1)).Nodup) (hz : l.length ≤ 1000)
    (ok : BlkOk X.N X.env.scope scope [(y, j)]) (hg : ∀ (s : Shared) (H : Hp) (C : Addr) (cl : List (Str × Addr)) (fp : List Addr), PG (X.blk s H scope (compEnvC scope cl C X.env) fp) tg (gName j))
    (hkx : ∀ (i : Nat) (d : PyData) (q : Key × PyData), items[i]? = some d → l[i]? = some q → ∀ D od (s : Shared) (H : Hp) (C : Addr) (cl : List (Str × Addr)) (fp : List Addr), PD (X.blk s H scope (compEnvC scope cl C X.env) fp) (δ.set j (some (.im d))) (omD ω D od) kx (keyD q.1))
    (hvx : ∀ (i : Nat) (d : PyData) (q : Key × PyData), items[i]? = some d → l[i]? = some q → ∀ D od (s : Shared) (H : Hp) (C : Addr) (cl : List (Str × Addr)) (fp : List Addr), PD (X.blk s H scope (compEnvC scope cl C X.env) fp) (δ.set j (some (.im d))) (omD ω D od) vx q.2)
    (hsw : swapsWith (.DictComp kx vx [⟨tg, iter, [], 0⟩] scope cpos) (some (.Name x py)) pos.line X.env = pure true) (hR : ∀ D, SD X W T ss (δ.set i (some (.ad D))) (omD ω D (.dct (imK l))) R) (hy : X.N[i]? = some x := by rfl) (loc : X.env.scope.names.lookup x = some .local := by rfl) (hs : ∀ x, foldedSetIterable iter X.env x = pure x := by intro _; rfl) :
    SD X W T (.Assign [.Name x py] (.DictComp kx vx [⟨tg, iter, [], 0⟩] scope cpos) pos :: ss) δ ω R := by
  obtain ⟨wi, h1, h2⟩ := hw
  exact sd_cons fun σ H E rl t k => ws (ps_setDc (i := i) (own := [(y, j)]) hc hN hy loc hsw h1 ok hg (fun s H0 C cl fp => pe_blk s H0 C cl fp) (fun s H0 C cl fp => pe_blk s H0 C cl fp) hs) (dc_list rl l (fun R kk => h2 σ H rl R kk) hl nd hz hkx hvx fun D us H2 s n hv dv => k.nx _ _ _ H2 (hR D) (stp_new s n) ((rl_new (o := .dct (imK l)) rl n s ⟨us, hv, dv⟩).set (x := .ad D) (v := .ref D) rfl))
theorem sw_trueD {gs : List Comprehension} {scope : Scope} {py : Pos} {y : Str} {n : Nat} {env : Env} (hk : env.scope.kind = .function) (hy : env.scope.names.lookup y = some .local) (hl : (py.line == pos.line) = true) (ha : (scope.names.any fun (n, k) => n == y && (k == .local || k == .cell)) = false) : swapsWith (.DictComp kx vx gs scope pos) (some (.Name y py)) n env = pure true := by
  have e1 : env.kindOf y = some .local := hy
  have e2 : env.blockKind = .function := by rw [Env.blockKind, hk]; rfl
  simp only [swapsWith, e1, e2, ha, Expr.pos, hl]
  rfl
/-! ### [elt for a, b in a walk that makes tuples] -/
theorem pn_lcT2 {scope : Scope} {n1 n2 : Str} {j1 j2 : Nat} {kk : Nat} {tp : Pos} {items : List (List PyData)} {zs : List PyData} (hc : X.calm = true) (hN : X.N.Nodup) (hw : PWt X δ ω (.Tuple es kk tp) iter items) (h2 : ∀ ds ∈ items, ds.length = 2) (hl : zs.length = items.length) (hz : items.length ≤ 10000)
    (ok : BlkOk X.N X.env.scope scope [(n1, j1), (n2, j2)]) (hg : ∀ (s : Shared) (H : Hp) (C : Addr) (cl : List (Str × Addr)) (fp : List Addr), PG (X.blk s H scope (compEnvC scope cl C X.env) fp) (.Tuple es kk tp) (gTup X.K 2 (gAll [j1, j2])))
    (he : ∀ (i : Nat) (l m z : PyData), items[i]? = some [l, m] → zs[i]? = some z → ∀ D o (s : Shared) (H : Hp) (C : Addr) (cl : List (Str × Addr)) (fp : List Addr), PD (X.blk s H scope (compEnvC scope cl C X.env) fp) (((wipeD δ [j1, j2]).set j1 (some (.im l))).set j2 (some (.im m))) (omD ω D o) elt z)
    (hs : ∀ x, foldedSetIterable iter X.env x = pure x := by intro _; rfl) : PN X δ ω (.ListComp elt [⟨.Tuple es kk tp, iter, [], 0⟩] scope pos) zs := fun σ H rl Q k => by
  obtain ⟨wi, h1, hw⟩ := hw
  refine we (pe_lc (own := [(n1, j1), (n2, j2)]) hc hN h1 ok hg (fun _ _ _ _ _ => pts_nil) (fun s H0 C cl fp => pe_blk s H0 C cl fp) hs) ?_
  refine hw σ H rl _ fun J H1 s1 w => fun D hD => ?_
  have rl1 := rl.mono s1
  refine ⟨fun i m H2 => m = items.length - i ∧ i ≤ items.length ∧ Same H1 H2 ∧ ∃ vs, H2 D = some (.lst vs) ∧ DpAll X.K (hid (ads (omD ω D (.lst ((zs.take i).map .im)))) H2) vs (zs.take i), ⟨items.length, by omega, Nat.zero_le _, same_new hD, [], upd_same, by rw [List.take_zero]; exact .nil⟩, ?_⟩
  rintro i m H2 ⟨em, hi, s2, vs, hv, dv⟩
  obtain ⟨go, stop, yld⟩ := w [] H2 (ke_same ((hid_same s2).trans hid_sub))
  by_cases hlt : i < items.length
  · have ez : zs[i]? = some zs[i] := List.getElem?_eq_getElem (by omega)
    refine .inr ⟨go i hlt, fun H3 => Same H1 H3 ∧ ∃ vs, H3 D = some (.lst vs) ∧ DpAll X.K (hid (ads (omD ω D (.lst ((zs.take (i + 1)).map .im)))) H3) vs (zs.take (i + 1)), fun H3 ⟨s3, h3⟩ => ⟨items.length - (i + 1), by omega, rfl, hlt, s3, h3⟩, fun x H3 hy => ?_⟩
    obtain ⟨T1, us, ds, rfl, n1, rfl, ed, du⟩ := yld i x H3 hlt hy
    have l2 := h2 ds (List.mem_of_getElem? ed)
    match ds, l2, du, ed with
    | [x1, x2], _, du, ed =>
      cases du with
      | cons c3 c4 =>
        cases c4 with
        | cons c5 c6 =>
          cases c6
          rename_i w1 w2
          have sn : Same H2 (upd H2 T1 (.tup [w1, w2])) := same_new n1
          refine ⟨T1, [w1, w2], rfl, SqT.of upd_same, rfl, ?_⟩
          refine ⟨w1, _, rfl, ?_⟩
          refine ⟨w2, [], rfl, ?_⟩
          refine ⟨rfl, ?_, ?_⟩
          · rw [wipe_mem (by simp), wipe_mem (by simp), wipe_wipe (fun v h => h)]
          · have rl3 := (rl1.omD hD s2 hv dv).mono sn
            have rl4 := rl_wipe rl3 [j1, j2]
            have up : Same (hid (ads ω) H1) (hid (ads (omD ω D (.lst ((zs.take i).map .im)))) (upd H2 T1 (.tup [w1, w2]))) := (hid_in (ω := ω) (o := .lst ((zs.take i).map .im)) hD s2).trans (hid_same sn)
            have rl5 := (rl4.set (i := j1) (x := .im x1) (v := w1) (dpm up c3)).set (i := j2) (x := .im x2) (v := w2) (dpm up c5)
            intro s H0 C cl fp
            refine he i x1 x2 zs[i] ed ez D _ s H0 C cl fp _ _ rl5 _ fun v H4 s4 d4 => ⟨vs, s4 D _ (sn D _ hv), ?_, same_upd_new hD (s2.trans (sn.trans s4)), vs ++ [v], upd_same, ?_⟩
            · rw [dpa_len dv, List.length_take]
              refine Nat.lt_of_le_of_lt (Nat.min_le_left _ _) (Nat.lt_of_lt_of_le hlt (Nat.le_trans hz ?_))
              rw [sizeLine_eq]
              decide
            · rw [List.take_add_one, ez]
              exact dpa_app (dpam hid_upd (dpam (hid_same (sn.trans s4)) dv)) (.cons (dpm hid_upd d4) .nil)
  · have e : i = items.length := by omega
    subst e
    refine .inl ⟨stop, ?_⟩
    rw [List.take_of_length_le (by omega)] at dv
    exact k D vs H2 (s1.trans s2) (s1.free hD) hv (dpam (hid_more fun b h => ads_omD.mpr (List.mem_cons.mp h)) dv)
/-! ### a tuple of what is told -/
theorem im_pair {K : PySem.W.Frag} {H : Hp} : ∀ {ds : List PyData} {vs : List V}, Paired (SdV K H) (ds.map .im) vs → DpAll K H vs ds := fun h => dpa_im h
theorem ze_tup {k2 : Nat} {Z : PyData → Om → Prop} (h : AX X T δ ω es (fun rs ω' => ∃ ds : List PyData, rs = ds.map .im ∧ ds.length ≤ 1000 ∧ Z (.tuple ds) ω')) : ZE X T δ ω (.Tuple es k2 pos) Z := fun σ H rl t Q k =>
  we (pe_tup pa_w) (h σ H rl t _ fun rs ω' vs H1 z st l pr => by
    obtain ⟨ds, rfl, hz, z⟩ := z
    have dv := im_pair pr
    refine ⟨Nat.le_of_lt (small1000 (by rw [dpa_len dv]; exact hz)), fun q hq => ?_⟩
    have sm : Same H1 (upd H1 q (.tup vs)) := same_new hq
    exact k _ _ _ _ z (st.trans (.of sm)) (l.mono sm) (.tup (SqT.of (hid_of (new_out l.ro.there hq) upd_same)) (dpam (hid_same sm) dv)))
theorem AX.perm {Z : List Sd → Om → Prop} {ps : List Addr} {os os' : Os} (hp : os.Perm os') (h : AX X T δ ⟨ps, os'⟩ es Z) : AX X T δ ⟨ps, os⟩ es Z := fun σ H rl t Q k =>
  h σ H (rl.permO hp) t Q fun rs ω' vs H' z st l pr => k rs ω' vs H' z (stp_permL hp st) l pr
/-- a call of a def that is handed own objects, its value data -/
theorem ax_callG {fr : FrG} {k : Nat} {x : Str} {a' : Expr} {es' : List Expr} {rs : List Sd} {Z : List Sd → Om → Prop} {Rr : Rg → Os → Prop} {ps : List Addr} (os rest : Os) (G : GOk X.prog X.w X.K X.mg X.base k x fr) (hr : Room k X.A) (ha : PSs X δ ⟨ps, os ++ rest⟩ (a' :: es') rs) (hf : fr os rs Rr)
    (hR : ∀ r os', Rr r os' → ∃ r', r = .ok r' ∧ AX X T δ ⟨ps, os' ++ rest⟩ es (fun rs ω'' => Z (r' :: rs) ω'')) (hs : starEach (.Call (.Name x p) (a' :: es') [] pos :: es) X.env = (false, eval (.Call (.Name x p) (a' :: es') [] pos) X.env) :: starEach es X.env := by rfl) (hg : Gl X x := by rfl) (hdb : (x == ("__debug__" : Str)) = false := by decide)
    (he : starEach (a' :: es') X.env = (false, eval a' X.env) :: starEach es' X.env := by rfl) (hpl : (backTo pos (starEach es' X.env)).any (·.1) = false := by rfl) : AX X T δ ⟨ps, os ++ rest⟩ (.Call (.Name x p) (a' :: es') [] pos :: es) Z :=
  ax_yx (yx_callG os rest G hr takesF ha hf hR hg hdb he hpl) hs
end
end FP

namespace FP
open PySem PySem.Spec PyProof.Rows L2 HotX L2H
/-! ### two dicts of one's own, whose values are data, are compared: both have the same -/
def rNeDD (K : PySem.W.Frag) : R2 := fun x y H Q => ∃ (a b : Addr) (ks ls : List (Key × V)), (x = .ref a ∧ y = .ref b ∧ H a = some (.dK ks) ∧ H b = some (.dK ls) ∧ ks.length = ls.length) ∧
  (∀ p ∈ ks, ∃ v d, valV ls p.1 = some v ∧ Dp K H p.2 d ∧ Dp K H v d ∧ SeqAt.shaped d = true ∧ PyData.eqv d d = true) ∧ Q (.bl false) H
theorem hits_data {X : Cx} {pins : List (Addr × Obj)} {σ : L2.St} {H : Hp} {s : Shared} (I : Inv X pins σ H s) {A : Around} (hu : A.units + 64 < cLine) {ls : List (Key × V)} {vb : List (Key × Value)} (rb : KV ls vb) : ∀ {ks : List (Key × V)} {va : List (Key × Value)}, KV ks va →
    (∀ p ∈ ks, ∃ v d, valV ls p.1 = some v ∧ Dp X.K H p.2 d ∧ Dp X.K H v d ∧ SeqAt.shaped d = true ∧ PyData.eqv d d = true) → PySem.W.KeqHits A s vb va true
  | _, _, .nil, _ => .nil
  | p :: ks, (k, u) :: va, .cons h t, hp => by
    obtain ⟨v, d, e1, e2, e3, e4, e5⟩ := hp p List.mem_cons_self
    have rr : RelO (some v) (valueAt vb p.1) := by rw [← e1]; exact rb.val p.1
    obtain ⟨y, hy, ry⟩ := rr.some_of
    have h1 : p.1 = k := h.1
    rw [h1] at hy
    obtain ⟨as, r1⟩ := Dp.reads I d p.2 u e2 h.2
    obtain ⟨bs, r2⟩ := Dp.reads I d v y e3 ry
    have eq := SeqAt.eqAt_reads d d A s u y as bs r1 r2 (SeqAt.canLay_of_shaped e4) (SeqAt.canLay_of_shaped e4) (SeqAt.room_of_shaped e4 hu)
    rw [e5] at eq
    exact PySem.W.KeqHits.hit (e := true) (b := true) hy eq (hits_data I hu rb t fun q hq => hp q (List.mem_cons_of_mem _ hq))
theorem op_neDD {X : Cx} (hu : X.A.units + 65 < cLine) : OpR X (compareOp .NotEq) (rNeDD X.K) := by
  rintro pins s σ H x y v u Q I rx ry ⟨a, b, ks, ls, ⟨rfl, rfl, ea, eb, hl⟩, hp, q⟩
  obtain rfl : v = Value.ref a := rx
  obtain rfl : u = Value.ref b := ry
  obtain ⟨_, ya, va, ra, da⟩ := (show ObjOk X.prog X.w H s.heap a (.dK ks) from I.hok a _ ea)
  obtain ⟨_, yb, vb, rb, db⟩ := (show ObjOk X.prog X.w H s.heap b (.dK ls) from I.hok b _ eb)
  have le : va.length = vb.length := by
    have h1 := ra.length
    have h2 := rb.length
    omega
  refine PySem.W.keq_ne (knd := mixKind X.prog X.w) (r := true) ya yb da db (by omega) (fun _ => hits_data I (by show X.A.units + 1 + 64 < cLine; omega) rb ra hp) ?_
  exact ⟨.bl false, H, I, by show Value.bool (!(va.length == vb.length && true)) = Value.bool false; simp [le], q⟩
/-- the operator at two values, among one's own objects -/
def RS (K : PySem.W.Frag) (ω : Om) (r : R2) (ra rb : Sd) (k : Bool) : Prop := ∀ (x y : V) (H : Hp), Ro K H ω → SdV K (hid (ads ω) H) ra x → SdV K (hid (ads ω) H) rb y → ∀ Q : VK, Q (.bl k) H → r x y H Q
theorem kvp_mem {K : PySem.W.Frag} {H : Hp} : ∀ {l : List (Key × PyData)} {vs : List (Key × V)} {p : Key × V}, KvP K H (imK l) vs → p ∈ vs → ∃ q ∈ l, q.1 = p.1 ∧ Dp K H p.2 q.2
  | [], _, _, .nil, h => by cases h
  | q :: l, _, p, .cons h t, hp => by
    rcases List.mem_cons.mp hp with e | e
    · subst e
      exact ⟨q, List.mem_cons_self, h.1, h.2⟩
    · obtain ⟨q2, h2, e2⟩ := kvp_mem t e
      exact ⟨q2, List.mem_cons_of_mem _ h2, e2⟩
theorem valS_imK : ∀ {l : List (Key × PyData)} {q : Key × PyData}, (l.map (·.1)).Nodup → q ∈ l → valS (imK l) q.1 = some (.im q.2)
  | [], _, _, h => by cases h
  | p :: l, q, nd, h => by
    unfold valS imK
    rw [List.map_cons, List.find?_cons]
    obtain ⟨n1, n2⟩ := List.nodup_cons.mp (show ((p.1 :: l.map (·.1)) : List Key).Nodup from nd)
    rcases List.mem_cons.mp h with e | e
    · subst e
      simp
    · have c : p.1 ≠ q.1 := fun e2 => n1 (List.mem_map.mpr ⟨q, e, e2.symm⟩)
      have ih := valS_imK n2 e
      unfold valS imK at ih
      simp only [decide_eq_false c]
      exact ih
theorem rs_neDD {K : PySem.W.Frag} {ω : Om} {a b : Addr} {l : List (Key × PyData)} (ha : (a, Od.dct (imK l)) ∈ ω.os) (hb : (b, Od.dct (imK l)) ∈ ω.os) (nd : (l.map (·.1)).Nodup) (hs : ∀ q ∈ l, Shp 60 q.2) : RS K ω (rNeDD K) (.ad a) (.ad b) false := fun x y H ro hx hy Q q => by
  obtain rfl : x = .ref a := hx
  obtain rfl : y = .ref b := hy
  obtain ⟨vs, g1, g2⟩ := ro.ob a _ ha
  obtain ⟨us, k1, k2⟩ := ro.ob b _ hb
  refine ⟨a, b, vs, us, ⟨rfl, rfl, g1, k1, by rw [paired_len g2, paired_len k2]⟩, fun p hp => ?_, q⟩
  obtain ⟨r, hr, e1, e2⟩ := kvp_mem g2 hp
  obtain ⟨v, e3, e4⟩ := kvp_get k2 (valS_imK nd hr)
  rw [e1] at e3
  exact ⟨v, r.2, e3, dpm hid_sub e2, dpm hid_sub e4, (hs r hr).ok (by decide), (hs r hr).refl⟩
section
variable {X : Cx} {W : WX} {T : List (Addr × Str)} {δ : De} {ω : Om} {a b e : Expr} {pos p : Pos}
/-- a comparison whose sides may be made, and may be one's own -/
theorem zt_cmpX {op : CmpOp} {r : R2} {Z : Bool → Om → Prop} (ho : OpR X (compareOp op) r) (ha : YX X (fun _ _ _ _ => False) T δ ω a (fun r1 ω1 => ∃ ra, r1 = .ok ra ∧ YX X (fun _ _ _ _ => False) T δ ω1 b (fun r2 ω2 => ∃ rb, r2 = .ok rb ∧ ∃ k, RS X.K ω2 r ra rb k ∧ Z k ω2))) (hm : behindInMarks op b = false) : ZT X T δ ω (.Compare a [op] [b] pos) Z := fun σ H rl t Q q =>
  wt (pt_cmpR ho pe_w pe_w hm) (ha σ H rl t _ (fun r1 ω1 x H1 z1 s1 l1 d1 => by
    obtain ⟨ra, e1, z1⟩ := z1
    cases e1
    exact z1 σ H1 l1 (s1.tab t) _ (fun r2 ω2 y H2 z2 s2 l2 d2 => by
      obtain ⟨rb, e2, k, rs, z⟩ := z2
      cases e2
      exact rs x y H2 l2.ro (stp_sd s2 d1) d2 _ ⟨k, rfl, q k ω2 H2 z (s1.trans s2) l2⟩) (fun _ _ _ z2 _ _ => by
        obtain ⟨_, e, _⟩ := z2
        cases e)) (fun _ _ _ z1 _ _ => by
      obtain ⟨_, e, _⟩ := z1
      cases e))
theorem YX.exF {R : Out → Prop} {Z : Sd → Om → Prop} (h : YX X (fun _ _ _ _ => False) T δ ω e (fun r ω' => ∃ r', r = .ok r' ∧ Z r' ω')) (hz : ∀ r' ω', Z r' ω' → R (.rt r' ω')) : EX X W T e δ ω R := fun σ H rl t Q q _ =>
  h σ H rl t Q (fun r ω' v H' z s l d => by
    obtain ⟨r', e, z⟩ := z
    cases e
    exact q _ ω' v H' (hz _ _ z) s l d) (fun Z ω' H' z _ _ => by
    obtain ⟨_, e, _⟩ := z
    cases e)
theorem PS1.yx {r : Sd} {Z : Rg → Om → Prop} (h : PS1 X δ ω e r) (z : Z (.ok r) ω) : YX X W T δ ω e Z := fun σ H rl t Q q _ => h σ H rl _ fun v H1 s d => q r ω v H1 z (.of s) (rl.mono s) d
end
end FP

namespace FP
open PySem PySem.Spec PyProof.Rows L2 HotX L2H
/-! ### a dict of one's own: its keys sorted, a key taken out -/
section
variable {X : Cx} {W : WX} {T : List (Addr × Str)} {δ : De} {ω : Om} {o b : Expr} {pos p ap cp : Pos} {z : Addr} {kvs : List (Key × Sd)}
/-- sorted(o), all keys texts -/
theorem ze_sortedK {ks : List Str} {Z : PyData → Om → Prop} (hc : X.calm = true) (hm : X.mg "sorted" = none) (ho : PS1 X δ ω o (.ad z)) (hd : (z, Od.dct kvs) ∈ ω.os) (hk : kvs.map (·.1) = ks.map Sum.inr) (h64 : ks.length < 64) (hz : ∀ ys : List Str, ys.Perm ks → Z (.list (ys.map .str)) ω)
    (hg : Gl X "sorted" := by rfl) (he : starEach [o] X.env = (false, eval o X.env) :: starEach [] X.env := by rfl) : ZE X T δ ω (.Call (.Name "sorted" p) [o] [] pos) Z := fun σ H rl t Q q =>
  we (pe_callB (call_sortedD hc) hg hm (by decide +kernel) (pa_cons pe_w pa_nil he) (he := he)) (ho σ H rl _ fun v H1 s1 d1 => by
    have d1 : v = .ref z := d1
    subst d1
    have l1 := rl.mono s1
    obtain ⟨vs, g1, g2⟩ := l1.ro.ob z _ hd
    refine ⟨z, vs, ks, rfl, .of g1, by rw [kvp_keys g2, hk], h64, fun ys a hp _ hn => ?_⟩
    have sn : Same H1 (upd H1 a (.lst (ys.map V.str))) := same_new hn
    have dv : ∀ ys : List Str, DpAll X.K (hid (ads ω) (upd H1 a (.lst (ys.map V.str)))) (ys.map V.str) (ys.map .str) := fun ys => by
      generalize hid (ads ω) _ = G
      induction ys with
      | nil => exact .nil
      | cons y ys ih => exact .cons (.str y) ih
    exact q _ ω _ _ (hz ys hp) (.of (s1.trans sn)) (l1.mono sn) (.lst (SqL.of (hid_of (new_out l1.ro.there hn) upd_same)) (by
      have := dv ys
      exact this)))
/-- o.pop(b) -/
theorem yx_dpop {j : Nat} {k : Key} {r : Sd} {Z : Rg → Om → Prop} (ho : PS1 X δ ω o (.ad z)) (hj : ω.os[j]? = some (z, .dct kvs)) (hb : PD X δ ω b (keyD k)) (hk : valS kvs k = some r) (hz : Z (.ok r) (putO ω j (z, .dct (delS kvs k)))) (m : M1 X o "pop" ap b cp := by exact ⟨rfl, rfl, rfl, rfl⟩) :
    YX X W T δ ω (.Call (.Attribute o "pop" ap) [b] [] cp) Z := fun σ H rl t Q q _ =>
  we (pe_dpop1 pe_w pe_w m) (ho σ H rl _ fun v H1 s1 d1 => by
    have d1 : v = .ref z := d1
    subst d1
    obtain ⟨vs0, g0, _⟩ := (rl.mono s1).ro.ob z _ (at_mem hj)
    refine ⟨z, rfl, .inl ⟨vs0, .of g0⟩, hb σ H1 (rl.mono s1) _ fun y H2 s2 d2 => ?_⟩
    have d2 := dp_key d2
    subst d2
    have l2 := rl.mono (s1.trans s2)
    obtain ⟨vs, g1, g2⟩ := l2.ro.ob z _ (at_mem hj)
    obtain ⟨u, f1, f2⟩ := kvp_get g2 hk
    refine ⟨vs, k, u, g1, rfl, f1, ?_⟩
    have am : z ∈ ads ω := List.mem_append_right _ (List.mem_map.mpr ⟨_, at_mem hj, rfl⟩)
    have hh : Same (hid (ads ω) H2) (hid (ads ω) (upd H2 z (.dK (dropK vs k)))) := fun bb x h => by
      obtain ⟨n, e⟩ := hid_out h
      exact hid_of n (by rw [upd_ne (fun w => n (by rw [w]; exact am))]; exact e)
    obtain ⟨st, l3⟩ := own_at (T := T) (o' := .dct (delS kvs k)) (H' := upd H2 z (.dK (dropK vs k))) l2 hj g1 (fun _ w => by cases w) (fun _ _ w => by unfold LamX.CodeO at w; cases w) (fun bb x nb h => by rw [upd_ne nb]; exact h) ⟨_, upd_same, kvp_mono hh (kvp_del g2)⟩
    exact q r _ u _ hz ((Stp.of (s1.trans s2)).trans st) l3 (by rw [ads_put hj]; exact sdv_mono hh f2))
end
theorem delS_imK (l : List (Key × PyData)) (k : Key) : delS (imK l) k = imK (l.filter fun q => decide (q.1 ≠ k)) := by
  unfold delS imK
  rw [List.filter_map]
  rfl
end FP

namespace FP
open PySem PySem.Spec PyProof.Rows L2 HotX L2H
/-! ### texts and numbers, texts and words -/
section
variable {X : Cx} {W : WX} {T : List (Addr × Str)} {δ : De} {ω : Om} {a b o : Expr} {pos p apos : Pos} {z y : Str} {n : Int}
/-- str(number) -/
theorem pd_strI (h : PD X δ ω a (.int n)) (hm : X.mg "str" = none) (hz : n.natAbs.log2 < 1920) (hg : Gl X "str" := by rfl) (he : starEach [a] X.env = (false, eval a X.env) :: starEach [] X.env := by rfl) : PD X δ ω (.Call (.Name "str" p) [a] [] pos) (.str (Str.ofString (toString n))) := fun σ H rl Q q =>
  we (pe_callTy call_str_int hg hm (by decide +kernel) (pa_cons pe_w pa_nil he) (he := he)) (h σ H rl _ fun v H1 s1 d1 => by
    cases d1
    exact ⟨n, rfl, hz, q _ H1 s1 (.str _)⟩)
/-- int(text) -/
theorem pd_intS (h : PD X δ ω a (.str z)) (hm : X.mg "int" = none) (hn : intText? z = some n) (hz : z.length ≤ 640) (hg : Gl X "int" := by rfl) (he : starEach [a] X.env = (false, eval a X.env) :: starEach [] X.env := by rfl) : PD X δ ω (.Call (.Name "int" p) [a] [] pos) (.int n) := fun σ H rl Q q =>
  we (pe_callTy call_int_str hg hm (by decide +kernel) (pa_cons pe_w pa_nil he) (he := he)) (h σ H rl _ fun v H1 s1 d1 => by
    cases d1
    exact ⟨z, n, rfl, hn, hz, q _ H1 s1 (.int _)⟩)
/-- text.removeprefix(text) -/
theorem pd_rmpre (ha : PD X δ ω a (.str z)) (hb : PD X δ ω b (.str y)) (hz : z.length ≤ 100000) (hs : starEach [b] X.env = [(false, eval b X.env)] := by rfl)
    (hbase : attributeBase a "removeprefix" X.env (eval a X.env) = eval a X.env := by rfl) (hline : (apos.endLine == pos.line) = true := by rfl) : PD X δ ω (.Call (.Attribute a "removeprefix" apos) [b] [] pos) (.str (Txt.removeprefix z y)) := fun σ H rl Q k =>
  we (pe_m1 F.slot_str_removeprefix F.type_str_removeprefix mt_removeprefix pe_w pe_w hs hbase hline) (ha σ H rl _ fun v H1 s1 d1 => by
    cases d1
    exact ⟨⟨_, rfl⟩, hb σ H1 (rl.mono s1) _ fun u H2 s2 d2 => by
      cases d2
      exact ⟨z, y, rfl, rfl, Nat.le_trans hz (by decide), k _ H2 (s1.trans s2) (.str _)⟩⟩)
theorem dpa_strsD {K : PySem.W.Frag} {H : Hp} : ∀ ys : List Str, DpAll K H (ys.map V.str) (ys.map PyData.str)
  | [] => .nil
  | y :: ys => .cons (.str y) (dpa_strsD ys)
/-- text.split(text) -/
theorem pn_split (ha : PD X δ ω a (.str z)) (hb : PD X δ ω b (.str y)) (hy : (y.length == 0) = false) (hz : z.length ≤ 100000) (hs : starEach [b] X.env = [(false, eval b X.env)] := by rfl)
    (hbase : attributeBase a "split" X.env (eval a X.env) = eval a X.env := by rfl) (hline : (apos.endLine == pos.line) = true := by rfl) : PN X δ ω (.Call (.Attribute a "split" apos) [b] [] pos) ((Txt.split z y).map .str) := fun σ H rl Q k =>
  we (pe_split pe_w pe_w hs hbase hline) (ha σ H rl _ fun v H1 s1 d1 => by
    cases d1
    exact ⟨⟨_, rfl⟩, hb σ H1 (rl.mono s1) _ fun u H2 s2 d2 => by
      cases d2
      exact ⟨z, y, rfl, rfl, hy, (show z.length + 2 ≤ 2 ^ 24 by omega), fun l hl => k l _ _ ((s1.trans s2).trans (same_new hl)) ((s1.trans s2).free hl) upd_same (dpa_strsD _)⟩⟩)
end
/-! ### what is between blanks -/
/-- texts that lack a sign, put together with it between, are told by what comes of them -/
theorem app_cut {c : Nat} : ∀ {a b r s : List Nat}, c ∉ a → c ∉ b → a ++ c :: r = b ++ c :: s → a = b ∧ r = s
  | [], [], _, _, _, _, e => ⟨rfl, (List.cons.inj e).2⟩
  | [], y :: b, _, _, _, h, e => absurd (by rw [(List.cons.inj e).1]; exact List.mem_cons_self) h
  | x :: a, [], _, _, h, _, e => absurd (by rw [← (List.cons.inj e).1]; exact List.mem_cons_self) h
  | x :: a, y :: b, r, s, h, h2, e => by
    have e2 := List.cons.inj e
    obtain ⟨q1, q2⟩ := app_cut (fun q => h (List.mem_cons_of_mem _ q)) (fun q => h2 (List.mem_cons_of_mem _ q)) e2.2
    exact ⟨by rw [e2.1, q1], q2⟩
def joinL (c : Nat) : List Str → List Nat
  | [] => []
  | [x] => x.cps.toList
  | x :: y :: r => x.cps.toList ++ c :: joinL c (y :: r)
theorem join_cps (c : Nat) : ∀ ws : List Str, (Str.join ⟨#[c]⟩ ws).cps.toList = joinL c ws
  | [] => rfl
  | [x] => rfl
  | x :: y :: r => by
    show (x.cps ++ #[c] ++ (Str.join ⟨#[c]⟩ (y :: r)).cps).toList = _
    rw [Array.toList_append, Array.toList_append, join_cps c (y :: r), List.append_assoc]
    rfl
theorem joinL_inj {c : Nat} : ∀ {ws vs : List Str}, ws ≠ [] → vs ≠ [] → (∀ w ∈ ws, c ∉ w.cps.toList) → (∀ w ∈ vs, c ∉ w.cps.toList) → joinL c ws = joinL c vs → ws = vs
  | [], _, h, _, _, _, _ => absurd rfl h
  | _, [], _, h, _, _, _ => absurd rfl h
  | [x], [y], _, _, _, _, e => by
    have e : x.cps.toList = y.cps.toList := e
    have e2 : x.cps = y.cps := Array.toList_inj.mp e
    cases x
    cases y
    cases e2
    rfl
  | [x], y :: z :: r, _, _, h1, h2, e => by
    have e : x.cps.toList = y.cps.toList ++ c :: joinL c (z :: r) := e
    exact absurd (by rw [e]; simp) (h1 x List.mem_cons_self)
  | x :: z :: r, [y], _, _, h1, h2, e => by
    have e : x.cps.toList ++ c :: joinL c (z :: r) = y.cps.toList := e
    exact absurd (by rw [← e]; simp) (h2 y List.mem_cons_self)
  | x :: x2 :: r, y :: y2 :: s, _, _, h1, h2, e => by
    have e : x.cps.toList ++ c :: joinL c (x2 :: r) = y.cps.toList ++ c :: joinL c (y2 :: s) := e
    obtain ⟨q1, q2⟩ := app_cut (h1 x List.mem_cons_self) (h2 y List.mem_cons_self) e
    have q3 := joinL_inj (ws := x2 :: r) (vs := y2 :: s) (by simp) (by simp) (fun w h => h1 w (List.mem_cons_of_mem _ h)) (fun w h => h2 w (List.mem_cons_of_mem _ h)) q2
    have e2 : x.cps = y.cps := Array.toList_inj.mp q1
    rw [q3]
    cases x
    cases y
    cases e2
    rfl
theorem split_ne (z : Str) (c : Nat) : Txt.split z ⟨#[c]⟩ ≠ [] := fun e => by
  unfold Txt.split at e
  split at e
  · cases e
  · split at e
    · cases e
    · have h := congrArg List.length e
      rw [length_partsBetween] at h
      simp at h
theorem split_join {c : Nat} {ws : List Str} (h0 : ws ≠ []) (h : ∀ w ∈ ws, c ∉ w.cps.toList) : Txt.split (Str.join ⟨#[c]⟩ ws) ⟨#[c]⟩ = ws :=
  joinL_inj (split_ne _ _) h0 (fun w hw => StrLaws.split_free _ c w hw) h (by rw [← join_cps, ← join_cps, StrLaws.join_split])
theorem join_txt (y : Str) (ws : List Str) : Txt.join y ws = Str.join y ws := by
  show Builtin.Str.glued y ws = _
  exact StrLaws.glued_eq_join _ _
end FP

namespace FP
open PySem PySem.Spec PyProof.Rows L2 HotX L2H
/-! ### two values, one of which raises -/
section
variable {X : Cx} {W : WX} {T : List (Addr × Str)} {δ : De} {ω : Om} {a b : Expr} {ss : List Stmt} {pos : Pos} {R : Out → Prop} {Z : Addr} {d : PyData}
theorem sd_parE1 (i j : Nat) {x y : Str} {px py pt pt2 : Pos} {kt k2 : Nat} (hc : X.calm = true) (hN : X.N.Nodup) (ha : PR X W δ ω a (.er Z)) (hR : R (.ex Z ω))
    (hw : swappedStores [.Tuple [.Name x px, .Name y py] kt pt] (.Tuple [a, b] k2 pt2) X.env = pure (some [x, y])) (hij : i ≠ j := by decide) (hi : X.N[i]? = some x := by rfl) (hj : X.N[j]? = some y := by rfl) (hx : X.env.scope.names.lookup x = some .local := by rfl) (hy : X.env.scope.names.lookup y = some .local := by rfl)
    (hs : swapsWithSole [.Tuple [.Name x px, .Name y py] kt pt] (.Tuple [a, b] k2 pt2) pos.line X.env = pure false := by rfl) (he : starEach [a, b] X.env = (false, eval a X.env) :: starEach [b] X.env := by rfl) : SD X W T (.Assign [.Tuple [.Name x px, .Name y py] kt pt] (.Tuple [a, b] k2 pt2) pos :: ss) δ ω R :=
  sd_cons fun σ H D rl t k => ws (ps_par hc hN hi hj hij hx hy pa_w hw hs) (wa (pa_cons pe_w pa_w he) (ha σ H rl _ fun H' s => k.ex Z ω σ H' hR (.of s) (rl.mono s).ro))
theorem sd_parE2 (i j : Nat) {x y : Str} {px py pt pt2 : Pos} {kt k2 : Nat} (hc : X.calm = true) (hN : X.N.Nodup) (ha : PD X δ ω a d) (hb : PR X W δ ω b (.er Z)) (hR : R (.ex Z ω))
    (hw : swappedStores [.Tuple [.Name x px, .Name y py] kt pt] (.Tuple [a, b] k2 pt2) X.env = pure (some [x, y])) (hij : i ≠ j := by decide) (hi : X.N[i]? = some x := by rfl) (hj : X.N[j]? = some y := by rfl) (hx : X.env.scope.names.lookup x = some .local := by rfl) (hy : X.env.scope.names.lookup y = some .local := by rfl)
    (hs : swapsWithSole [.Tuple [.Name x px, .Name y py] kt pt] (.Tuple [a, b] k2 pt2) pos.line X.env = pure false := by rfl) (he : starEach [a, b] X.env = (false, eval a X.env) :: starEach [b] X.env := by rfl) (he2 : starEach [b] X.env = (false, eval b X.env) :: starEach [] X.env := by rfl) : SD X W T (.Assign [.Tuple [.Name x px, .Name y py] kt pt] (.Tuple [a, b] k2 pt2) pos :: ss) δ ω R :=
  sd_cons fun σ H D rl t k => ws (ps_par hc hN hi hj hij hx hy pa_w hw hs) (wa (pa_cons pe_w pa_w he) (ha σ H rl _ fun v H1 s1 d1 => wa (pa_cons pe_w pa_nil he2) (hb σ H1 (rl.mono s1) _ fun H' s => k.ex Z ω σ H' hR (.of (s1.trans s)) ((rl.mono s1).mono s).ro)))
end
/-! ### the dict at a has no names but these -/
def ndB (K : PySem.W.Frag) (a : Addr) (zs : List Str) : Bool := match K.lookup a with
  | some ⟨_, _, .dict es _, _⟩ => es.toList.all fun e => !e.refKey && (match e.key with | .str s _ => zs.any (· == s) | _ => true)
  | _ => false
theorem ndB_ok {K : PySem.W.Frag} {a : Addr} {zs : List Str} {z : Str} (c : ndB K a zs = true) (h : z ∉ zs) : PySem.W.nsIn K a z = some none := by
  unfold ndB at c
  unfold PySem.W.nsIn
  split at c
  · rename_i es n q e
    rw [e]
    rw [List.all_eq_true] at c
    have h1 : es.toList.find? (·.key.isStr z) = none := List.find?_eq_none.mpr fun x hx hs => by
      have cx := (Bool.and_eq_true _ _ ▸ c x hx).2
      revert hs cx
      cases x.key <;> intro hs cx <;> first | cases hs | skip
      · rename_i s t
        have e1 : s = z := beq_iff_eq.mp hs
        subst e1
        obtain ⟨y, hy, e2⟩ := List.any_eq_true.mp cx
        exact h (by rw [← beq_iff_eq.mp e2]; exact hy)
    have h2 : es.toList.any (·.refKey) = false := List.any_eq_false.mpr fun x hx => by
      have cx := (Bool.and_eq_true _ _ ▸ c x hx).1
      simpa using cx
    show (match es.toList.find? (·.key.isStr z) with | some e => some (some e.val) | none => if es.toList.any (·.refKey) then none else some none) = some none
    rw [h1, h2]
    rfl
  · cases c
end FP

namespace FP
open PySem PySem.Spec PyProof.Rows L2 HotX L2H
section
variable {X : Cx} {W : WX} {T : List (Addr × Str)} {δ : De} {ω : Om} {a b c e : Expr} {es : List Expr} {d : PyData} {ds : List PyData} {pos p apos : Pos} {R : Out → Prop} {ss sa : List Stmt} {z y : Str} {ts : List TE} {acc out : Str}
/-! ### while -/
def TurnW (inv : Nat → De → Om → Prop) (m : Nat) (B R : Out → Prop) : Out → Prop
  | .nx δ ω => ∃ j, j < m ∧ inv j δ ω
  | .ct δ ω => ∃ j, j < m ∧ inv j δ ω
  | .bk δ ω => B (.nx δ ω)
  | o => R o
theorem sd_while (inv : Nat → De → Om → Prop) (m0 : Nat) (h0 : inv m0 δ ω)
    (ht : ∀ m δ' ω', inv m δ' ω' → ∃ k, PTd X δ' ω' c k ∧ (k = true → SD X W T sa δ' ω' (TurnW inv m (Nxt X W T ss R) R)) ∧ (k = false → SD X W T ss δ' ω' R)) (hp : PassesOwn (model X.prog X.w) X.A X.env X.xe) : SD X W T (.While c sa [] pos :: ss) δ ω R := by
  refine sd_cons fun σ H D rl t k => ws (ps_while hp pt_w pss_w) ⟨fun m σ' H' => ∃ δ' ω', inv m δ' ω' ∧ Stp T ω ω' H H' ∧ Rl X.K H' σ' δ' ω', ⟨m0, δ, ω, h0, .refl, rl⟩, ?_⟩
  rintro m σ' H' ⟨δ', ω', iv, st, rl'⟩
  obtain ⟨b, hc, h1, h2⟩ := ht m δ' ω' iv
  refine hc σ' H' rl' _ fun H1 s1 => ?_
  have st1 : Stp T ω ω' H H1 := st.trans (.of s1)
  have k2 := k.step st1
  cases b with
  | true =>
    refine iteT ⟨fun σ2 H2 => ∃ j δ2 ω2, j < m ∧ inv j δ2 ω2 ∧ Stp T ω ω2 H H2 ∧ Rl X.K H2 σ2 δ2 ω2, fun σ2 H2 ⟨j, δ2, ω2, lt, a1, a2, a3⟩ => ⟨j, lt, δ2, ω2, a1, a2, a3⟩, ?_⟩
    refine h1 rfl σ' H1 _ (rl'.mono s1) (st1.tab t) ?_
    exact ⟨fun δ2 ω2 σ2 H2 z q l => (let ⟨j, lt, iv⟩ := z; ⟨j, δ2, ω2, lt, iv, st1.trans q, l⟩), fun r ω2 v H2 z q l dv => k2.rt r ω2 v H2 z q l dv, fun C ω2 σ2 H2 z q l => k2.ex C ω2 σ2 H2 z q l, fun δ2 ω2 σ2 H2 z q l => k2.nx δ2 ω2 σ2 H2 z q l, fun δ2 ω2 σ2 H2 z q l => (let ⟨j, lt, iv⟩ := z; ⟨j, δ2, ω2, lt, iv, st1.trans q, l⟩)⟩
  | false => exact iteF (k2.nx δ' ω' σ' H1 (h2 rfl) .refl (rl'.mono s1))
/-! ### a list of one's own that is changed no more -/
theorem sd_frz (i : Nat) {D : Addr} {xs : List PyData} {ps : List Addr} {os : Os} (hd : δ[i]? = some (some (.ad D))) (hD : D ∉ ps) (hk : SD X W T ss (δ.set i (some (.im (.list xs)))) ⟨ps, os⟩ R) : SD X W T ss δ ⟨ps, (D, .lst (xs.map .im)) :: os⟩ R := fun σ H Dd rl t k => by
  have sub : ∀ b, b ∈ ads ⟨ps, os⟩ → b ∈ ads ⟨ps, (D, .lst (xs.map .im)) :: os⟩ := fun b h => by
    rcases List.mem_append.mp h with q | q
    · exact List.mem_append_left _ q
    · exact List.mem_append_right _ (List.mem_cons_of_mem _ q)
  have sm : Same (hid (ads ⟨ps, (D, .lst (xs.map .im)) :: os⟩) H) (hid (ads ⟨ps, os⟩) H) := hid_more sub
  obtain ⟨v, e1, e2⟩ := rl.sl i _ hd
  have e2 : v = .ref D := e2
  subst e2
  obtain ⟨vs, g1, g2⟩ := rl.ro.ob D _ List.mem_cons_self
  have nd := rl.ro.nd
  have hD2 : D ∉ ads ⟨ps, os⟩ := fun q => by
    rcases List.mem_append.mp q with q | q
    · exact hD q
    · exact (List.nodup_cons.mp nd).1 q
  have st : Stp T ⟨ps, (D, .lst (xs.map .im)) :: os⟩ ⟨ps, os⟩ H H := ⟨fun b o h _ _ => h, fun a h => .inl (List.mem_cons_of_mem _ h), rfl, fun t => t⟩
  refine hk σ H Dd ⟨by rw [List.length_set]; exact rl.len, fun j r h => ?_, ⟨fun a o h => odv_mono sm (Same.refl H) (rl.ro.ob a o (List.mem_cons_of_mem _ h)), (List.nodup_cons.mp nd).2, rl.ro.th⟩⟩ t (k.step st)
  by_cases ij : i = j
  · subst ij
    have hl := (List.getElem?_eq_some_iff.mp hd).1
    rw [List.getElem?_set_self hl] at h
    cases h
    exact ⟨_, e1, .lst (SqL.of (hid_of hD2 g1)) (dpam sm (dpa_im g2))⟩
  · rw [List.getElem?_set_ne ij] at h
    obtain ⟨v, q1, q2⟩ := rl.sl j r h
    exact ⟨v, q1, sdv_mono sm q2⟩
/-! ### f-strings of texts -/
def JD (X : Cx) (δ : De) (ω : Om) (ts : List TE) (acc out : Str) : Prop := ∀ σ H, Rl X.K H σ δ ω → ∀ Q : Str → Hp → Prop, (∀ H', Same H H' → Q out H') → tJs ts acc σ H Q
theorem jd_nil : JD X δ ω [] acc acc := fun σ H _ Q k => k H (Same.refl H)
theorem jd_txt (h : PD X δ ω e (.str y)) (hz : acc.length + y.length ≤ 100000) (hr : JD X δ ω ts (acc ++ y) out) : JD X δ ω (wpe X e :: ts) acc out := fun σ H rl Q k =>
  h σ H rl _ fun v H1 s1 d1 => by
    cases d1
    exact ⟨y, rfl, by rw [Str.length_append]; exact Nat.le_trans hz (by decide), hr σ H1 (rl.mono s1) Q fun H' s => k H' (s1.trans s)⟩
theorem jd_fmt (h : PD X δ ω e (.str y)) (hz : acc.length + y.length ≤ 100000) (hr : JD X δ ω ts (acc ++ y) out) : JD X δ ω (tFmt (wpe X e) :: ts) acc out := fun σ H rl Q k =>
  h σ H rl _ fun v H1 s1 d1 => by
    cases d1
    exact .inl ⟨y, rfl, Nat.le_trans (show y.length ≤ 100000 by omega) (by decide), y, rfl, by rw [Str.length_append]; exact Nat.le_trans hz (by decide), hr σ H1 (rl.mono s1) Q fun H' s => k H' (s1.trans s)⟩
theorem pj_fmt {es : List Expr} (h : PJ X es ts) : PJ X (.FormattedValue e (-1) none pos :: es) (tFmt (wpe X e) :: ts) := .cons (pe_fmt pe_w) h
theorem pj_txt {es : List Expr} (h : PJ X es ts) : PJ X (e :: es) (wpe X e :: ts) := .cons pe_w h
theorem pd_fstr {v1 v2 : Expr} {rest : List Expr} (h : PJ X (v1 :: v2 :: rest) ts) (hj : JD X δ ω ts Str.empty out) : PD X δ ω (.JoinedStr (v1 :: v2 :: rest) pos) (.str out) := fun σ H rl Q k =>
  we (pe_joined h) (hj σ H rl _ fun H' s => k _ H' s (.str _))
/-! ### (a, *b) -/
theorem pds_star (h : PD X δ ω e (.list ds) ∨ PD X δ ω e (.tuple ds)) (hs : starEach [.Starred e p] X.env = (true, eval e X.env) :: starEach [] X.env := by rfl) : PDs X δ ω [.Starred e p] ds := fun σ H rl Q k => by
  rcases h with h | h
  · refine wa (StX.pa_star pe_w pa_nil hs) (h σ H rl _ fun v H1 s1 d1 => ?_)
    cases d1 with
    | lst h1 h2 => exact ⟨_, _, rfl, .inr (hid_sub.seq h1), by show Q (_ ++ []) H1; rw [List.append_nil]; exact k _ H1 s1 h2⟩
  · refine wa (StX.pa_star pe_w pa_nil hs) (h σ H rl _ fun v H1 s1 d1 => ?_)
    cases d1 with
    | tup h1 h2 => exact ⟨_, _, rfl, .inl (same_sqt hid_sub h1), by show Q (_ ++ []) H1; rw [List.append_nil]; exact k _ H1 s1 h2⟩
/-! ### text.find(text, from) -/
theorem pd_find3 {cpos : Pos} {i : Int} (ha : PD X δ ω a (.str z)) (hb : PDs X δ ω [b, c] [.str y, .int i])
    (hbase : attributeBase a "find" X.env (eval a X.env) = eval a X.env := by rfl)
    (hfew : ((backTo cpos (starEach [b, c] X.env)).all (fun x => !x.1) && (backToKw cpos (keywordEach [] X.env)).all (fun x => x.1.isSome)
      && decide (([b, c] : List Expr).length + ([] : List Keyword).length + (if ([] : List Keyword).isEmpty then 0 else 1) < 30)) = true := by rfl)
    (hline : (apos.endLine == cpos.line) = true := by rfl) (hst : starEach [b, c] X.env = (false, eval b X.env) :: starEach [c] X.env := by rfl) (hplain : (backTo cpos (starEach [c] X.env)).any (·.1) = false := by rfl) : PD X δ ω (.Call (.Attribute a "find" apos) [b, c] [] cpos) (.int (Txt.find3 z y i)) := fun σ H rl Q k =>
  we (pe_bm PySem.F.plainAttrs_str PySem.F.slot_str_find PySem.F.type_str_find mt_find3 pe_w pa_w hbase hfew hline hst hplain) (ha σ H rl _ fun v H1 s1 d1 => by
    cases d1
    exact ⟨rfl, hb σ H1 (rl.mono s1) _ fun vs H2 s2 d2 => by
      cases d2 with
      | cons x1 x2 =>
        cases x2 with
        | cons x3 x4 =>
          cases x1
          cases x3
          cases x4
          exact ⟨z, y, i, rfl, rfl, k _ H2 (s1.trans s2) (.int _)⟩⟩)
end
end FP

namespace FP
open PySem PySem.Spec PyProof.Rows L2 HotX L2H
section
variable {X : Cx} {W : WX} {T : List (Addr × Str)} {δ : De} {ω : Om} {a b e : Expr} {ds : List PyData} {pos : Pos} {R : Out → Prop} {ss : List Stmt}
/-- x, y, .. = a list -/
theorem sd_unpL (is : List Nat) {ts : List Expr} {n kk : Nat} {p' : Pos} (he : PL X δ ω e ds) (hg : PG X (.Tuple ts kk p') (gUnl X.K n (gAll is))) (hn : ds.length = n) (hi : is.length = n) (hk : SD X W T ss (setAll δ is ds) ω R)
    (hs : swapsWithSole [.Tuple ts kk p'] e pos.line X.env = pure false := by rfl) (hw : swappedStores [.Tuple ts kk p'] e X.env = pure none := by rfl) : SD X W T (.Assign [.Tuple ts kk p'] e pos :: ss) δ ω R :=
  sd_cons fun σ H D rl t k => ws (ps_asg pe_w hg hs hw) (he σ H rl _ fun p vs H' s h1 h2 =>
    ⟨_, _, rfl, h1, by rw [dpa_len h2]; exact hn, gAll_ok (rl.mono s) h2 (hi.trans hn.symm) fun σ' l => k.nx _ ω σ' H' hk (.of s) l⟩)
/-- a or b, both of which may be told -/
theorem zt_orZ {Z : Bool → Om → Prop} (h : ZT X T δ ω a (fun k ω' => (k = true → Z true ω') ∧ (k = false → ZT X T δ ω' b Z))) : ZT X T δ ω (.BoolOp .Or [a, b] pos) Z := fun σ H rl t Q q =>
  wt (PW.pt pw_w) (ww (pw_or pt_w pw_w) (h σ H rl t _ fun k ω1 H1 z s1 l1 => by
    cases k with
    | true => exact iteT (q true ω1 H1 (z.1 rfl) s1 l1)
    | false => exact iteF (ww (pw_or1 pt_w) (z.2 rfl σ H1 l1 (s1.tab t) Q fun k ω' H' z s l => q k ω' H' z (s1.trans s) l))))
end
/-! ### where a sign stands first -/
theorem from_nat {n i : Nat} (h : i ≤ n) : fromIndex n (i : Int) = i := by
  unfold fromIndex
  rw [if_neg (by omega)]
  omega
theorem find_no {z : Str} {e i : Nat} (h : i ≤ z.length) (n : e ∉ z.cps.toList.drop i) : Txt.find3 z ⟨#[e]⟩ (i : Int) = -1 := by
  rcases StrLaws.find3_spec z e (i : Int) with ⟨q, _⟩ | ⟨k, q, h1, h2, h3, _⟩
  · exact q
  · rw [from_nat h] at h1
    have g := StrLaws.getElem?_of_getD h2 h3
    refine absurd ?_ n
    refine List.mem_of_getElem? (i := k - i) ?_
    rw [List.getElem?_drop, show i + (k - i) = k by omega]
    exact g
theorem find_yes {z : Str} {e i : Nat} {J r : List Nat} (h : i ≤ z.length) (d : z.cps.toList.drop i = J ++ e :: r) (n : e ∉ J) : Txt.find3 z ⟨#[e]⟩ (i : Int) = ((i + J.length : Nat) : Int) := by
  have at_ : ∀ v, z.cps.toList[i + v]? = (J ++ e :: r)[v]? := fun v => by rw [← d, List.getElem?_drop]
  have he : z.cps.toList[i + J.length]? = some e := by rw [at_]; simp
  have hl : i + J.length < z.length := by
    have := (List.getElem?_eq_some_iff.mp he).1
    rw [Array.length_toList] at this
    exact this
  rcases StrLaws.find3_spec z e (i : Int) with ⟨_, q⟩ | ⟨k, q, h1, h2, h3, h4⟩
  · exact absurd (StrLaws.getD_of_getElem? he) (q _ (by rw [from_nat h]; omega) hl)
  · rw [from_nat h] at h1 h4
    have g := StrLaws.getElem?_of_getD h2 h3
    rw [q]
    rcases Nat.lt_trichotomy k (i + J.length) with c | c | c
    · rw [show k = i + (k - i) by omega, at_, List.getElem?_append_left (by omega)] at g
      exact absurd (List.mem_of_getElem? g) n
    · rw [c]
    · exact absurd (StrLaws.getD_of_getElem? he) (h4 _ (by omega) c)
/-! ### slices of texts -/
theorem zlen (z : Str) : z.cps.toList.length = z.length := Array.length_toList
theorem cutS_from (z : Str) (n : Nat) : cutS z (some (n : Int)) none = ⟨(z.cps.toList.drop n).toArray⟩ := by
  unfold cutS
  rw [HT.sIx_nat, HT.sIx_none]
  congr 1
  by_cases h : n ≤ z.length
  · rw [Nat.min_eq_left h, List.take_of_length_le (by rw [List.length_drop, zlen]; omega)]
  · rw [Nat.min_eq_right (by omega), Nat.sub_self, List.take_zero, List.drop_eq_nil_of_le (by rw [zlen]; omega)]
theorem cutS_mid (z : Str) {i m : Nat} (h : i ≤ z.length) : cutS z (some (i : Int)) (some ((i + m : Nat) : Int)) = ⟨((z.cps.toList.drop i).take m).toArray⟩ := by
  unfold cutS
  rw [HT.sIx_nat, HT.sIx_nat, Nat.min_eq_left h]
  congr 2
  by_cases h2 : i + m ≤ z.length
  · rw [Nat.min_eq_left h2, show i + m - i = m by omega]
  · rw [Nat.min_eq_right (by omega), List.take_of_length_le (by rw [List.length_drop, zlen]; omega), List.take_of_length_le (by rw [List.length_drop, zlen]; omega)]
end FP

namespace K51
open PySem PySem.Spec PyProof.Rows L2 FP
/-! ### the text -/
def top (i : Nat) : Stmt := PySem.Challenge.pw_farpanes_k51_whole_papers_in_parts.main.body.getD i (.Pass ⟨0, 0, 0, 0⟩)
abbrev s_is_whole : Stmt := top 13
abbrev s_is_within : Stmt := top 14
abbrev s_are_signs : Stmt := top 15
abbrev s_need_change : Stmt := top 19
abbrev s_is_part : Stmt := top 20
abbrev s_is_place : Stmt := top 21
abbrev s_written_numbers : Stmt := top 24
abbrev s_numbers_of : Stmt := top 25
abbrev s_number_of : Stmt := top 26
abbrev s_written_change : Stmt := top 30
abbrev s_written_part : Stmt := top 31
abbrev s_short_numbers : Stmt := top 32
abbrev s_read_change : Stmt := top 33
abbrev s_read_part : Stmt := top 34
abbrev s_read_put : Stmt := top 35
abbrev s__law_cell : Stmt := top 37
abbrev s__law_drawn : Stmt := top 38
abbrev s__law_word : Stmt := top 39
abbrev s__law_told : Stmt := top 40
abbrev s__law_part : Stmt := top 41
abbrev s_law : Stmt := top 42
abbrev dOf (x : Str) (st : Stmt) : He.DefD := ⟨(x, none), x, x, defArgs st, defBody st, defScope st, [], []⟩
def fn : List He.DefD := [dOf "is_whole" s_is_whole, dOf "is_within" s_is_within, dOf "are_signs" s_are_signs, dOf "need_change" s_need_change, dOf "is_part" s_is_part, dOf "is_place" s_is_place, dOf "written_numbers" s_written_numbers, dOf "numbers_of" s_numbers_of, dOf "number_of" s_number_of, dOf "written_change" s_written_change, dOf "written_part" s_written_part, dOf "short_numbers" s_short_numbers, dOf "read_change" s_read_change, dOf "read_part" s_read_part, dOf "read_put" s_read_put, dOf "_law_cell" s__law_cell, dOf "_law_drawn" s__law_drawn, dOf "_law_word" s__law_word, dOf "_law_told" s__law_told, dOf "_law_part" s__law_part, dOf "law" s_law]
def fa : List He.Fa := [.glo "is_whole", .glo "is_within", .glo "are_signs", .glo "need_change", .glo "is_part", .glo "is_place", .glo "written_numbers", .glo "numbers_of", .glo "number_of", .glo "written_change", .glo "written_part", .glo "short_numbers", .glo "read_change", .glo "read_part", .glo "read_put", .glo "_law_cell", .glo "_law_drawn", .glo "_law_word", .glo "_law_told", .glo "_law_part", .glo "law", .glo "ScreenError", .glo "BadFace", .glo "BadDeed", .glo "BadTalk", .glo "BadChange", .glo "BadPacket", .glo "BadLayout", .glo "BadName", .glo "BadFilm", .glo "Nothing", .free "abs", .free "all", .free "bool", .free "int", .free "isinstance", .free "len", .free "list", .free "max", .free "min", .free "ord", .free "range", .free "str", .free "sum", .free "tuple", .free "ValueError", .int "PERCENT" 37, .int "MOST_INK" 7, .int "MOST_ROLL" 10, .int "MOST_FIGURES" 3, .int "MOST_NUMBER" 999, .glo "ENDS", .exc "BadChange"]
def ex (K : PySem.W.Frag) : Bool := ndB K (He.ga K "ENDS") ["r", "c", "p"] && (kvB K (He.ga K "ENDS") "r" (.str ";") && (kvB K (He.ga K "ENDS") "c" (.str ";") && (kvB K (He.ga K "ENDS") "p" (.str ":") && (wordB K "BadChange" [("BadChange", true), ("BadDeed", false), ("BadFace", false), ("BadFilm", false), ("BadLayout", false), ("BadName", false), ("BadPacket", false), ("BadTalk", false), ("Nothing", false)] && (decide (PySem.W.exmOne K (.ref (He.ga K "BadChange")) (.ref (He.ga K "ScreenError")) = some true))))))
def tf : List He.Defn := [("law", none)]
abbrev R : PySem.W.OpenRow := PySem.W.OpenLaw.row PySem.Challenge.rw_farpanes_k51_whole_papers_in_parts
def ts : List He.Tab := [(fun K => He.ga K "ENDS", ["r", "c", "p"])]
abbrev hk : PySem.W.Hook := He.hookX 6 fa fn ts tf ex
def ob (s : PySem.W.SharedT) : He.AlX := He.obsX 6 fa fn ts tf ex (HandSHeadRun.getT s)
theorem ob_eq (s : PySem.W.SharedT) : ob s = hk.obs s.abs := He.obsX_eq (HandSHeadRun.getT_eq s)
def loose0 : List Str := ["ScreenError", "BadFace", "BadDeed", "BadTalk", "BadChange", "BadPacket", "BadLayout", "BadName", "BadFilm", "Nothing", "PERCENT", "is_whole", "is_within", "are_signs", "MOST_INK", "MOST_ROLL", "need_change", "is_part", "is_place", "MOST_FIGURES", "written_numbers", "numbers_of", "number_of", "MOST_NUMBER", "ENDS", "written_change", "written_part", "short_numbers", "read_change", "read_part"]
def loose1 : List Str := ["read_put", "_law_cell", "_law_drawn", "_law_word", "_law_told", "_law_part"]
def loose : List Str := loose0 ++ loose1
set_option maxHeartbeats 0 in
theorem runF (w : World) : HandSHeadRun.RunEq R (PySem.W.view R.prog [42]) hk ob 8000 loose (w.withFollow "special-get-raises" false) := by
  intro os
  kernel_rfl
set_option maxHeartbeats 0 in
theorem runT (w : World) : HandSHeadRun.RunEq R (PySem.W.view R.prog [42]) hk ob 8000 loose (w.withFollow "special-get-raises" true) := by
  intro os
  kernel_rfl
theorem run (w : World) : HandSHeadRun.RunEq R (PySem.W.view R.prog [42]) hk ob 8000 loose w :=
  PySem.W.byRow2 "special-get-raises" (P := fun w => HandSHeadRun.RunEq R (PySem.W.view R.prog [42]) hk ob 8000 loose w) runF runT w
end K51

namespace K51
open PySem PySem.Spec PyProof.Rows L2 FP
/-! ### what the top leaves -/
structure Bl (mg : Str → Option Value) : Prop where
  len : mg "len" = none
  range : mg "range" = none
  isi : mg "isinstance" = none
  int : mg "int" = none
  bool : mg "bool" = none
  str : mg "str" = none
  tuple : mg "tuple" = none
  all : mg "all" = none
  ord : mg "ord" = none
  min : mg "min" = none
  max : mg "max" = none
/-! ### mirrors -/
def isWhole : PyData → Bool
  | .int _ => true
  | _ => false
def isWithin (d : PyData) (lo hi : Int) : Bool := match d with
  | .int i => decide (lo ≤ i) && decide (i ≤ hi)
  | _ => false
def isTupleOf (d : PyData) (n : Int) : Bool := match d with
  | .tuple ds => decide ((ds.length : Int) = n)
  | _ => false
def okSign (c : Nat) : Bool := (decide (32 ≤ c) && decide (c ≤ 126)) && !decide (c = 37)
def areSigns (d : PyData) : Bool := match d with
  | .str z => z.cps.toList.all okSign
  | _ => false
def isSign (d : PyData) : Bool := match d with
  | .str z => z.cps.toList.all okSign && decide (z.length = 1)
  | _ => false
def isCell (d : PyData) : Bool := match d with
  | .tuple [a, b] => isSign a && isWithin b 0 7
  | _ => false
def isI : PyData → Bool
  | .int _ => true
  | .bool _ => true
  | _ => false
def isB : PyData → Bool
  | .bool _ => true
  | _ => false
def isS : PyData → Bool
  | .str _ => true
  | _ => false
def isT : PyData → Bool
  | .tuple _ => true
  | _ => false
def isL : PyData → Bool
  | .list _ => true
  | _ => false
theorem k_int : ∀ d : PyData, kitB (kindD d) "int" = some (isI d)
  | .none => (by decide +kernel : kitB "NoneType" "int" = some false)
  | .bool _ => (by decide +kernel : kitB "bool" "int" = some true)
  | .int _ => (by decide +kernel : kitB "int" "int" = some true)
  | .str _ => (by decide +kernel : kitB "str" "int" = some false)
  | .list _ => (by decide +kernel : kitB "list" "int" = some false)
  | .tuple _ => (by decide +kernel : kitB "tuple" "int" = some false)
  | .dict _ => (by decide +kernel : kitB "dict" "int" = some false)
theorem k_bool : ∀ d : PyData, kitB (kindD d) "bool" = some (isB d)
  | .none => (by decide +kernel : kitB "NoneType" "bool" = some false)
  | .bool _ => (by decide +kernel : kitB "bool" "bool" = some true)
  | .int _ => (by decide +kernel : kitB "int" "bool" = some false)
  | .str _ => (by decide +kernel : kitB "str" "bool" = some false)
  | .list _ => (by decide +kernel : kitB "list" "bool" = some false)
  | .tuple _ => (by decide +kernel : kitB "tuple" "bool" = some false)
  | .dict _ => (by decide +kernel : kitB "dict" "bool" = some false)
theorem k_str : ∀ d : PyData, kitB (kindD d) "str" = some (isS d)
  | .none => (by decide +kernel : kitB "NoneType" "str" = some false)
  | .bool _ => (by decide +kernel : kitB "bool" "str" = some false)
  | .int _ => (by decide +kernel : kitB "int" "str" = some false)
  | .str _ => (by decide +kernel : kitB "str" "str" = some true)
  | .list _ => (by decide +kernel : kitB "list" "str" = some false)
  | .tuple _ => (by decide +kernel : kitB "tuple" "str" = some false)
  | .dict _ => (by decide +kernel : kitB "dict" "str" = some false)
theorem k_tuple : ∀ d : PyData, kitB (kindD d) "tuple" = some (isT d)
  | .none => (by decide +kernel : kitB "NoneType" "tuple" = some false)
  | .bool _ => (by decide +kernel : kitB "bool" "tuple" = some false)
  | .int _ => (by decide +kernel : kitB "int" "tuple" = some false)
  | .str _ => (by decide +kernel : kitB "str" "tuple" = some false)
  | .list _ => (by decide +kernel : kitB "list" "tuple" = some false)
  | .tuple _ => (by decide +kernel : kitB "tuple" "tuple" = some true)
  | .dict _ => (by decide +kernel : kitB "dict" "tuple" = some false)
theorem k_list : ∀ d : PyData, kitB (kindD d) "list" = some (isL d)
  | .none => (by decide +kernel : kitB "NoneType" "list" = some false)
  | .bool _ => (by decide +kernel : kitB "bool" "list" = some false)
  | .int _ => (by decide +kernel : kitB "int" "list" = some false)
  | .str _ => (by decide +kernel : kitB "str" "list" = some false)
  | .list _ => (by decide +kernel : kitB "list" "list" = some true)
  | .tuple _ => (by decide +kernel : kitB "tuple" "list" = some false)
  | .dict _ => (by decide +kernel : kitB "dict" "list" = some false)
theorem bb_int : bootBuiltins "int" = some (.type "int") := by decide +kernel
theorem bb_bool : bootBuiltins "bool" = some (.type "bool") := by decide +kernel
theorem bb_str : bootBuiltins "str" = some (.type "str") := by decide +kernel
theorem bb_tuple : bootBuiltins "tuple" = some (.type "tuple") := by decide +kernel
theorem bb_list : bootBuiltins "list" = some (.type "list") := by decide +kernel
section
variable {P : Program} {w : World} {K : PySem.W.Frag} {mg : Str → Option Value} {base : Heap} {f : Addr} {fd : FuncData}
abbrev Df (K : PySem.W.Frag) (x : Str) (st : Stmt) (f : Addr) (fd : FuncData) : Prop := FunD K x x (defArgs st) (defBody st) (defScope st) [] [] f fd
def frWhole : List PyData → Rs → Prop := fun ds r => ∃ d, ds = [d] ∧ r = .ok (.bool (isWhole d))
theorem sc_whole : FnScope ["value"] ["value"] (defScope s_is_whole) := ⟨rfl, rfl, rfl, by decide +kernel, rfl, by decide +kernel, by decide +kernel⟩
theorem ok_whole (F : Df K "is_whole" s_is_whole f fd) (hm : mg "is_whole" = some (.ref f)) (B : Bl mg) : DefOk P w K mg base 1 "is_whole" frWhole := by
  refine def_ok F hm sc_whole (fun _ _ _ _ _ _ us hl => match us, hl with | [_], _ => rfl) (fun ds r h => by obtain ⟨d, rfl, _⟩ := h; rfl) (fun cdv A outer s H E qs ds r hr h => ?_)
  obtain ⟨d, rfl, rfl⟩ := h
  refine sd_ret (pd_and (pd_isi B.isi B.int bb_int (pd_var 0) (k_int d)) (fun _ => pd_one (pd_not (pd_isi B.isi B.bool bb_bool (pd_var 0) (k_bool d))))) ?_
  cases d <;> rfl
def frWithin : List PyData → Rs → Prop := fun ds r => ∃ d lo hi, ds = [d, .int lo, .int hi] ∧ r = .ok (.bool (isWithin d lo hi))
theorem sc_within : FnScope ["value", "least", "most"] ["value", "least", "most"] (defScope s_is_within) := ⟨rfl, rfl, rfl, by decide +kernel, rfl, by decide +kernel, by decide +kernel⟩
theorem ok_within (F : Df K "is_within" s_is_within f fd) (hm : mg "is_within" = some (.ref f)) (G1 : DefOk P w K mg base 1 "is_whole" frWhole) : DefOk P w K mg base 2 "is_within" frWithin := by
  refine def_ok F hm sc_within (fun _ _ _ _ _ _ us hl => match us, hl with | [_, _, _], _ => rfl) (fun ds r h => by obtain ⟨d, lo, hi, rfl, _⟩ := h; rfl) (fun cdv A outer s H E qs ds r hr h => ?_)
  obtain ⟨d, lo, hi, rfl, rfl⟩ := h
  cases hd : isWhole d with
  | false =>
    refine sd_ret (pd_andF (pd_call G1 hr (pds_cons (pd_var 0) pds_nil) ⟨d, rfl, by rw [hd]⟩)) ?_
    cases d <;> first | exact rfl | cases hd
  | true =>
    obtain ⟨i, rfl⟩ : ∃ i, d = .int i := by
      cases d <;> first | exact ⟨_, rfl⟩ | cases hd
    refine sd_ret (pd_and (pd_call G1 hr (pds_cons (pd_var 0) pds_nil) ⟨_, rfl, rfl⟩) (fun _ => pd_one (pd_chain op_le op_le rd_B0 (fun _ => rd_B0) (pd_var 1) (pd_var 0) (fun _ => pd_var 2)))) ?_
    exact rfl
def frTupleOf : List PyData → Rs → Prop := fun ds r => ∃ d n, ds = [d, .int n] ∧ r = .ok (.bool (isTupleOf d n))
def frSigns : List PyData → Rs → Prop := fun ds r => ∃ d, ds = [d] ∧ r = .ok (.bool (areSigns d)) ∧ ∀ z, d = .str z → z.length ≤ 1000
theorem sc_signs : FnScope ["value", "sign"] ["value"] (defScope s_are_signs) := ⟨rfl, rfl, rfl, by decide +kernel, rfl, by decide +kernel, by decide +kernel⟩
theorem rd_leS {K : PySem.W.Frag} {y z : Str} : RD K (fun x y H Q => ∃ i j, x = .str i ∧ y = .str j ∧ Q (.bl (!decide (j.cps.toList < i.cps.toList))) H) (.str y) (.str z) (.bool (!decide (z.cps.toList < y.cps.toList))) := fun ps x w H t hx hy Q q => by
  cases hx
  cases hy
  exact ⟨y, z, rfl, rfl, q _ H (Same.refl H) (.bl _)⟩
theorem le_one (a b : Nat) : (!decide (([b] : List Nat) < [a])) = decide (a ≤ b) := by
  by_cases h : a ≤ b
  · rw [decide_eq_true h, decide_eq_false]
    · rfl
    · intro z
      simp only [List.cons_lt_cons_iff] at z
      rcases z with z | ⟨_, z⟩
      · omega
      · exact absurd z (by simp)
  · rw [decide_eq_false h, decide_eq_true]
    · rfl
    · simp only [List.cons_lt_cons_iff]
      left
      omega
theorem ok_signs (F : Df K "are_signs" s_are_signs f fd) (hm : mg "are_signs" = some (.ref f)) (B : Bl mg) (hp : GlD K mg "PERCENT" (.int 37)) : DefOk P w K mg base 1 "are_signs" frSigns := by
  refine def_ok F hm sc_signs (fun _ _ _ _ _ _ us hl => match us, hl with | [_], _ => rfl) (fun ds r h => by obtain ⟨d, rfl, _⟩ := h; rfl) (fun cdv A outer s H E qs ds r hr h => ?_)
  obtain ⟨d, rfl, rfl, hz⟩ := h
  by_cases hd : ∃ z, d = .str z
  · obtain ⟨z, rfl⟩ := hd
    refine sd_ifF (pt_notd (k := true) (pt_bool (pd_isi B.isi B.str bb_str (pd_var 0) (k_str _)))) ?_
    have hl : (signsD z).length = z.length := by
      unfold signsD
      rw [List.length_map, Array.length_toList]
      rfl
    refine sd_ret (d := .bool ((z.cps.toList.map okSign).all id)) (pd_all rfl B.all (PN.pl (pn_lc (y := "sign") (j := 1) (items := signsD z) rfl sc_signs.nd (PWk.ws (wk_str (pd_var 0))) ?_ (blkOk_by (N := ["value", "sign"]) (sc := defScope s_are_signs) (by decide +kernel)) (fun _ _ _ _ _ => pg_name sc_signs.nd rfl (Or.inl rfl)) ?_ (by rw [hl]; exact Nat.le_trans (hz z rfl) (by decide))))) ?_
    · unfold signsD
      rw [List.length_map, List.length_map, List.length_map]
    · intro i d y hd hy D o s H C cl fp
      unfold signsD at hd
      rw [List.getElem?_map] at hd
      rw [List.getElem?_map, List.getElem?_map] at hy
      cases hc : z.cps.toList[i]? with
      | none =>
        rw [hc] at hd
        cases hd
      | some c =>
        rw [hc] at hd hy
        cases hd
        cases hy
        refine PD.eq (pd_and (pd_chain op_le_str op_le_str rd_leS (fun _ => rd_leS) pd_str (pd_var 1) (fun _ => pd_str)) (fun _ => pd_one (pd_neI (pd_ord B.ord (pd_var 1) rfl rfl) (pd_glob hp)))) ?_
        show PyData.bool ((!decide (([c] : List Nat) < [32]) && !decide (([126] : List Nat) < [c])) && !decide (((c : Nat) : Int) = 37)) = PyData.bool (okSign c)
        rw [le_one, le_one]
        unfold okSign
        have e : decide (((c : Nat) : Int) = 37) = decide (c = 37) := by
          by_cases h : c = 37
          · rw [decide_eq_true h, decide_eq_true (by omega)]
          · rw [decide_eq_false h, decide_eq_false (by omega)]
        rw [e]
    · show Rs.ok (.bool (z.cps.toList.all okSign)) = Rs.ok (.bool _)
      rw [List.all_map]
      rfl
  · have hk : kitB (kindD d) "str" = some false := by
      rw [k_str]
      cases d <;> first | rfl | exact absurd ⟨_, rfl⟩ hd
    refine sd_ifT (pt_notd (k := false) (pt_bool (pd_isi B.isi B.str bb_str (pd_var 0) hk))) (sd_ret pd_bl ?_)
    cases d <;> first | exact rfl | exact absurd ⟨_, rfl⟩ hd
end
end K51

namespace K51
open PySem PySem.Spec PyProof.Rows L2 FP
section
variable {P : Program} {w : World} {K : PySem.W.Frag} {mg : Str → Option Value} {base : Heap} {f C : Addr} {fd : FuncData}
/-! ### the law's draws -/
def cellAt (ns : List Int) (k : Nat) : Int := if ns = [] then (k : Int) * 7919 else ns.getD (k % ns.length) 0 + ((k / ns.length : Nat) : Int) * 104729
def bitsOk (z : Int) : Prop := z.natAbs < 2 ^ 1048577
def frLCell : List PyData → Rs → Prop := fun ds r => ∃ (ns : List Int) (k : Nat), ds = [.list (ns.map .int), .int (k : Int)] ∧ ns.length ≤ 63 ∧ k ≤ 63 ∧ r = .ok (.int (cellAt ns k))
theorem sc_lcell : FnScope ["_law_script", "_law_k"] ["_law_script", "_law_k"] (defScope s__law_cell) := ⟨rfl, rfl, rfl, by decide +kernel, rfl, by decide +kernel, by decide +kernel⟩
theorem shp_ints (ns : List Int) : Shp 1 (.list (ns.map PyData.int)) := Shp.lst fun x h => by
  obtain ⟨n, _, rfl⟩ := List.mem_map.mp h
  exact .int n
theorem cmul_small {i j : Int} (h : -(2 ^ 64) < j ∧ j < 2 ^ 64) : CMul i j := .inr h
theorem ok_lcell (F : Df K "_law_cell" s__law_cell f fd) (hm : mg "_law_cell" = some (.ref f)) (B : Bl mg) : DefOk P w K mg base 1 "_law_cell" frLCell := by
  refine def_ok F hm sc_lcell (fun _ _ _ _ _ _ us hl => match us, hl with | [_, _], _ => rfl) (fun ds r h => by obtain ⟨_, _, rfl, _⟩ := h; rfl) (fun cdv A outer s H E qs ds r hr h => ?_)
  obtain ⟨ns, k, rfl, h1, h2, rfl⟩ := h
  refine sd_if (pt_cmpd (op_eqD hr.units) (rd_eqD (shp_ints ns).ok rfl) (pd_var 0) (PN.pd (pn_lst pds_nil)) (nomark _)) (fun hk => ?_) (fun hk => sd_nil ?_)
  · have e : ns = [] := by
      cases ns with
      | nil => rfl
      | cons n ns => cases hk
    subst e
    refine sd_ret (pd_mulS (cmul_small (by decide)) (pd_var 1) pd_int) ?_
    exact rfl
  · have hne : ns ≠ [] := fun e => by
      subst e
      cases hk
    have hl : 0 < ns.length := List.length_pos_iff.mpr hne
    have hlt : k % ns.length < ns.length := Nat.mod_lt _ hl
    have e1 : ((k : Int) % ((ns.map PyData.int).length : Nat) : Int) = ((k % ns.length : Nat) : Int) := by
      rw [List.length_map]
      omega
    have hat : atI (ns.map PyData.int) ((k : Int) % ((ns.map PyData.int).length : Nat) : Int) = some (.int (ns.getD (k % ns.length) 0)) := by
      rw [e1]
      refine atI_nat ?_
      rw [List.getElem?_map, List.getD_eq_getElem?_getD, List.getElem?_eq_getElem hlt]
      rfl
    have hL : (0 : Int) < (((ns.map PyData.int).length : Nat) : Int) := by rw [List.length_map]; omega
    refine sd_ret (pd_add (pd_ixL (PD.pl (pd_var 0)) (pd_mod hL (pd_var 1) (pd_lenL B.len (PD.pl (pd_var 0)))) hat) (pd_mulS (cmul_small (by decide)) (pd_fdiv (wide_div (b := 20) hL ?_ (by decide) (by decide)) (pd_var 1) (pd_lenL B.len (PD.pl (pd_var 0)))) pd_int)) ?_
    · rw [List.length_map]
      have : (2 : Nat) ^ 20 = 1048576 := by decide
      omega
    · show Rs.ok (.int (cellAt ns k)) = _
      unfold cellAt
      rw [if_neg hne]
      have e2 : ((k : Int) / (((ns.map PyData.int).length : Nat) : Int)) = ((k / ns.length : Nat) : Int) := by
        rw [List.length_map]
        omega
      rw [e2]
/-! drawn -/
def M1 : Int := 340282366920938463463374607431768211507
def M2 : Int := 340282366920938463463374607431768211297
def M3 : Int := 18446744073709551557
def drawn (c k : Int) : Int :=
  let a := (c * 6364136223846793005 + (k + 1) * 1442695040888963407) % M1
  let b := a * a % M2
  ((b % M3 + 1) * (b / M3 + 1) * b) % M1
theorem M1p : (0 : Int) < M1 := by decide
theorem M2p : (0 : Int) < M2 := by decide
theorem M3p : (0 : Int) < M3 := by decide
theorem drawn_b (c k : Int) : 0 ≤ drawn c k ∧ drawn c k < M1 := ⟨Int.emod_nonneg _ (by decide), Int.emod_lt_of_pos _ M1p⟩
def frDrawn : List PyData → Rs → Prop := fun ds r => ∃ c k : Int, ds = [.int c, .int k] ∧ r = .ok (.int (drawn c k))
theorem sc_drawn : FnScope ["_law_cell_here", "_law_k", "_law_more"] ["_law_cell_here", "_law_k"] (defScope s__law_drawn) := ⟨rfl, rfl, rfl, by decide +kernel, rfl, by decide +kernel, by decide +kernel⟩
theorem abs_lt {a : Int} {n : Nat} (h0 : 0 ≤ a) (h : a < ((2 ^ n : Nat) : Int)) : a.natAbs < 2 ^ n := by omega
theorem mod_abs (a : Int) {m : Int} (h : 0 < m) {n : Nat} (hm : m ≤ ((2 ^ n : Nat) : Int)) : (a % m).natAbs < 2 ^ n := abs_lt (Int.emod_nonneg _ (by omega)) (Int.lt_of_lt_of_le (Int.emod_lt_of_pos _ h) hm)
theorem ok_drawn (F : Df K "_law_drawn" s__law_drawn f fd) (hm : mg "_law_drawn" = some (.ref f)) : DefOk P w K mg base 1 "_law_drawn" frDrawn := by
  refine def_ok F hm sc_drawn (fun _ _ _ _ _ _ us hl => match us, hl with | [_, _], _ => rfl) (fun ds r h => by obtain ⟨_, _, rfl, _⟩ := h; rfl) (fun cdv A outer s H E qs ds r hr h => ?_)
  obtain ⟨c, k, rfl, rfl⟩ := h
  show SD _ _ _ _ _ _ (FP.Fin (.ok (.int (drawn c k))))
  refine sd_set 2 (pd_mod M1p (pd_add (pd_mulS (cmul_small (by decide)) (pd_var 0) pd_int) (pd_mulS (cmul_small (by decide)) (pd_add (pd_var 1) pd_int) pd_int)) pd_int) ?_ sc_drawn.nd
  have ha : ((c * 6364136223846793005 + (k + 1) * 1442695040888963407) % M1).natAbs < 2 ^ 129 := mod_abs _ M1p (by decide)
  have ed : drawn c k = (((((c * 6364136223846793005 + (k + 1) * 1442695040888963407) % M1) * ((c * 6364136223846793005 + (k + 1) * 1442695040888963407) % M1) % M2) % M3 + 1) * ((((c * 6364136223846793005 + (k + 1) * 1442695040888963407) % M1) * ((c * 6364136223846793005 + (k + 1) * 1442695040888963407) % M1) % M2) / M3 + 1) * (((c * 6364136223846793005 + (k + 1) * 1442695040888963407) % M1) * ((c * 6364136223846793005 + (k + 1) * 1442695040888963407) % M1) % M2)) % M1 := rfl
  rw [ed]
  generalize (c * 6364136223846793005 + (k + 1) * 1442695040888963407) % M1 = a at *
  refine sd_set 2 (pd_mod M2p (pd_mul (wide_mul ha ha (by decide) (by decide) (by decide)) (pd_var 2) (pd_var 2)) pd_int) ?_ sc_drawn.nd
  have hb : (a * a % M2).natAbs < 2 ^ 129 := mod_abs _ M2p (by decide)
  have hb0 : 0 ≤ a * a % M2 := Int.emod_nonneg _ (by decide)
  generalize a * a % M2 = b at *
  have h1 : (b % M3 + 1).natAbs < 2 ^ 65 := by
    have x1 := Int.emod_nonneg b (show M3 ≠ 0 by decide)
    have x2 := Int.emod_lt_of_pos b M3p
    have x3 : M3 + 1 < ((2 ^ 65 : Nat) : Int) := by decide
    exact abs_lt (by omega) (by omega)
  have h2 : (b / M3 + 1).natAbs < 2 ^ 130 := by
    have x1 : 0 ≤ b / M3 := Int.ediv_nonneg hb0 (by decide)
    have x2 : b / M3 ≤ b := Int.ediv_le_self _ hb0
    have x3 : b < ((2 ^ 129 : Nat) : Int) := by omega
    have x4 : ((2 ^ 129 : Nat) : Int) + 1 < ((2 ^ 130 : Nat) : Int) := by decide
    exact abs_lt (by omega) (by omega)
  have h3 : ((b % M3 + 1) * (b / M3 + 1)).natAbs < 2 ^ 195 := by
    rw [Int.natAbs_mul]
    calc (b % M3 + 1).natAbs * (b / M3 + 1).natAbs < 2 ^ 65 * 2 ^ 130 := Nat.mul_lt_mul'' h1 h2
      _ = 2 ^ 195 := by decide
  refine sd_set 2 (pd_mul (wide_mul h3 hb (by decide) (by decide) (by decide)) (pd_mul (wide_mul h1 h2 (by decide) (by decide) (by decide)) (pd_add (pd_mod M3p (pd_var 2) pd_int) pd_int) (pd_add (pd_fdiv (wide_div (b := 65) M3p (by decide) (by decide) (by decide)) (pd_var 2) pd_int) pd_int)) (pd_var 2)) ?_ sc_drawn.nd
  refine sd_ret (pd_mod M1p (pd_var 2) pd_int) ?_
  exact rfl
/-! ### cells, sizes, faces -/
def sgs : List Nat := [32, 32, 97, 98, 126, 94]
def iks : List Int := [0, 0, 0, 1, 7]
def cellD (c : Nat) (i : Int) : PyData := .tuple [.str ⟨#[c]⟩, .int i]
def cellOfD (m : Int) : PyData := cellD (sgs.getD (m % 6).toNat 0) (iks.getD (m / 8 % 5).toNat 0)
def frCellOf : List PyData → Rs → Prop := fun ds r => ∃ m : Int, ds = [.int m] ∧ r = .ok (cellOfD m)
theorem mod_nat (m : Int) (n : Nat) (h : 0 < n) : ∃ j : Nat, m % (n : Int) = (j : Int) ∧ j < n := ⟨(m % (n : Int)).toNat, by have := Int.emod_nonneg m (show (n : Int) ≠ 0 by omega); omega, by have := Int.emod_nonneg m (show (n : Int) ≠ 0 by omega); have := Int.emod_lt_of_pos m (show (0 : Int) < n by omega); omega⟩
def sizeD (m : Int) : Int × Int := (1 + m % (([3, 10] : List Int).getD (m / 16 % 2).toNat 1), 1 + m / 64 % (([4, 9, 20] : List Int).getD (m / 2048 % 3).toNat 1))
def frLSize : List PyData → Rs → Prop := fun ds r => ∃ m : Int, ds = [.int m] ∧ r = .ok (.tuple [.int (sizeD m).1, .int (sizeD m).2])
theorem size_le (m : Int) : 1 ≤ (sizeD m).1 ∧ (sizeD m).1 ≤ 10 ∧ 1 ≤ (sizeD m).2 ∧ (sizeD m).2 ≤ 20 := by
  obtain ⟨j1, e1, l1⟩ := mod_nat (m / 16) 2 (by decide)
  obtain ⟨j2, e2, l2⟩ := mod_nat (m / 2048) 3 (by decide)
  have e1 : m / 16 % 2 = (j1 : Int) := e1
  have e2 : m / 2048 % 3 = (j2 : Int) := e2
  unfold sizeD
  rw [e1, e2]
  show 1 ≤ 1 + m % (([3, 10] : List Int).getD j1 1) ∧ 1 + m % (([3, 10] : List Int).getD j1 1) ≤ 10 ∧ 1 ≤ 1 + m / 64 % (([4, 9, 20] : List Int).getD j2 1) ∧ 1 + m / 64 % (([4, 9, 20] : List Int).getD j2 1) ≤ 20
  have a1 : 1 ≤ 1 + m % (([3, 10] : List Int).getD j1 1) ∧ 1 + m % (([3, 10] : List Int).getD j1 1) ≤ 10 := by
    match j1, l1 with
    | 0, _ => show 1 ≤ 1 + m % 3 ∧ 1 + m % 3 ≤ 10; omega
    | 1, _ => show 1 ≤ 1 + m % 10 ∧ 1 + m % 10 ≤ 10; omega
    | n + 2, h => omega
  have a2 : 1 ≤ 1 + m / 64 % (([4, 9, 20] : List Int).getD j2 1) ∧ 1 + m / 64 % (([4, 9, 20] : List Int).getD j2 1) ≤ 20 := by
    match j2, l2 with
    | 0, _ => show 1 ≤ 1 + m / 64 % 4 ∧ 1 + m / 64 % 4 ≤ 20; omega
    | 1, _ => show 1 ≤ 1 + m / 64 % 9 ∧ 1 + m / 64 % 9 ≤ 20; omega
    | 2, _ => show 1 ≤ 1 + m / 64 % 20 ∧ 1 + m / 64 % 20 ≤ 20; omega
    | n + 3, h => omega
  exact ⟨a1.1, a1.2, a2.1, a2.2⟩
end
end K51

namespace K51
open PySem PySem.Spec PyProof.Rows L2 FP L2H
section
variable {P : Program} {w : World} {K : PySem.W.Frag} {mg : Str → Option Value} {base : Heap} {f C : Addr} {fd : FuncData}
theorem word_mono {k j : Nat} {wd : Str} {fw : Addr → PyData → Prop} (h : WordOk P w K mg base k wd fw) (hk : k ≤ j) : WordOk P w K mg base j wd fw := by
  obtain ⟨g, a, b, r⟩ := h.ex
  exact ⟨g, a, b, fun A outer s H q C d ps Q z1 z2 => r A outer s H q C d ps Q z1 (z2.mono hk)⟩
def refused (E : Str) : PyData := .tuple [.str "refused", .str E]
theorem shp_refused {E : Str} (h : PyData.strOk E = true) : Shp 1 (refused E) := Shp.tup fun x hx => by
  simp only [List.mem_cons, List.not_mem_nil, or_false] at hx
  rcases hx with rfl | rfl
  · exact .str (by decide +kernel)
  · exact .str h
abbrev NW : List Str := ["_law_e", "_law_flags", "_law_names", "_law_flag"]
theorem sc_word : FnScope NW ["_law_e"] (defScope s__law_word) := ⟨rfl, rfl, rfl, by decide +kernel, rfl, by decide +kernel, by decide +kernel⟩
def fwA (K : PySem.W.Frag) : Addr → PyData → Prop := fun D d => (D = He.ga K "BadChange" ∧ d = refused "BadChange")
abbrev askedBadChange : List (Str × Bool) := [("BadChange", true), ("BadDeed", false), ("BadFace", false), ("BadFilm", false), ("BadLayout", false), ("BadName", false), ("BadPacket", false), ("BadTalk", false), ("Nothing", false)]
structure Wd (K : PySem.W.Frag) (D : Addr) (asked : List (Str × Bool)) : Prop where
  EC : ExcC K D
  ka : ∀ c ∈ asked, PySem.W.kitOne K (.ref D) (.ref (He.ga K c.1)) = some c.2
  kv : PySem.W.kitOne K (.ref D) (.type "ValueError") = some true
theorem ok_word (F : Df K "_law_word" s__law_word f fd) (hm : mg "_law_word" = some (.ref f)) (mi : mg "isinstance" = none) (mn : mg "int" = none) (ms : mg "sum" = none) (mv : mg "ValueError" = none) (gl : ∀ c ∈ (["BadChange", "BadDeed", "BadFace", "BadFilm", "BadLayout", "BadName", "BadPacket", "BadTalk", "Nothing"] : List Str), mg c = some (.ref (He.ga K c))) (WBadChange : Wd K (He.ga K "BadChange") askedBadChange) : WordOk P w K mg base 1 "_law_word" (fwA K) := by
  refine word_ok (N := NW) (n := 3) F hm sc_word rfl (fun _ _ _ _ _ _ us hl => match us, hl with | [_], _ => rfl) (fun cdv A outer s H q D d ps hf hot c1 c2 hr => ?_)
  have HC : HotC (cxH C8.CX0 P w K mg base NW "_law_word" (defScope s__law_word) f cdv A outer s H C8.E0 q) := ⟨q, hot, List.mem_cons_self⟩
  obtain ⟨rfl, rfl⟩ := hf
  · have Z : Pin (cxH C8.CX0 P w K mg base NW "_law_word" (defScope s__law_word) f cdv A outer s H C8.E0 q) q (He.ga K "BadChange") := ⟨List.mem_cons_self, WBadChange.EC, c1, c2, let ⟨_, vs, h, _⟩ := hot; ⟨vs, h⟩⟩
    have is : ∀ {δ : De} {ω : Om} {p0 p1 p2 pos : Pos} (c : Str × Bool) (hc : c ∈ askedBadChange) (hc2 : c.1 ∈ (["BadChange", "BadDeed", "BadFace", "BadFilm", "BadLayout", "BadName", "BadPacket", "BadTalk", "Nothing"] : List Str)) (hd : δ[0]? = some (some (.ad q.1))) (hg : Gl (cxH C8.CX0 P w K mg base NW "_law_word" (defScope s__law_word) f cdv A outer s H C8.E0 q) c.1) (hdb : (c.1 == ("__debug__" : Str)) = false),
        PD (cxH C8.CX0 P w K mg base NW "_law_word" (defScope s__law_word) f cdv A outer s H C8.E0 q) δ ω (.Call (.Name "isinstance" p0) [.Name "_law_e" p1, .Name c.1 p2] [] pos) (.bool c.2) :=
      fun {δ ω p0 p1 p2 pos} c hc hc2 hd hg hdb => pd_isP 0 (y := "_law_e") Z (pe_glob (v := .ref (He.ga K c.1)) hg (gl c.1 hc2) rfl hdb) (fun v r => r) (WBadChange.ka c hc) mi hd
    refine sd_set 1 (PN.pd (pn_lst (pds_cons (is ("BadChange", true) (by simp) (by simp) rfl rfl rfl) (pds_cons (is ("BadDeed", false) (by simp) (by simp) rfl rfl rfl) (pds_cons (is ("BadFace", false) (by simp) (by simp) rfl rfl rfl) (pds_cons (is ("BadFilm", false) (by simp) (by simp) rfl rfl rfl) pds_nil)))))) ?_ sc_word.nd
    refine sd_set 1 (PN.pd (pn_catL (PD.pl (pd_var 1)) (PN.pl (pn_lst (pds_cons (is ("BadLayout", false) (by simp) (by simp) rfl rfl rfl) (pds_cons (is ("BadName", false) (by simp) (by simp) rfl rfl rfl) (pds_cons (is ("BadPacket", false) (by simp) (by simp) rfl rfl rfl) (pds_cons (is ("BadTalk", false) (by simp) (by simp) rfl rfl rfl) pds_nil)))))) (by decide))) ?_ sc_word.nd
    refine sd_set 1 (PN.pd (pn_catL (PD.pl (pd_var 1)) (PN.pl (pn_lst (pds_cons (is ("Nothing", false) (by simp) (by simp) rfl rfl rfl) pds_nil))) (by decide))) ?_ sc_word.nd
    refine sd_if (PWd.pt (pw_ord (pt_cmpd op_ne rd_neI (pd_sumH (bs := [true, false, false, false, false, false, false, false, false]) (j := 3) HC sc_word.nd (PD.pl (pd_var 1)) (by decide) (blkOk_by (N := NW) (sc := defScope s__law_word) (by decide +kernel)) (fun _ _ _ _ _ => pg_name sc_word.nd rfl (Or.inl rfl)) (fun b s H C cl fp => pd_intB mn (pd_var 3)) ms) pd_int (nomark _))
      (fun _ => pw_or1d (pt_notd (pt_bool (pd_isP 0 (y := "_law_e") (cv := .ty "ValueError") (u := .type "ValueError") Z (pe_bltn rfl mv (by decide +kernel) rfl) (fun v r => r) WBadChange.kv mi)))))) (fun hk => ?_) (fun _ => sd_nil ?_)
    · exact absurd hk (by decide)
    · refine sd_set 2 (PN.pd (pn_lst (pds_cons pd_str (pds_cons pd_str (pds_cons pd_str (pds_cons pd_str (pds_cons pd_str (pds_cons pd_str (pds_cons pd_str (pds_cons pd_str (pds_cons pd_str pds_nil))))))))))) ?_ sc_word.nd
      refine sd_ret (pd_tup (pds_cons pd_str (pds_cons (pd_ixL (PD.pl (pd_var 2)) (pd_idxT (bs := [true, false, false, false, false, false, false, false, false]) (j := 0) (PD.pl (pd_var 1)) rfl (fun i hi => ?_)) (atI_nat (j := 0) rfl)) pds_nil))) rfl
      exact absurd hi (by omega)
end
end K51

namespace K51
open PySem PySem.Spec PyProof.Rows L2 FP
def smS (d : PyData) : Prop := ∀ z, d = .str z → z.length ≤ 1000
section
variable {P : Program} {w : World} {K : PySem.W.Frag} {mg : Str → Option Value} {base : Heap} {f C : Addr} {fd : FuncData}
theorem rd_eqS {K : PySem.W.Frag} {y z : Str} : RD K rEq (.str y) (.str z) (.bool (decide (y = z))) := fun ps u v H _ hx hy Q k => by
  cases hx
  cases hy
  refine ⟨rfl, ?_⟩
  have e : decide (V.str y = V.str z) = decide (y = z) := by
    by_cases c : y = z
    · subst c
      simp
    · rw [decide_eq_false c, decide_eq_false (fun q => c (V.str.inj q))]
  rw [e]
  exact k _ H (Same.refl H) (.bl _)
theorem rd_neT {K : PySem.W.Frag} {y z : Str} : RD K rNe (.str y) (.str z) (.bool (!decide (y = z))) := fun ps u v H _ hx hy Q k => by
  cases hx
  cases hy
  refine ⟨rfl, ?_⟩
  have e : decide (V.str y = V.str z) = decide (y = z) := by
    by_cases c : y = z
    · subst c
      simp
    · rw [decide_eq_false c, decide_eq_false (fun q => c (V.str.inj q))]
  rw [e]
  exact k _ H (Same.refl H) (.bl _)
/-! ### what is a part of a change -/
def geZ : PyData → Bool
  | .int i => decide (0 ≤ i)
  | _ => false
def neZ : PyData → Bool
  | .int i => !decide (i = 0)
  | _ => false
def neE : PyData → Bool
  | .str z => !decide (z = "")
  | _ => false
def isPlace (r c : PyData) : Bool := isWhole r && (geZ r && (isWhole c && geZ c))
def partRoll : List PyData → Bool
  | [b] => isWithin b (-10) 10 && neZ b
  | _ => false
def partPut : List PyData → Bool
  | [r, c, k, y] => isPlace r c && (isWithin k 0 7 && (areSigns y && neE y))
  | _ => false
def partCur : List PyData → Bool
  | [r, c] => isPlace r c
  | _ => false
def isPart : PyData → Bool
  | .tuple (.str z :: told) => if z = "roll" then partRoll told else if z = "put" then partPut told else if z = "cursor" then partCur told else false
  | _ => false
def okP (d : PyData) : Prop := ∀ x told, d = .tuple (x :: told) → told.length ≤ 2000 ∧ ∀ y ∈ told, smS y
def frPlace : List PyData → Rs → Prop := fun ds s => ∃ r c, ds = [r, c] ∧ s = .ok (.bool (isPlace r c))
theorem sc_place : FnScope ["row", "column"] ["row", "column"] (defScope s_is_place) := ⟨rfl, rfl, rfl, by decide +kernel, rfl, by decide +kernel, by decide +kernel⟩
theorem whole_int {d : PyData} (h : isWhole d = true) : ∃ i, d = .int i := by
  cases d <;> first | exact ⟨_, rfl⟩ | cases h
theorem ok_isplace (F : Df K "is_place" s_is_place f fd) (hm : mg "is_place" = some (.ref f)) (G1 : DefOk P w K mg base 1 "is_whole" frWhole) : DefOk P w K mg base 2 "is_place" frPlace := by
  refine def_ok F hm sc_place (fun _ _ _ _ _ _ us hl => match us, hl with | [_, _], _ => rfl) (fun ds r h => by obtain ⟨_, _, rfl, _⟩ := h; rfl) (fun cdv A outer s H E qs ds r hr h => ?_)
  obtain ⟨r, c, rfl, rfl⟩ := h
  refine sd_ret (pd_and (x := isWhole r) (y := geZ r && (isWhole c && geZ c)) (pd_call G1 hr (pds_cons (pd_var 0) pds_nil) ⟨r, rfl, rfl⟩) (fun hr1 => ?_)) rfl
  obtain ⟨i, rfl⟩ := whole_int hr1
  refine pd_and (x := geZ (.int i)) (y := isWhole c && geZ c) (pd_ge (pd_var 0) pd_int) (fun _ => ?_)
  refine pd_and (x := isWhole c) (y := geZ c) (pd_call G1 hr (pds_cons (pd_var 1) pds_nil) ⟨c, rfl, rfl⟩) (fun hc1 => ?_)
  obtain ⟨j, rfl⟩ := whole_int hc1
  exact pd_one (pd_ge (pd_var 1) pd_int)
def frIsPart : List PyData → Rs → Prop := fun ds r => ∃ d, ds = [d] ∧ okP d ∧ r = .ok (.bool (isPart d))
abbrev NPt : List Str := ["part", "by", "row", "column", "ink", "text"]
theorem sc_part : FnScope NPt ["part"] (defScope s_is_part) := ⟨rfl, rfl, rfl, by decide +kernel, rfl, by decide +kernel, by decide +kernel⟩
theorem within_int {d : PyData} {a b : Int} (h : isWithin d a b = true) : ∃ i, d = .int i := by
  cases d <;> first | exact ⟨_, rfl⟩ | cases h
theorem signs_strP {d : PyData} (h : areSigns d = true) : ∃ z, d = .str z := by
  cases d <;> first | exact ⟨_, rfl⟩ | cases h
theorem ok_ispart (F : Df K "is_part" s_is_part f fd) (hm : mg "is_part" = some (.ref f)) (B : Bl mg) (g1 : GlD K mg "MOST_ROLL" (.int 10)) (g2 : GlD K mg "MOST_INK" (.int 7)) (GW : DefOk P w K mg base 2 "is_within" frWithin) (GP : DefOk P w K mg base 2 "is_place" frPlace) (GS : DefOk P w K mg base 1 "are_signs" frSigns) : DefOk P w K mg base 3 "is_part" frIsPart := by
  refine def_ok F hm sc_part (fun _ _ _ _ _ _ us hl => match us, hl with | [_], _ => rfl) (fun ds r h => by obtain ⟨_, rfl, _⟩ := h; rfl) (fun cdv A outer s H E qs ds r hr h => ?_)
  obtain ⟨d, rfl, sm, rfl⟩ := h
  have hr1 : Room 1 (A.deeper (envOfC "is_part" (defScope s_is_part) s.heap.objs.size f cdv)) := hr.mono (by decide)
  by_cases hd : ∃ ds, d = .tuple ds
  · obtain ⟨ds, rfl⟩ := hd
    cases ds with
    | nil => exact sd_ifT (PWd.pt (PWd.eq (pw_ord (pt_notd (pt_bool (pd_isi B.isi B.tuple bb_tuple (pd_var 0) (k_tuple _)))) (fun _ => pw_orT (pt_notd (k := false) (pt_truT (pd_var 0) rfl)))) rfl)) (sd_ret pd_bl rfl)
    | cons x told =>
      obtain ⟨sl, ss⟩ := sm x told rfl
      by_cases hx : ∃ z, x = .str z
      · obtain ⟨z, rfl⟩ := hx
        refine sd_ifF (PWd.pt (pw_ord (x := false) (y := false) (pt_notd (k := true) (pt_bool (pd_isi B.isi B.tuple bb_tuple (pd_var 0) (k_tuple _)))) (fun _ => pw_ord (x := false) (y := false) (pt_notd (k := true) (pt_truT (pd_var 0) rfl)) (fun _ => pw_or1d (pt_notd (k := true) (pt_bool (pd_isi B.isi B.str bb_str (pd_ixT (d := .str z) (pd_var 0) pd_int atI0) (k_str _)))))))) ?_
        refine sd_match (pd_var 0) ?_
        have no : isPart (.tuple (.str z :: told)) = false → SD (cxOf (L2N.CX P w) P w K mg base NPt "is_part" (defScope s_is_part) f cdv A outer s H E) (WOf E) [] ((defBody s_is_part).drop 2) [some (.im (.tuple (.str z :: told))), none, none, none, none, none] ⟨qs, []⟩ (Fin (.ok (.bool (isPart (.tuple (.str z :: told)))))) := by
          intro e
          rw [e]
          exact sd_ret pd_bl rfl
        match told, sl, ss with
        | [b], sl, ss =>
          by_cases hz : z = "roll"
          · subst hz
            refine mc_hit [1] rfl sc_part.nd rfl (by simp) rfl rfl (show capB NPt (defScope s_is_part) ["by"] [1] = true by decide +kernel) ?_
            refine sd_ret (pd_and (x := isWithin b (-10) 10) (y := neZ b) (pd_call GW (hr.mono (by decide)) (pds_cons (pd_var 1) (pds_cons (pd_neg (pd_glob g1)) (pds_cons (pd_glob g1) pds_nil))) ⟨b, -10, 10, rfl, rfl⟩) (fun hb => ?_)) rfl
            obtain ⟨i, rfl⟩ := within_int hb
            exact pd_one (pd_neI (pd_var 1) pd_int)
          · refine mc_word rfl hz rfl (by simp) (mc_len (by simp) (by simp) (mc_len (by simp) (by simp) (mc_nil (no ?_))))
            show (if z = "roll" then _ else if z = "put" then false else if z = "cursor" then false else false) = false
            rw [if_neg hz]
            split <;> (try split) <;> rfl
        | [r, c], sl, ss =>
          by_cases hz : z = "cursor"
          · subst hz
            refine mc_len (by simp) (by simp) (mc_len (by simp) (by simp) (mc_hit [2, 3] rfl sc_part.nd rfl (by simp) rfl rfl (show capB NPt (defScope s_is_part) ["row", "column"] [2, 3] = true by decide +kernel) ?_))
            exact sd_ret (pd_call GP (hr.mono (by decide)) (pds_cons (pd_var 2) (pds_cons (pd_var 3) pds_nil)) ⟨r, c, rfl, rfl⟩) rfl
          · refine mc_len (by simp) (by simp) (mc_len (by simp) (by simp) (mc_word rfl hz rfl (by simp) (mc_nil (no ?_))))
            show (if z = "roll" then false else if z = "put" then false else if z = "cursor" then _ else false) = false
            rw [if_neg hz]
            split <;> (try split) <;> rfl
        | [r, c, k, y], sl, ss =>
          by_cases hz : z = "put"
          · subst hz
            have sy := ss y (by simp)
            refine mc_len (by simp) (by simp) (mc_hit [2, 3, 4, 5] rfl sc_part.nd rfl (by simp) rfl rfl (show capB NPt (defScope s_is_part) ["row", "column", "ink", "text"] [2, 3, 4, 5] = true by decide +kernel) ?_)
            refine sd_ret (pd_and (x := isPlace r c) (y := isWithin k 0 7 && (areSigns y && neE y)) (pd_call GP (hr.mono (by decide)) (pds_cons (pd_var 2) (pds_cons (pd_var 3) pds_nil)) ⟨r, c, rfl, rfl⟩) (fun _ => ?_)) rfl
            refine pd_and (x := isWithin k 0 7) (y := areSigns y && neE y) (pd_call GW (hr.mono (by decide)) (pds_cons (pd_var 4) (pds_cons pd_int (pds_cons (pd_glob g2) pds_nil))) ⟨k, 0, 7, rfl, rfl⟩) (fun _ => ?_)
            refine pd_and (x := areSigns y) (y := neE y) (pd_call GS hr1 (pds_cons (pd_var 5) pds_nil) ⟨y, rfl, rfl, fun z e => sy z e⟩) (fun hs => ?_)
            obtain ⟨q, rfl⟩ := signs_strP hs
            exact pd_one (pd_cmp op_ne rd_neT (pd_var 5) pd_str (nomark _))
          · refine mc_len (by simp) (by simp) (mc_word rfl hz rfl (by simp) (mc_len (by simp) (by simp) (mc_nil (no ?_))))
            show (if z = "roll" then false else if z = "put" then _ else if z = "cursor" then false else false) = false
            rw [if_neg hz]
            split <;> (try split) <;> rfl
        | [], sl, ss =>
          refine mc_len (by simp) (by simp) (mc_len (by simp) (by simp) (mc_len (by simp) (by simp) (mc_nil (no ?_))))
          show (if z = "roll" then false else if z = "put" then false else if z = "cursor" then false else false) = false
          split <;> (try split) <;> (try split) <;> rfl
        | [a, b, c], sl, ss =>
          refine mc_len (by simp) (by simp) (mc_len (by simp) (by simp) (mc_len (by simp) (by simp) (mc_nil (no ?_))))
          show (if z = "roll" then false else if z = "put" then false else if z = "cursor" then false else false) = false
          split <;> (try split) <;> (try split) <;> rfl
        | a :: b :: c :: d :: e :: rest, sl, ss =>
          have hl : rest.length ≤ 2000 := by
            simp only [List.length_cons] at sl
            omega
          have hz : ((.str z :: a :: b :: c :: d :: e :: rest : List PyData)).length ≤ 100000 := by
            simp only [List.length_cons]
            omega
          refine mc_len (by simp) hz (mc_len (by simp) hz (mc_len (by simp) hz (mc_nil (no ?_))))
          show (if z = "roll" then false else if z = "put" then false else if z = "cursor" then false else false) = false
          split <;> (try split) <;> (try split) <;> rfl
      · have nS : isS x = false := by
          cases x with
          | str q => exact absurd ⟨q, rfl⟩ hx
          | _ => rfl
        have e : isPart (.tuple (x :: told)) = false := by
          cases x with
          | str q => exact absurd ⟨q, rfl⟩ hx
          | _ => rfl
        rw [e]
        refine sd_ifT (PWd.pt (PWd.eq (pw_ord (x := false) (pt_notd (k := true) (pt_bool (pd_isi B.isi B.tuple bb_tuple (pd_var 0) (k_tuple _)))) (fun _ => pw_ord (x := false) (pt_notd (k := true) (pt_truT (pd_var 0) rfl)) (fun _ => pw_or1d (pt_notd (pt_bool (pd_isi B.isi B.str bb_str (pd_ixT (d := x) (pd_var 0) pd_int atI0) (k_str _))))))) (by rw [nS]; rfl))) (sd_ret pd_bl rfl)
  · have nT : isT d = false := by
      cases d with
      | tuple q => exact absurd ⟨q, rfl⟩ hd
      | _ => rfl
    have e : isPart d = false := by
      cases d with
      | tuple q => exact absurd ⟨q, rfl⟩ hd
      | _ => rfl
    rw [e]
    exact sd_ifT (PWd.pt (pw_orT (PTd.eq (pt_notd (pt_bool (pd_isi B.isi B.tuple bb_tuple (pd_var 0) (k_tuple _)))) (by rw [nT]; rfl)))) (sd_ret pd_bl rfl)
/-! ### need_change -/
def areParts : PyData → Bool
  | .list xs => xs.all isPart
  | _ => false
def okPs (d : PyData) : Prop := ∀ xs, d = .list xs → ∀ x ∈ xs, okP x
def frNeedC (C : Addr) : List PyData → Rs → Prop := fun ds r => ∃ d, ds = [d] ∧ okPs d ∧ r = if areParts d then .ok .none else .er C
theorem sc_nc : FnScope ["change", "part"] ["change"] (defScope s_need_change) := ⟨rfl, rfl, rfl, by decide +kernel, rfl, by decide +kernel, by decide +kernel⟩
theorem ok_nc (F : Df K "need_change" s_need_change f fd) (hm : mg "need_change" = some (.ref f)) (B : Bl mg) (ml : mg "list" = none) (X1 : ExcF K mg "BadChange" C) (G1 : DefOk P w K mg base 3 "is_part" frIsPart) : DefOk P w K mg base 4 "need_change" (frNeedC C) := by
  refine def_ok F hm sc_nc (fun _ _ _ _ _ _ us hl => match us, hl with | [_], _ => rfl) (fun ds r h => by obtain ⟨_, rfl, _⟩ := h; rfl) (fun cdv A outer s H E qs ds r hr h => ?_)
  obtain ⟨d, rfl, sm, rfl⟩ := h
  have tk : L2N.Takes (cxOf (L2N.CX P w) P w K mg base ["change", "part"] "need_change" (defScope s_need_change) f cdv A outer s H E) (WOf E) := L2N.takes_of rfl rfl rfl rfl
  by_cases hd : ∃ xs, d = .list xs
  · obtain ⟨xs, rfl⟩ := hd
    refine sd_ifF (pt_notd (k := true) (pt_bool (pd_isi B.isi ml bb_list (pd_var 0) (k_list _)))) ?_
    refine sd_for 1 (items := xs) (fun i δ' ω' => (xs.take i).all isPart = true ∧ ω' = ⟨qs, []⟩ ∧ ∃ y1, δ' = [some (.im (.list xs)), y1]) (wk_lst (pd_var 0)) ⟨rfl, rfl, _, rfl⟩ ?_ ?_ (pg_name sc_nc.nd rfl (Or.inl rfl)) (passes_of rfl) rfl
    · rintro i d δ' ω' hd ⟨ha, rfl, y1, rfl⟩
      refine sd_if (pt_notd (pt_bool (pd_call G1 hr (pds_cons (pd_var 1) pds_nil) ⟨d, rfl, sm xs rfl d (List.mem_of_getElem? hd), rfl⟩))) (fun hk => ?_) (fun hk => sd_nil (sd_nil ⟨?_, rfl, _, rfl⟩))
      · have hf : isPart d = false := by
          cases e : isPart d with
          | false => rfl
          | true =>
            rw [e] at hk
            cases hk
        refine sd_raise X1 tk ?_ rfl
        show (if areParts (.list xs) = true then Rs.ok PyData.none else Rs.er C) = Rs.er C
        rw [if_neg]
        intro z
        have := List.all_eq_true.mp (show xs.all isPart = true from z) d (List.mem_of_getElem? hd)
        rw [hf] at this
        cases this
      · have hf : isPart d = true := by
          cases e : isPart d with
          | true => rfl
          | false =>
            rw [e] at hk
            cases hk
        rw [List.take_add_one, hd, List.all_append, ha]
        simp [hf]
    · rintro δ' ω' ⟨ha, rfl, y1, rfl⟩
      refine sd_nil ?_
      rw [List.take_length] at ha
      show (if areParts (.list xs) = true then Rs.ok PyData.none else Rs.er C) = Rs.ok PyData.none
      rw [if_pos (show areParts (.list xs) = true from ha)]
  · have nL : isL d = false := by
      cases d with
      | list q => exact absurd ⟨q, rfl⟩ hd
      | _ => rfl
    refine sd_ifT (PTd.eq (pt_notd (pt_bool (pd_isi B.isi ml bb_list (pd_var 0) (k_list _)))) (by rw [nL]; rfl)) (sd_raise X1 tk ?_ rfl)
    show (if areParts d = true then Rs.ok PyData.none else Rs.er C) = Rs.er C
    cases d with
    | list q => exact absurd ⟨q, rfl⟩ hd
    | _ => rfl
end
end K51

namespace K51
open PySem PySem.Spec PyProof.Rows L2 FP
/-! ### numbers that are written -/
def numT (n : Int) : Str := Str.ofString (toString n)
def okFig (c : Nat) : Bool := decide (48 ≤ c) && decide (c ≤ 57)
def figs (z : Str) : Str := Txt.removeprefix z "-"
def numOk (z : Str) : Bool := (decide (1 ≤ (figs z).length) && decide ((figs z).length ≤ 3)) && (figs z).cps.toList.all okFig
def numD (z : Str) : PyData := if numOk z = true then (match intText? z with | some n => if numT n = z then .int n else .none | none => .none) else .none
theorem numD_int {z : Str} {n : Int} (h : numD z = .int n) : numT n = z := by
  unfold numD at h
  split at h
  · split at h
    · split at h
      · rename_i e
        injection h with h
        rw [← h]
        exact e
      · cases h
    · cases h
  · cases h
theorem numD_or (z : Str) : (∃ n, numD z = .int n) ∨ numD z = .none := by
  unfold numD
  split
  · split
    · split
      · exact .inl ⟨_, rfl⟩
      · exact .inr rfl
    · exact .inr rfl
  · exact .inr rfl
def isI' (n : Nat) : PyData → Bool
  | .int m => decide (m = (n : Int))
  | _ => false
theorem isI'_ok {n : Nat} {d : PyData} (h : isI' n d = true) : d = .int (n : Int) := by
  cases d <;> first | (cases h; done) | skip
  rename_i m
  exact congrArg PyData.int (of_decide_eq_true h)
theorem numD_chk : ∀ n, n < 21 → 1 ≤ n → isI' n (numD (numT (n : Int))) = true := by decide +kernel
theorem numD_of {n : Int} (h1 : 1 ≤ n) (h2 : n ≤ 20) : numD (numT n) = .int n := by
  obtain ⟨k, rfl⟩ : ∃ k : Nat, n = (k : Int) := ⟨n.toNat, by omega⟩
  exact isI'_ok (numD_chk k (by omega) (by omega))
theorem numT_len : ∀ n : Nat, n < 21 → 1 ≤ n → (numT (n : Int)).length ≤ 2 := by decide +kernel
/-- what is ahead of the figures -/
theorem figs_or (z : Str) : figs z = z ∨ z.cps.toList = 45 :: (figs z).cps.toList := by
  unfold figs
  rw [StrLaws.removeprefix_eq]
  split
  · rename_i h
    have h := (Bool.and_eq_true _ _ ▸ h).2
    obtain ⟨xs⟩ := z
    right
    have e1 : (("-" : Str)).cps = #[45] := by decide +kernel
    have hl : (("-" : Str)).length = 1 := by decide +kernel
    unfold Builtin.Str.subAt at h
    have e := congrArg Array.toList (eq_of_beq h)
    rw [e1] at e
    rw [hl] at e ⊢
    cases hx : xs.toList with
    | nil => simp [hx] at e
    | cons a r =>
      have ea : a = 45 := by simpa [hx] using e
      subst ea
      have hn : xs.size = r.length + 1 := by rw [← Array.length_toList, hx]; rfl
      show 45 :: r = 45 :: (((List.drop 1 (45 :: r)).take (xs.size - 1)).toArray).toList
      rw [hn]
      simp
  · exact .inl rfl
theorem dv_le : ∀ {cs : List Nat}, NumText.AllDigits cs → cs.length ≤ 3 → NumText.digitsVal cs < 1000
  | [], _, _ => by decide
  | [a], h, _ => by
    have h1 := h a (by simp)
    show (0 * 10 + (a - 48)) < 1000
    omega
  | [a, b], h, _ => by
    have h1 := h a (by simp)
    have h2 := h b (by simp)
    show ((0 * 10 + (a - 48)) * 10 + (b - 48)) < 1000
    omega
  | [a, b, c], h, _ => by
    have h1 := h a (by simp)
    have h2 := h b (by simp)
    have h3 := h c (by simp)
    show (((0 * 10 + (a - 48)) * 10 + (b - 48)) * 10 + (c - 48)) < 1000
    omega
  | _ :: _ :: _ :: _ :: _, _, h => by simp at h
theorem log_small {n : Nat} (h : n < 1000) : n.log2 < 1920 := by
  have : n.log2 ≤ n := Nat.log2_le_self n
  omega
theorem num_int {z : Str} (h : numOk z = true) : ∃ n : Int, intText? z = some n ∧ z.length ≤ 640 ∧ n.natAbs.log2 < 1920 := by
  have hh := Bool.and_eq_true _ _ ▸ h
  have h1 := Bool.and_eq_true _ _ ▸ hh.1
  have a1 := of_decide_eq_true h1.1
  have a2 := of_decide_eq_true h1.2
  have ad : NumText.AllDigits (figs z).cps.toList := fun c hc => by
    have q := Bool.and_eq_true _ _ ▸ (List.all_eq_true.mp hh.2 c hc)
    exact ⟨of_decide_eq_true q.1, of_decide_eq_true q.2⟩
  have fl : (figs z).cps.toList.length = (figs z).length := Array.length_toList
  have ne : (figs z).cps.toList ≠ [] := fun e => by rw [e] at fl; simp at fl; omega
  rcases figs_or z with e | e
  · rw [e] at ad ne a2 fl
    have dl := dv_le ad (by omega)
    exact ⟨_, PySem.intText_digits ad ne (by omega), by omega, log_small (by rw [Int.natAbs_natCast]; exact dl)⟩
  · have zl : z.length = (figs z).length + 1 := by
      have := congrArg List.length e
      rw [List.length_cons, fl, Array.length_toList] at this
      exact this
    have dl := dv_le ad (by omega)
    exact ⟨_, PySem.intText_neg e ad ne (by omega), by omega, log_small (by rw [Int.natAbs_neg, Int.natAbs_natCast]; exact dl)⟩
section
variable {P : Program} {w : World} {K : PySem.W.Frag} {mg : Str → Option Value} {base : Heap} {f C AB : Addr} {fd : FuncData}
def frNum : List PyData → Rs → Prop := fun ds r => ∃ z : Str, z.length ≤ 1000 ∧ ds = [.str z] ∧ r = .ok (numD z)
abbrev NNo : List Str := ["text", "figures", "figure", "number"]
theorem sc_no : FnScope NNo ["text"] (defScope s_number_of) := ⟨rfl, rfl, rfl, by decide +kernel, rfl, by decide +kernel, by decide +kernel⟩
theorem figs_le (z : Str) : (figs z).length ≤ z.length := by
  rcases figs_or z with e | e
  · rw [e]
    exact Nat.le_refl _
  · have := congrArg List.length e
    rw [List.length_cons, Array.length_toList, Array.length_toList] at this
    show (figs z).cps.size ≤ z.cps.size
    omega
theorem ok_num (F : Df K "number_of" s_number_of f fd) (hm : mg "number_of" = some (.ref f)) (B : Bl mg) (ms : mg "str" = none) (mi : mg "int" = none) (g : GlD K mg "MOST_FIGURES" (.int 3)) : DefOk P w K mg base 1 "number_of" frNum := by
  refine def_ok F hm sc_no (fun _ _ _ _ _ _ us hl => match us, hl with | [_], _ => rfl) (fun ds r h => by obtain ⟨_, _, rfl, _⟩ := h; rfl) (fun cdv A outer s H E qs ds r hr h => ?_)
  obtain ⟨z, hz, rfl, rfl⟩ := h
  have fz := figs_le z
  refine sd_set 1 (d := .str (figs z)) (pd_rmpre (pd_var 0) pd_str (by omega)) ?_ sc_no.nd
  have hl : (signsD (figs z)).length = (figs z).length := by
    unfold signsD
    rw [List.length_map, Array.length_toList]
    rfl
  refine sd_if (kk := !numOk z) (PTd.eq (PWd.pt (PWd.eq (pw_ord (x := !(decide ((1 : Int) ≤ ((figs z).length : Int)) && decide (((figs z).length : Int) ≤ 3))) (pt_notd (pt_chaind op_le op_le rd_B0 (fun _ => rd_B0) pd_int (pd_lenS B.len (pd_var 1) (by omega)) (fun _ => pd_glob g))) (fun _ => pw_or1d (pt_notd (k := ((figs z).cps.toList.map okFig).all id) (pt_bool (pd_all rfl B.all (PN.pl (pn_lc (y := "figure") (j := 2) (items := signsD (figs z)) (ys := ((figs z).cps.toList.map okFig).map .bool) rfl sc_no.nd (PWk.ws (wk_str (pd_var 1))) ?_ (blkOk_by (N := NNo) (sc := defScope s_number_of) (by decide +kernel)) (fun _ _ _ _ _ => pg_name sc_no.nd rfl (Or.inl rfl)) ?_ (by rw [hl]; omega)))))))) rfl)) ?_) (fun hk => ?_) (fun hk => ?_)
  · unfold signsD
    rw [List.length_map, List.length_map, List.length_map]
  · intro i d y hd hy D o s H C cl fp
    unfold signsD at hd
    rw [List.getElem?_map] at hd
    rw [List.getElem?_map, List.getElem?_map] at hy
    cases hc : (figs z).cps.toList[i]? with
    | none =>
      rw [hc] at hd
      cases hd
    | some c =>
      rw [hc] at hd hy
      cases hd
      cases hy
      refine PD.eq (pd_chain op_le_str op_le_str rd_leS (fun _ => rd_leS) pd_str (pd_var 2) (fun _ => pd_str)) ?_
      show PyData.bool (!decide (([c] : List Nat) < [48]) && !decide (([57] : List Nat) < [c])) = PyData.bool (okFig c)
      rw [le_one, le_one]
      rfl
  · have e1 : decide ((1 : Int) ≤ ((figs z).length : Int)) = decide (1 ≤ (figs z).length) := decide_eq_decide.mpr (by omega)
    have e2 : decide (((figs z).length : Int) ≤ 3) = decide ((figs z).length ≤ 3) := decide_eq_decide.mpr (by omega)
    have e3 : ((figs z).cps.toList.map okFig).all id = (figs z).cps.toList.all okFig := by rw [List.all_map]; rfl
    rw [e1, e2, e3]
    unfold numOk
    generalize (decide (1 ≤ (figs z).length) && decide ((figs z).length ≤ 3)) = q1
    generalize (figs z).cps.toList.all okFig = q2
    cases q1 <;> cases q2 <;> rfl
  · have no : numOk z = false := by simpa using hk
    refine sd_ret pd_non ?_
    show Rs.ok (numD z) = Rs.ok .none
    unfold numD
    rw [no]
    rfl
  · have yes : numOk z = true := by simpa using hk
    obtain ⟨n, hn, h640, hlg⟩ := num_int yes
    refine sd_nil ?_
    refine sd_set 3 (d := .int n) (pd_intS (pd_var 0) mi hn h640) ?_ sc_no.nd
    refine sd_ret (d := numD z) (pd_if (k := decide (numT n = z)) (pt_cmpd op_eq rd_eqS (pd_strI (pd_var 3) ms hlg) (pd_var 0) (nomark _)) (fun hk => PD.eq (pd_var 3) ?_) (fun hk => PD.eq pd_non ?_)) rfl
    · unfold numD
      rw [yes, hn]
      show PyData.int n = if numT n = z then .int n else .none
      rw [if_pos (of_decide_eq_true hk)]
    · unfold numD
      rw [yes, hn]
      show PyData.none = if numT n = z then .int n else .none
      rw [if_neg (of_decide_eq_false hk)]
end
end K51

namespace K51
open PySem PySem.Spec PyProof.Rows L2 FP
/-! ### parts, as they stand in a text -/
inductive Pa
  | roll (n : Int)
  | cur (r c : Nat)
  | put (r c k : Nat) (z : Str)
def Pa.d : Pa → PyData
  | .roll n => .tuple [.str "roll", .int n]
  | .cur r c => .tuple [.str "cursor", .int (r : Int), .int (c : Int)]
  | .put r c k z => .tuple [.str "put", .int (r : Int), .int (c : Int), .int (k : Int), .str z]
def Pa.letter : Pa → Nat
  | .roll _ => 114
  | .cur _ _ => 99
  | .put .. => 112
def Pa.nums : Pa → List Int
  | .roll n => [n]
  | .cur r c => [(r : Int), (c : Int)]
  | .put r c k z => [(r : Int), (c : Int), (k : Int), (z.length : Int)]
def Pa.endc : Pa → Nat
  | .put .. => 58
  | _ => 59
def Pa.tail : Pa → List Nat
  | .put _ _ _ z => z.cps.toList
  | _ => []
def Pa.small : Pa → Prop
  | .roll n => -10 ≤ n ∧ n ≤ 10
  | .cur r c => r ≤ 999 ∧ c ≤ 999
  | .put r c k z => r ≤ 999 ∧ c ≤ 999 ∧ k ≤ 999 ∧ z.length ≤ 999
def comma : Str := ⟨#[44]⟩
def numsL (ns : List Int) : List Nat := joinL 44 (ns.map numT)
def Pa.cs (p : Pa) : List Nat := p.letter :: (numsL p.nums ++ p.endc :: p.tail)
/-! ### a part, read -/
def endOf (l : Nat) : Option Nat := if l = 114 then some 59 else if l = 99 then some 59 else if l = 112 then some 58 else none
def rdPut (nums : List PyData) (after : List Nat) (k : Nat) : Option (PyData × Nat) := match nums with
  | [a, b, c, .int m] => if 0 ≤ m ∧ (after.take m.toNat).length = m.toNat then some (.tuple [.str "put", a, b, c, .str ⟨(after.take m.toNat).toArray⟩], k + m.toNat) else none
  | _ => none
def wordOf (l : Nat) : Str := if l = 114 then "roll" else "cursor"
def numsOf (b : List Nat) : List PyData := (Txt.split ⟨b.toArray⟩ comma).map numD
def rdPart : List Nat → Option (PyData × Nat)
  | [] => none
  | l :: r => match endOf l with
    | none => none
    | some e => if (r.takeWhile (fun c => decide (c ≠ e))).length = r.length then none
      else if l = 112 then rdPut (numsOf (r.takeWhile fun c => decide (c ≠ e))) (r.drop ((r.takeWhile fun c => decide (c ≠ e)).length + 1)) ((r.takeWhile fun c => decide (c ≠ e)).length + 2)
      else some (.tuple (.str (wordOf l) :: numsOf (r.takeWhile fun c => decide (c ≠ e))), (r.takeWhile fun c => decide (c ≠ e)).length + 2)
theorem tw_app {e : Nat} : ∀ {J r : List Nat}, e ∉ J → (J ++ e :: r).takeWhile (fun c => decide (c ≠ e)) = J
  | [], r, _ => by
    show List.takeWhile _ (e :: r) = []
    rw [List.takeWhile_cons_of_neg (by simp)]
  | x :: J, r, h => by
    have hx : x ≠ e := fun q => h (by rw [q]; exact List.mem_cons_self)
    show List.takeWhile _ (x :: (J ++ e :: r)) = _
    rw [List.takeWhile_cons_of_pos (by exact decide_eq_true hx), tw_app fun q => h (List.mem_cons_of_mem _ q)]
theorem tw_all {e : Nat} : ∀ {J : List Nat}, e ∉ J → J.takeWhile (fun c => decide (c ≠ e)) = J
  | [], _ => rfl
  | x :: J, h => by
    have hx : x ≠ e := fun q => h (by rw [q]; exact List.mem_cons_self)
    rw [List.takeWhile_cons_of_pos (by exact decide_eq_true hx), tw_all fun q => h (List.mem_cons_of_mem _ q)]
theorem num_chk : ∀ n, n < 1000 → isI' n (numD (numT (n : Int))) = true := by decide +kernel
theorem num_nat {n : Nat} (h : n < 1000) : numD (numT (n : Int)) = .int (n : Int) := isI'_ok (num_chk n h)
def isN' (n : Nat) : PyData → Bool
  | .int m => decide (m = -(n : Int))
  | _ => false
theorem neg_chk : ∀ n, n < 11 → 1 ≤ n → isN' n (numD (numT (-(n : Int)))) = true := by decide +kernel
theorem num_roll {n : Int} (h1 : -10 ≤ n) (h2 : n ≤ 10) : numD (numT n) = .int n := by
  by_cases h : 0 ≤ n
  · obtain ⟨k, rfl⟩ : ∃ k : Nat, n = (k : Int) := ⟨n.toNat, by omega⟩
    exact num_nat (by omega)
  · obtain ⟨k, rfl⟩ : ∃ k : Nat, n = -(k : Int) := ⟨(-n).toNat, by omega⟩
    have := neg_chk k (by omega) (by omega)
    revert this
    cases numD (numT (-(k : Int))) <;> intro q <;> first | (cases q; done) | exact congrArg PyData.int (of_decide_eq_true q)
theorem numT_free {c : Nat} (h : c = 44 ∨ c = 58 ∨ c = 59) (n : Int) : c ∉ (numT n).cps.toList := by
  rcases h with rfl | rfl | rfl
  · exact PyProof.Rows.int_text_free' 44 ⟨by decide, by decide⟩ n
  · exact PyProof.Rows.int_text_free' 58 ⟨by decide, by decide⟩ n
  · exact PyProof.Rows.int_text_free' 59 ⟨by decide, by decide⟩ n
theorem numsL_free {e : Nat} (he : e = 58 ∨ e = 59) : ∀ ns : List Int, e ∉ numsL ns
  | [] => List.not_mem_nil
  | [n] => numT_free (.inr he) n
  | n :: m :: r => fun q => by
    have q : e ∈ (numT n).cps.toList ++ 44 :: numsL (m :: r) := q
    rcases List.mem_append.mp q with q | q
    · exact numT_free (.inr he) n q
    · rcases List.mem_cons.mp q with q | q
      · omega
      · exact numsL_free he (m :: r) q
theorem numsOf_L {ns : List Int} (h : ns ≠ []) : numsOf (numsL ns) = ns.map fun n => numD (numT n) := by
  unfold numsOf
  have e : (⟨(numsL ns).toArray⟩ : Str) = Str.join comma (ns.map numT) := by
    have := join_cps 44 (ns.map numT)
    unfold numsL
    rw [← this]
    rfl
  rw [e, show Txt.split (Str.join comma (ns.map numT)) comma = ns.map numT from split_join (by simpa using h) (fun w hw => by
    obtain ⟨n, _, rfl⟩ := List.mem_map.mp hw
    exact numT_free (.inl rfl) n), List.map_map]
  rfl
theorem Pa.end_of (p : Pa) : endOf p.letter = some p.endc := by cases p <;> rfl
theorem Pa.endc_or (p : Pa) : p.endc = 58 ∨ p.endc = 59 := by cases p <;> simp [Pa.endc]
theorem Pa.nums_ne (p : Pa) : p.nums ≠ [] := by cases p <;> simp [Pa.nums]
theorem Pa.nums_ok {p : Pa} (h : p.small) : ∀ n ∈ p.nums, numD (numT n) = .int n := by
  cases p with
  | roll m =>
    intro n hn
    rw [List.mem_singleton.mp hn]
    exact num_roll h.1 h.2
  | cur r c =>
    intro n hn
    simp only [Pa.nums, List.mem_cons, List.not_mem_nil, or_false] at hn
    have h : r ≤ 999 ∧ c ≤ 999 := h
    rcases hn with rfl | rfl
    · exact num_nat (by omega)
    · exact num_nat (by omega)
  | put r c k z =>
    intro n hn
    simp only [Pa.nums, List.mem_cons, List.not_mem_nil, or_false] at hn
    have h : r ≤ 999 ∧ c ≤ 999 ∧ k ≤ 999 ∧ z.length ≤ 999 := h
    rcases hn with rfl | rfl | rfl | rfl
    · exact num_nat (by omega)
    · exact num_nat (by omega)
    · exact num_nat (by omega)
    · exact num_nat (by omega)
theorem Pa.read {p : Pa} (h : p.small) (rest : List Nat) : rdPart (p.cs ++ rest) = some (p.d, p.cs.length) := by
  have free := numsL_free p.endc_or p.nums
  have nz : numsOf (numsL p.nums) = p.nums.map .int := by
    rw [numsOf_L p.nums_ne]
    exact List.map_congr_left fun n hn => p.nums_ok h n hn
  have ec : p.cs ++ rest = p.letter :: (numsL p.nums ++ p.endc :: (p.tail ++ rest)) := by
    show p.letter :: ((numsL p.nums ++ p.endc :: p.tail) ++ rest) = _
    rw [List.append_assoc]
    rfl
  have ln : p.cs.length = (numsL p.nums).length + 2 + p.tail.length := by
    show ((numsL p.nums ++ p.endc :: p.tail).length) + 1 = _
    rw [List.length_append, List.length_cons]
    omega
  have dr : (numsL p.nums ++ p.endc :: (p.tail ++ rest)).drop ((numsL p.nums).length + 1) = p.tail ++ rest := by
    rw [← List.drop_drop, List.drop_left]
    rfl
  have nl : (numsL p.nums).length ≠ (numsL p.nums ++ p.endc :: (p.tail ++ rest)).length := by
    rw [List.length_append, List.length_cons]
    omega
  rw [ec, ln]
  show (match endOf p.letter with | none => none | some e => _) = _
  rw [p.end_of]
  show (if ((numsL p.nums ++ p.endc :: (p.tail ++ rest)).takeWhile (fun c => decide (c ≠ p.endc))).length = (numsL p.nums ++ p.endc :: (p.tail ++ rest)).length then none
      else if p.letter = 112 then rdPut (numsOf ((numsL p.nums ++ p.endc :: (p.tail ++ rest)).takeWhile fun c => decide (c ≠ p.endc))) ((numsL p.nums ++ p.endc :: (p.tail ++ rest)).drop (((numsL p.nums ++ p.endc :: (p.tail ++ rest)).takeWhile fun c => decide (c ≠ p.endc)).length + 1)) (((numsL p.nums ++ p.endc :: (p.tail ++ rest)).takeWhile fun c => decide (c ≠ p.endc)).length + 2)
      else some (.tuple (.str (wordOf p.letter) :: numsOf ((numsL p.nums ++ p.endc :: (p.tail ++ rest)).takeWhile fun c => decide (c ≠ p.endc))), ((numsL p.nums ++ p.endc :: (p.tail ++ rest)).takeWhile fun c => decide (c ≠ p.endc)).length + 2)) = _
  rw [tw_app free, if_neg nl, dr, nz]
  cases p with
  | roll n => rfl
  | cur r c => rfl
  | put r c k z =>
    have zl : z.cps.toList.length = z.length := Array.length_toList
    have tk : (z.cps.toList ++ rest).take z.length = z.cps.toList := by
      rw [← zl, List.take_left]
    show (if (112 : Nat) = 112 then rdPut [.int (r : Int), .int (c : Int), .int (k : Int), .int (z.length : Int)] (z.cps.toList ++ rest) _ else _) = _
    rw [if_pos rfl]
    show (if (0 : Int) ≤ (z.length : Int) ∧ ((z.cps.toList ++ rest).take ((z.length : Int).toNat)).length = ((z.length : Int).toNat) then some (PyData.tuple [.str "put", .int (r : Int), .int (c : Int), .int (k : Int), .str ⟨((z.cps.toList ++ rest).take ((z.length : Int).toNat)).toArray⟩], _ + ((z.length : Int).toNat)) else none) = _
    rw [Int.toNat_natCast, tk, if_pos ⟨by omega, zl⟩, ← zl]
    rfl
/-- a part whose last sign is gone -/
theorem Pa.cut {p : Pa} (h : p.small) (ht : ∀ r c k z, p = .put r c k z → z.length ≠ 0) : rdPart p.cs.dropLast = none := by
  have free := numsL_free p.endc_or p.nums
  cases p with
  | roll n =>
    have free : 59 ∉ numsL [n] := free
    have e : (Pa.roll n).cs.dropLast = 114 :: numsL [n] := by
      show (114 :: (numsL [n] ++ [59])).dropLast = _
      rw [← List.cons_append, List.dropLast_concat]
    rw [e]
    show (if ((numsL [n]).takeWhile (fun c => decide (c ≠ 59))).length = (numsL [n]).length then none else _) = none
    rw [tw_all free, if_pos rfl]
  | cur r c =>
    have free : 59 ∉ numsL [(r : Int), (c : Int)] := free
    have e : (Pa.cur r c).cs.dropLast = 99 :: numsL [(r : Int), (c : Int)] := by
      show (99 :: (numsL [(r : Int), (c : Int)] ++ [59])).dropLast = _
      rw [← List.cons_append, List.dropLast_concat]
    rw [e]
    show (if ((numsL [(r : Int), (c : Int)]).takeWhile (fun c => decide (c ≠ 59))).length = (numsL [(r : Int), (c : Int)]).length then none else _) = none
    rw [tw_all free, if_pos rfl]
  | put r c k z =>
    have zl : z.cps.toList.length = z.length := Array.length_toList
    have z0 := ht r c k z rfl
    have ne : z.cps.toList ≠ [] := fun q => by rw [q] at zl; exact z0 zl.symm
    have e : (Pa.put r c k z).cs.dropLast = 112 :: (numsL (Pa.put r c k z).nums ++ 58 :: z.cps.toList.dropLast) := by
      show (112 :: (numsL (Pa.put r c k z).nums ++ 58 :: z.cps.toList)).dropLast = _
      rw [List.dropLast_cons_of_ne_nil (by simp), List.dropLast_append_of_ne_nil (by simp), List.dropLast_cons_of_ne_nil ne]
    have nz : numsOf (numsL (Pa.put r c k z).nums) = (Pa.put r c k z).nums.map .int := by
      rw [numsOf_L (Pa.nums_ne _)]
      exact List.map_congr_left fun n hn => Pa.nums_ok h n hn
    rw [e]
    generalize hJ : numsL (Pa.put r c k z).nums = J at free nz
    have free : 58 ∉ J := free
    have dr : (J ++ 58 :: z.cps.toList.dropLast).drop (J.length + 1) = z.cps.toList.dropLast := by
      rw [← List.drop_drop, List.drop_left]
      rfl
    show (if ((J ++ 58 :: z.cps.toList.dropLast).takeWhile (fun c => decide (c ≠ 58))).length = (J ++ 58 :: z.cps.toList.dropLast).length then none
      else if (112 : Nat) = 112 then rdPut (numsOf ((J ++ 58 :: z.cps.toList.dropLast).takeWhile fun c => decide (c ≠ 58))) ((J ++ 58 :: z.cps.toList.dropLast).drop (((J ++ 58 :: z.cps.toList.dropLast).takeWhile fun c => decide (c ≠ 58)).length + 1)) (((J ++ 58 :: z.cps.toList.dropLast).takeWhile fun c => decide (c ≠ 58)).length + 2) else _) = none
    rw [tw_app free, if_neg (by rw [List.length_append, List.length_cons]; omega), if_pos rfl, dr, nz]
    show (if (0 : Int) ≤ (z.length : Int) ∧ ((z.cps.toList.dropLast).take ((z.length : Int).toNat)).length = ((z.length : Int).toNat) then _ else none) = none
    rw [if_neg]
    rintro ⟨_, q⟩
    rw [Int.toNat_natCast, List.length_take, List.length_dropLast, zl] at q
    omega
end K51

namespace K51
open PySem PySem.Spec PyProof.Rows L2 FP
def rdIn (l : Nat) (r : List Nat) (e : Nat) : Option (PyData × Nat) := if (r.takeWhile (fun c => decide (c ≠ e))).length = r.length then none
  else if l = 112 then rdPut (numsOf (r.takeWhile fun c => decide (c ≠ e))) (r.drop ((r.takeWhile fun c => decide (c ≠ e)).length + 1)) ((r.takeWhile fun c => decide (c ≠ e)).length + 2)
  else some (.tuple (.str (wordOf l) :: numsOf (r.takeWhile fun c => decide (c ≠ e))), (r.takeWhile fun c => decide (c ≠ e)).length + 2)
theorem rd_cons (l : Nat) (r : List Nat) : rdPart (l :: r) = (match endOf l with | none => none | some e => rdIn l r e) := rfl
theorem rd_0 {l : Nat} {r : List Nat} (h : endOf l = none) : rdPart (l :: r) = none := by
  rw [rd_cons, h]
theorem rd_1 {l e : Nat} {r : List Nat} (h : endOf l = some e) (n : e ∉ r) : rdPart (l :: r) = none := by
  rw [rd_cons, h]
  show (if (r.takeWhile (fun c => decide (c ≠ e))).length = r.length then none else _) = none
  rw [tw_all n, if_pos rfl]
theorem nlen {J r : List Nat} {e : Nat} : J.length ≠ (J ++ e :: r).length := by
  rw [List.length_append, List.length_cons]
  omega
theorem rd_2 {J r : List Nat} (n : 58 ∉ J) : rdPart (112 :: (J ++ 58 :: r)) = rdPut (numsOf J) r (J.length + 2) := by
  have dr : (J ++ 58 :: r).drop (J.length + 1) = r := by
    rw [← List.drop_drop, List.drop_left]
    rfl
  show (if ((J ++ 58 :: r).takeWhile (fun c => decide (c ≠ 58))).length = (J ++ 58 :: r).length then none else if (112 : Nat) = 112 then rdPut (numsOf ((J ++ 58 :: r).takeWhile fun c => decide (c ≠ 58))) ((J ++ 58 :: r).drop (((J ++ 58 :: r).takeWhile fun c => decide (c ≠ 58)).length + 1)) (((J ++ 58 :: r).takeWhile fun c => decide (c ≠ 58)).length + 2) else _) = _
  rw [tw_app n, if_neg nlen, if_pos rfl, dr]
theorem rd_3 {l e : Nat} {J r : List Nat} (h : endOf l = some e) (hl : l ≠ 112) (n : e ∉ J) : rdPart (l :: (J ++ e :: r)) = some (.tuple (.str (wordOf l) :: numsOf J), J.length + 2) := by
  rw [rd_cons, h]
  show (if ((J ++ e :: r).takeWhile (fun c => decide (c ≠ e))).length = (J ++ e :: r).length then none else if l = 112 then _ else some (PyData.tuple (.str (wordOf l) :: numsOf ((J ++ e :: r).takeWhile fun c => decide (c ≠ e))), ((J ++ e :: r).takeWhile fun c => decide (c ≠ e)).length + 2)) = _
  rw [tw_app n, if_neg nlen, if_neg hl]
theorem tw_or (e : Nat) : ∀ r : List Nat, e ∉ r ∨ ∃ J r', r = J ++ e :: r' ∧ e ∉ J
  | [] => .inl List.not_mem_nil
  | x :: r => by
    by_cases hx : x = e
    · exact .inr ⟨[], r, by rw [hx]; rfl, List.not_mem_nil⟩
    · rcases tw_or e r with h | ⟨J, r', e1, h⟩
      · exact .inl fun q => by
          rcases List.mem_cons.mp q with q | q
          · exact hx q.symm
          · exact h q
      · exact .inr ⟨x :: J, r', by rw [e1]; rfl, fun q => by
          rcases List.mem_cons.mp q with q | q
          · exact hx q.symm
          · exact h q⟩
theorem end_cases (l : Nat) : (endOf l = none ∧ l ≠ 114 ∧ l ≠ 99 ∧ l ≠ 112) ∨ (l = 112 ∧ endOf l = some 58) ∨ ((l = 114 ∨ l = 99) ∧ endOf l = some 59) := by
  unfold endOf
  by_cases h1 : l = 114
  · exact .inr (.inr ⟨.inl h1, by rw [if_pos h1]⟩)
  · by_cases h2 : l = 99
    · exact .inr (.inr ⟨.inr h2, by rw [if_neg h1, if_pos h2]⟩)
    · by_cases h3 : l = 112
      · exact .inr (.inl ⟨h3, by rw [if_neg h1, if_neg h2, if_pos h3]⟩)
      · exact .inl ⟨by rw [if_neg h1, if_neg h2, if_neg h3], h1, h2, h3⟩
/-- what the module's ENDS have -/
structure Ends (w : World) (K : PySem.W.Frag) (mg : Str → Option Value) (A : Addr) : Prop where
  tab : KTab w K mg "ENDS" A
  r : ∃ u v, PySem.W.nsIn K A "r" = some (some u) ∧ RelV v u ∧ ∀ H, Dp K H v (.str ";")
  c : ∃ u v, PySem.W.nsIn K A "c" = some (some u) ∧ RelV v u ∧ ∀ H, Dp K H v (.str ";")
  p : ∃ u v, PySem.W.nsIn K A "p" = some (some u) ∧ RelV v u ∧ ∀ H, Dp K H v (.str ":")
  nd : ndB K A ["r", "c", "p"] = true
section
variable {X : Cx} {δ : De} {ω : Om} {a : Expr} {n z : Str} {A : Addr} {p2 pos : Pos} {k : Bool} {r : Option Value}
theorem pt_notinKD (G : KTab X.w X.K X.mg n A) (ha : PD X δ ω a (.str z)) (hz : PySem.W.nsIn X.K A z = some r) (hk : r.isSome = k) (hg : Gl X n := by rfl) (hd : (n == ("__debug__" : Str)) = false := by decide) (hm : behindInMarks .NotIn (.Name n p2) = false := by rfl) : PTd X δ ω (.Compare a [.NotIn] [.Name n p2] pos) (!k) := fun σ H rl Q q => by
  obtain ⟨es, c, D⟩ := G.ex
  refine wt (pt_cmpR (op_notIn_kd D) pe_w (pe_glob (v := .ref A) hg G.mg rfl hd) hm) (ha σ H rl _ fun v H1 s1 d1 => ?_)
  cases d1
  refine ⟨z, r, rfl, rfl, hz, ?_⟩
  rw [hk]
  exact ⟨!k, rfl, q H1 s1⟩
end
theorem sg_eq {l m : Nat} (h : (⟨#[l]⟩ : Str) = ⟨#[m]⟩) : l = m := by
  have := congrArg (fun z : Str => z.cps.toList) h
  simpa using this
theorem s_r : ("r" : Str) = ⟨#[114]⟩ := by decide +kernel
theorem s_c : ("c" : Str) = ⟨#[99]⟩ := by decide +kernel
theorem s_p : ("p" : Str) = ⟨#[112]⟩ := by decide +kernel
section
variable {P : Program} {w : World} {K : PySem.W.Frag} {mg : Str → Option Value} {base : Heap} {f C AB : Addr} {fd : FuncData}
def frNos : List PyData → Rs → Prop := fun ds r => ∃ z : Str, z.length ≤ 1000 ∧ ds = [.str z] ∧ r = .ok (.list ((Txt.split z comma).map numD))
theorem sc_nos : FnScope ["text", "written"] ["text"] (defScope s_numbers_of) := ⟨rfl, rfl, rfl, by decide +kernel, rfl, by decide +kernel, by decide +kernel⟩
theorem comma_is : ("," : Str) = comma := by decide +kernel
theorem spl_le (z : Str) : (Txt.split z comma).length ≤ z.length + 2 := PyProof.Rows.split_le z comma
theorem ok_nos (F : Df K "numbers_of" s_numbers_of f fd) (hm : mg "numbers_of" = some (.ref f)) (GN : DefOk P w K mg base 1 "number_of" frNum) : DefOk P w K mg base 2 "numbers_of" frNos := by
  refine def_ok F hm sc_nos (fun _ _ _ _ _ _ us hl => match us, hl with | [_], _ => rfl) (fun ds r h => by obtain ⟨_, _, rfl, _⟩ := h; rfl) (fun cdv A outer s H E qs ds r hr h => ?_)
  obtain ⟨z, hz, rfl, rfl⟩ := h
  have hr1 : Room 1 (A.deeper (envOfC "numbers_of" (defScope s_numbers_of) s.heap.objs.size f cdv)) := hr.mono (by decide)
  have sl := spl_le z
  refine sd_ret (PN.pd (pn_lc (y := "written") (j := 1) (items := (Txt.split z comma).map .str) (ys := (Txt.split z comma).map numD) rfl sc_nos.nd (PWk.ws (wk_lst (PN.pd (pn_split (pd_var 0) (PD.eq pd_str (congrArg PyData.str comma_is)) rfl (by omega))))) (by rw [List.length_map, List.length_map]) (blkOk_by (N := ["text", "written"]) (sc := defScope s_numbers_of) (by decide +kernel)) (fun _ _ _ _ _ => pg_name sc_nos.nd rfl (Or.inl rfl)) ?_ (by rw [List.length_map]; omega))) rfl
  intro i d y hd hy D o s H C cl fp
  rw [List.getElem?_map] at hd hy
  cases hc : (Txt.split z comma)[i]? with
  | none =>
    rw [hc] at hd
    cases hd
  | some a =>
    rw [hc] at hd hy
    cases hd
    cases hy
    have al : a.length ≤ z.length := PyProof.Rows.part_short (List.mem_of_getElem? hc)
    exact pd_call GN hr1 (pds_cons (pd_var 1) pds_nil) ⟨a, by omega, rfl, rfl⟩
/-! ### a put -/
def isNumD (d : PyData) : Prop := (∃ n, d = .int n) ∨ d = .none
def ansP (C : Addr) (i : Nat) : Option (PyData × Nat) → Rs
  | some (p, n) => .ok (.tuple [p, .int ((i + n : Nat) : Int)])
  | none => .er C
def frPut (C : Addr) : List PyData → Rs → Prop := fun ds r => ∃ (ns : List PyData) (z : Str) (i : Nat), (∀ d ∈ ns, isNumD d) ∧ z.length ≤ 1000 ∧ i ≤ z.length ∧ ds = [.list ns, .str z, .int (i : Int)] ∧ r = ansP C i (rdPut ns (z.cps.toList.drop i) 0)
abbrev NRp : List Str := ["numbers", "text", "at", "row", "column", "ink", "many", "signs"]
theorem sc_rp : FnScope NRp ["numbers", "text", "at"] (defScope s_read_put) := ⟨rfl, rfl, rfl, by decide +kernel, rfl, by decide +kernel, by decide +kernel⟩
theorem put_other {ns : List PyData} {af : List Nat} {k : Nat} (h : ns.length ≠ 4) : rdPut ns af k = none := by
  unfold rdPut
  split
  · exact absurd rfl h
  · rfl
theorem ok_rp (F : Df K "read_put" s_read_put f fd) (hm : mg "read_put" = some (.ref f)) (B : Bl mg) (X1 : ExcF K mg "BadChange" C) : DefOk P w K mg base 1 "read_put" (frPut C) := by
  refine def_ok F hm sc_rp (fun _ _ _ _ _ _ us hl => match us, hl with | [_, _, _], _ => rfl) (fun ds r h => by obtain ⟨_, _, _, _, _, _, rfl, _⟩ := h; rfl) (fun cdv A outer s H E qs ds r hr h => ?_)
  obtain ⟨ns, z, i, hns, hz, hi, rfl, rfl⟩ := h
  have tk : L2N.Takes (cxOf (L2N.CX P w) P w K mg base NRp "read_put" (defScope s_read_put) f cdv A outer s H E) (WOf E) := L2N.takes_of rfl rfl rfl rfl
  by_cases h4 : ns.length = 4
  · match ns, h4, hns with
    | [a, b, c, d], _, hns =>
      rcases hns d (by simp) with ⟨m, rfl⟩ | rfl
      · refine sd_ifF (PWd.pt (pw_ord (x := false) (y := false) (PTd.eq (pt_cmpd op_ne rd_neI (pd_lenL B.len (PD.pl (pd_var 0))) pd_int (nomark _)) rfl) (fun _ => pw_or1d (pt_cmpd op_isN (rd_isN (by simp)) (pd_ixL (d := .int m) (PD.pl (pd_var 0)) pd_int (atI_nat (j := 3) rfl)) pd_non (nomark _))))) ?_
        refine sd_unpL [3, 4, 5, 6] (PD.pl (pd_var 0)) (pg_unl rfl (pgs_cons (pg_name sc_rp.nd rfl (Or.inl rfl)) (pgs_cons (pg_name sc_rp.nd rfl (Or.inl rfl)) (pgs_cons (pg_name sc_rp.nd rfl (Or.inl rfl)) (pgs_cons (pg_name sc_rp.nd rfl (Or.inl rfl)) pgs_nil))))) rfl rfl ?_
        refine sd_set 7 (d := .str (cutS z (some (i : Int)) (some ((i : Int) + m)))) (pd_slS (pd_var 1) ⟨_, rfl, pd_var 2⟩ ⟨_, rfl, pd_add (pd_var 2) (pd_var 6)⟩ (by omega)) ?_ sc_rp.nd
        have cl : (cutS z (some (i : Int)) (some ((i : Int) + m))).length ≤ z.length := by
          show (Array.size _) ≤ _
          unfold cutS
          rw [List.size_toArray, List.length_take, List.length_drop, zlen]
          omega
        by_cases hm0 : 0 ≤ m
        · obtain ⟨q, rfl⟩ : ∃ q : Nat, m = (q : Int) := ⟨m.toNat, by omega⟩
          have ec : cutS z (some (i : Int)) (some ((i : Int) + (q : Int))) = ⟨((z.cps.toList.drop i).take q).toArray⟩ := by
            rw [show (i : Int) + (q : Int) = ((i + q : Nat) : Int) by omega, cutS_mid z hi]
          have el : (cutS z (some (i : Int)) (some ((i : Int) + (q : Int)))).length = ((z.cps.toList.drop i).take q).length := by
            rw [ec]
            show (Array.size _) = _
            rw [List.size_toArray]
          have er : rdPut [a, b, c, .int (q : Int)] (z.cps.toList.drop i) 0 = if ((z.cps.toList.drop i).take q).length = q then some (.tuple [.str "put", a, b, c, .str ⟨((z.cps.toList.drop i).take q).toArray⟩], 0 + q) else none := by
            show (if (0 : Int) ≤ (q : Int) ∧ ((z.cps.toList.drop i).take ((q : Int).toNat)).length = ((q : Int).toNat) then some (PyData.tuple [.str "put", a, b, c, .str ⟨((z.cps.toList.drop i).take ((q : Int).toNat)).toArray⟩], 0 + ((q : Int).toNat)) else none) = _
            rw [Int.toNat_natCast]
            by_cases g : ((z.cps.toList.drop i).take q).length = q
            · rw [if_pos ⟨by omega, g⟩, if_pos g]
            · rw [if_neg fun z => g z.2, if_neg g]
          rw [er]
          by_cases g : ((z.cps.toList.drop i).take q).length = q
          · rw [if_pos g]
            refine sd_ifF (PTd.eq (pt_cmpd op_ne rd_neI (pd_lenS B.len (pd_var 7) (by omega)) (pd_var 6) (nomark _)) (by rw [el, g, decide_eq_true rfl]; rfl)) ?_
            refine sd_ret (pd_tup (pds_cons (pd_tup (pds_cons pd_str (pds_cons (pd_var 3) (pds_cons (pd_var 4) (pds_cons (pd_var 5) (pds_cons (pd_var 7) pds_nil)))))) (pds_cons (pd_add (pd_var 2) (pd_var 6)) pds_nil))) ?_
            show Rs.ok (.tuple [.tuple [.str "put", a, b, c, .str ⟨((z.cps.toList.drop i).take q).toArray⟩], .int ((i + (0 + q) : Nat) : Int)]) = Rs.ok (.tuple [.tuple [.str "put", a, b, c, .str (cutS z (some (i : Int)) (some ((i : Int) + (q : Int))))], .int ((i : Int) + (q : Int))])
            rw [ec, show ((i + (0 + q) : Nat) : Int) = (i : Int) + (q : Int) by omega]
          · rw [if_neg g]
            exact sd_ifT (PTd.eq (pt_cmpd op_ne rd_neI (pd_lenS B.len (pd_var 7) (by omega)) (pd_var 6) (nomark _)) (by rw [el, decide_eq_false (by omega)]; rfl)) (sd_raise X1 tk rfl rfl)
        · have er : rdPut [a, b, c, .int m] (z.cps.toList.drop i) 0 = none := if_neg fun q => hm0 q.1
          rw [er]
          exact sd_ifT (PTd.eq (pt_cmpd op_ne rd_neI (pd_lenS B.len (pd_var 7) (by omega)) (pd_var 6) (nomark _)) (by rw [decide_eq_false (by omega)]; rfl)) (sd_raise X1 tk rfl rfl)
      · exact sd_ifT (PWd.pt (pw_ord (x := false) (y := true) (PTd.eq (pt_cmpd op_ne rd_neI (pd_lenL B.len (PD.pl (pd_var 0))) pd_int (nomark _)) rfl) (fun _ => pw_or1d (pt_cmpd op_isN rd_isN0 (pd_ixL (d := .none) (PD.pl (pd_var 0)) pd_int (atI_nat (j := 3) rfl)) pd_non (nomark _))))) (sd_raise X1 tk rfl rfl)
  · rw [put_other h4]
    exact sd_ifT (PWd.pt (pw_orT (PTd.eq (pt_cmpd op_ne rd_neI (pd_lenL B.len (PD.pl (pd_var 0))) pd_int (nomark _)) (by rw [decide_eq_false (by omega)]; rfl)))) (sd_raise X1 tk rfl rfl)
end
end K51

namespace K51
open PySem PySem.Spec PyProof.Rows L2 FP
theorem put_shift {ns : List PyData} {af : List Nat} {k : Nat} : rdPut ns af k = (rdPut ns af 0).map fun x => (x.1, k + x.2) := by
  unfold rdPut
  split
  · split
    · show some _ = some _
      rw [Nat.zero_add]
    · rfl
  · rfl
theorem ans_shift {C : Addr} {i k : Nat} {o : Option (PyData × Nat)} : ansP C i (o.map fun x => (x.1, k + x.2)) = ansP C (i + k) o := by
  cases o with
  | none => rfl
  | some x =>
    show Rs.ok (.tuple [x.1, .int ((i + (k + x.2) : Nat) : Int)]) = Rs.ok (.tuple [x.1, .int ((i + k + x.2 : Nat) : Int)])
    rw [Nat.add_assoc]
theorem nums_are (b : List Nat) : ∀ d ∈ numsOf b, isNumD d := fun d hd => by
  obtain ⟨z, _, rfl⟩ := List.mem_map.mp hd
  exact numD_or z
section
variable {P : Program} {w : World} {K : PySem.W.Frag} {mg : Str → Option Value} {base : Heap} {f C AB : Addr} {fd : FuncData}
def frRp (C : Addr) : List PyData → Rs → Prop := fun ds r => ∃ (z : Str) (i : Nat), z.length ≤ 1000 ∧ i < z.length ∧ ds = [.str z, .int (i : Int)] ∧ r = ansP C i (rdPart (z.cps.toList.drop i))
abbrev NRq : List Str := ["text", "at", "letter", "end", "numbers", "word"]
theorem sc_rq : FnScope NRq ["text", "at"] (defScope s_read_part) := ⟨rfl, rfl, rfl, by decide +kernel, rfl, by decide +kernel, by decide +kernel⟩
theorem ok_rq (F : Df K "read_part" s_read_part f fd) (hm : mg "read_part" = some (.ref f)) (B : Bl mg) (X1 : ExcF K mg "BadChange" C) (T : Ends w K mg AB) (GN : DefOk P w K mg base 2 "numbers_of" frNos) (GP : DefOk P w K mg base 1 "read_put" (frPut C)) : DefOk P w K mg base 3 "read_part" (frRp C) := by
  refine def_ok F hm sc_rq (fun _ _ _ _ _ _ us hl => match us, hl with | [_, _], _ => rfl) (fun ds r h => by obtain ⟨_, _, _, _, rfl, _⟩ := h; rfl) (fun cdv A outer s H E qs ds r hr h => ?_)
  obtain ⟨z, i, hz, hi, rfl, rfl⟩ := h
  have tk : L2N.Takes (cxOf (L2N.CX P w) P w K mg base NRq "read_part" (defScope s_read_part) f cdv A outer s H E) (WOf E) := L2N.takes_of rfl rfl rfl rfl
  have hr2 : Room 2 (A.deeper (envOfC "read_part" (defScope s_read_part) s.heap.objs.size f cdv)) := hr.mono (by decide)
  have hr1 : Room 1 (A.deeper (envOfC "read_part" (defScope s_read_part) s.heap.objs.size f cdv)) := hr.mono (by decide)
  have hl : i < z.cps.toList.length := by rw [zlen]; exact hi
  obtain ⟨l, el⟩ : ∃ l, z.cps.toList[i]? = some l := ⟨_, List.getElem?_eq_getElem hl⟩
  have ed : z.cps.toList.drop i = l :: z.cps.toList.drop (i + 1) := by
    rw [List.drop_eq_getElem_cons hl]
    congr 1
    rw [List.getElem?_eq_getElem hl] at el
    exact Option.some.inj el
  refine sd_set 2 (d := .str ⟨#[l]⟩) (pd_ixS (pd_var 0) (pd_var 1) (by omega) (atI_nat el)) ?_ sc_rq.nd
  rw [ed]
  generalize hrest : z.cps.toList.drop (i + 1) = rest at ed
  have i1 : (i : Int) + 1 = ((i + 1 : Nat) : Int) := by omega
  -- what is told of a letter that there is
  have go : ∀ (e : Nat) (es : Str), endOf l = some e → es = ⟨#[e]⟩ → e ≠ l → (∃ u v, PySem.W.nsIn K AB ⟨#[l]⟩ = some (some u) ∧ RelV v u ∧ ∀ H, Dp K H v (.str es)) →
      (∀ J r', rest = J ++ e :: r' → e ∉ J → SD (cxOf (L2N.CX P w) P w K mg base NRq "read_part" (defScope s_read_part) f cdv A outer s H E) (WOf E) [] ((defBody s_read_part).drop 5) [some (.im (.str z)), some (.im (.int (i : Int))), some (.im (.str ⟨#[l]⟩)), some (.im (.int ((i + 1 + J.length : Nat) : Int))), some (.im (.list (numsOf J))), none] ⟨qs, []⟩ (Fin (ansP C i (rdPart (l :: (J ++ e :: r')))))) →
      SD (cxOf (L2N.CX P w) P w K mg base NRq "read_part" (defScope s_read_part) f cdv A outer s H E) (WOf E) [] ((defBody s_read_part).drop 1) [some (.im (.str z)), some (.im (.int (i : Int))), some (.im (.str ⟨#[l]⟩)), none, none, none] ⟨qs, []⟩ (Fin (ansP C i (rdPart (l :: rest)))) := by
    intro e es he hes hne hu k
    obtain ⟨u, v, hu, hv, hd⟩ := hu
    refine sd_ifF (pt_notinKD (k := true) T.tab (pd_var 2) hu rfl) ?_
    rcases tw_or e rest with hn | ⟨J, r', hJ, hn⟩
    · have fn : Txt.find3 z es (i : Int) = -1 := by
        rw [hes]
        refine find_no (by omega) ?_
        rw [ed]
        exact fun q => by
          rcases List.mem_cons.mp q with q | q
          · exact hne q
          · exact hn q
      refine sd_set 3 (d := .int (-1)) (PD.eq (pd_find3 (pd_var 0) (pds_cons (pd_ixKD T.tab (pd_var 2) hu hv hd) (pds_cons (pd_var 1) pds_nil))) (congrArg PyData.int fn)) ?_ sc_rq.nd
      rw [rd_1 he hn]
      exact sd_ifT (PTd.eq (pt_cmpd op_lt rd_B0 (pd_var 3) pd_int (nomark _)) rfl) (sd_raise X1 tk rfl rfl)
    · have lr : rest.length = z.length - (i + 1) := by rw [← hrest, List.length_drop, zlen]
      have lJ : J.length + 1 ≤ rest.length := by rw [hJ, List.length_append, List.length_cons]; omega
      have fn : Txt.find3 z es (i : Int) = ((i + 1 + J.length : Nat) : Int) := by
        rw [hes, find_yes (J := l :: J) (r := r') (by omega) (by rw [ed, hJ]; rfl) (fun q => by
          rcases List.mem_cons.mp q with q | q
          · exact hne q
          · exact hn q), List.length_cons]
        congr 1
        omega
      refine sd_set 3 (d := .int ((i + 1 + J.length : Nat) : Int)) (PD.eq (pd_find3 (pd_var 0) (pds_cons (pd_ixKD T.tab (pd_var 2) hu hv hd) (pds_cons (pd_var 1) pds_nil))) (congrArg PyData.int fn)) ?_ sc_rq.nd
      refine sd_ifF (PTd.eq (pt_cmpd op_lt rd_B0 (pd_var 3) pd_int (nomark _)) (decide_eq_false (by omega))) ?_
      have ec : cutS z (some ((i : Int) + 1)) (some ((i + 1 + J.length : Nat) : Int)) = ⟨J.toArray⟩ := by
        rw [i1, cutS_mid z (by omega), hrest, hJ, List.take_left]
      refine sd_set 4 (d := .list (numsOf J)) (pd_call GN hr2 (pds_cons (PD.eq (pd_slS (pd_var 0) ⟨_, rfl, pd_add (pd_var 1) pd_int⟩ ⟨_, rfl, pd_var 3⟩ (by omega)) (congrArg PyData.str ec)) pds_nil) ⟨⟨J.toArray⟩, by show Array.size _ ≤ _; rw [List.size_toArray]; omega, rfl, rfl⟩) ?_ sc_rq.nd
      rw [hJ]
      exact k J r' hJ hn
  rcases end_cases l with ⟨he, n1, n2, n3⟩ | ⟨rfl, he⟩ | ⟨hl2, he⟩
  · rw [rd_0 he]
    have hn2 : PySem.W.nsIn K AB ⟨#[l]⟩ = some none := ndB_ok T.nd (fun q => by
      simp only [List.mem_cons, List.not_mem_nil, or_false] at q
      rcases q with q | q | q
      · exact n1 (sg_eq (q.trans s_r))
      · exact n2 (sg_eq (q.trans s_c))
      · exact n3 (sg_eq (q.trans s_p)))
    exact sd_ifT (pt_notinKD (k := false) T.tab (pd_var 2) hn2 rfl) (sd_raise X1 tk rfl rfl)
  · refine go 58 ":" he (by decide +kernel) (by decide) (by rw [← s_p]; exact T.p) fun J r' hJ hn => ?_
    refine sd_ifT (PTd.eq (pt_cmpd op_eq rd_eqS (pd_var 2) pd_str (nomark _)) (by rw [s_p, decide_eq_true rfl])) ?_
    have lr : rest.length = z.length - (i + 1) := by rw [← hrest, List.length_drop, zlen]
    have lJ : J.length + 1 ≤ rest.length := by rw [hJ, List.length_append, List.length_cons]; omega
    have e2 : ((i + 1 + J.length : Nat) : Int) + 1 = ((i + (J.length + 2) : Nat) : Int) := by omega
    have dr : z.cps.toList.drop (i + (J.length + 2)) = r' := by
      rw [show i + (J.length + 2) = (i + 1) + (J.length + 1) by omega, ← List.drop_drop, hrest, hJ, ← List.drop_drop, List.drop_left]
      rfl
    have er : ansP C i (rdPart (112 :: (J ++ 58 :: r'))) = ansP C (i + (J.length + 2)) (rdPut (numsOf J) (z.cps.toList.drop (i + (J.length + 2))) 0) := by
      rw [rd_2 hn, put_shift, ans_shift, dr]
    rw [er]
    cases hq : rdPut (numsOf J) (z.cps.toList.drop (i + (J.length + 2))) 0 with
    | none => exact sd_retX (ex_call (rr := .er C) GP hr1 tk (pds_cons (pd_var 4) (pds_cons (pd_var 0) (pds_cons (PD.eq (pd_add (pd_var 3) pd_int) (congrArg PyData.int e2)) pds_nil))) ⟨numsOf J, z, i + (J.length + 2), nums_are J, hz, by omega, rfl, by rw [hq]; rfl⟩ rfl)
    | some x => exact sd_retX (ex_call (rr := .ok (.tuple [x.1, .int ((i + (J.length + 2) + x.2 : Nat) : Int)])) GP hr1 tk (pds_cons (pd_var 4) (pds_cons (pd_var 0) (pds_cons (PD.eq (pd_add (pd_var 3) pd_int) (congrArg PyData.int e2)) pds_nil))) ⟨numsOf J, z, i + (J.length + 2), nums_are J, hz, by omega, rfl, by rw [hq]; rfl⟩ rfl)
  · refine go 59 ";" he (by decide +kernel) (by rcases hl2 with rfl | rfl <;> decide) (by
      rcases hl2 with rfl | rfl
      · rw [← s_r]
        exact T.r
      · rw [← s_c]
        exact T.c) fun J r' hJ hn => ?_
    have n112 : l ≠ 112 := by rcases hl2 with rfl | rfl <;> decide
    refine sd_ifF (PTd.eq (pt_cmpd op_eq rd_eqS (pd_var 2) pd_str (nomark _)) (by rw [s_p, decide_eq_false fun q => n112 (sg_eq q)])) ?_
    refine sd_set 5 (d := .str (wordOf l)) (pd_if (k := decide (l = 114)) (PTd.eq (pt_cmpd op_eq rd_eqS (pd_var 2) pd_str (nomark _)) (by rw [s_r]; exact decide_eq_decide.mpr ⟨sg_eq, fun q => by rw [q]⟩)) (fun hk => PD.eq pd_str (by unfold wordOf; rw [if_pos (of_decide_eq_true hk)])) (fun hk => PD.eq pd_str (by unfold wordOf; rw [if_neg (of_decide_eq_false hk)]))) ?_ sc_rq.nd
    rw [rd_3 he n112 hn]
    have lr : rest.length = z.length - (i + 1) := by rw [← hrest, List.length_drop, zlen]
    have lJ : J.length + 1 ≤ rest.length := by rw [hJ, List.length_append, List.length_cons]; omega
    have nl : (numsOf J).length ≤ 999 := by
      have := PyProof.Rows.split_weight ⟨J.toArray⟩ comma (by decide)
      have e3 : (⟨J.toArray⟩ : Str).length = J.length := by show Array.size _ = _; rw [List.size_toArray]
      unfold numsOf
      rw [List.length_map]
      omega
    refine sd_ret (pd_tup (pds_cons (pd_tup (pds_cons (pd_var 5) (pds_star (.inl (pd_var 4)))) (by rw [List.length_cons]; omega)) (pds_cons (pd_add (pd_var 3) pd_int) pds_nil))) ?_
    show Rs.ok (.tuple [.tuple (.str (wordOf l) :: numsOf J), .int ((i + (J.length + 2) : Nat) : Int)]) = Rs.ok (.tuple [.tuple (.str (wordOf l) :: numsOf J), .int (((i + 1 + J.length : Nat) : Int) + 1)])
    rw [show ((i + (J.length + 2) : Nat) : Int) = ((i + 1 + J.length : Nat) : Int) + 1 by omega]
end
end K51

namespace K51
open PySem PySem.Spec PyProof.Rows L2 FP
inductive RdAll : List Nat → Option (List PyData) → Prop
  | nil : RdAll [] (some [])
  | bad {cs : List Nat} (h : cs ≠ []) (b : rdPart cs = none) : RdAll cs none
  | cons {cs : List Nat} {p : PyData} {n : Nat} {r : Option (List PyData)} (h : cs ≠ []) (b : rdPart cs = some (p, n)) (k : RdAll (cs.drop n) r) : RdAll cs (r.map fun ps => p :: ps)
theorem num_smS {d : PyData} (h : isNumD d) : smS d := fun z e => by
  rcases h with ⟨n, q⟩ | q <;> rw [e] at q <;> cases q
theorem nums_len (J : List Nat) : (numsOf J).length ≤ J.length + 1 := by
  have := PyProof.Rows.split_weight ⟨J.toArray⟩ comma (by decide)
  have e3 : (⟨J.toArray⟩ : Str).length = J.length := by show Array.size _ = _; rw [List.size_toArray]
  unfold numsOf
  rw [List.length_map]
  omega
theorem rd_ok {cs : List Nat} {p : PyData} {n : Nat} (hl : cs.length ≤ 1000) (h : rdPart cs = some (p, n)) : okP p ∧ 1 ≤ n ∧ n ≤ cs.length := by
  cases cs with
  | nil => cases h
  | cons l rest =>
    rcases end_cases l with ⟨he, _⟩ | ⟨rfl, he⟩ | ⟨hl2, he⟩
    · rw [rd_0 he] at h
      cases h
    · rcases tw_or 58 rest with hn | ⟨J, r', hJ, hn⟩
      · rw [rd_1 he hn] at h
        cases h
      · subst hJ
        rw [rd_2 hn] at h
        have na := nums_are J
        revert h na
        generalize numsOf J = ns
        intro h na
        unfold rdPut at h
        split at h
        · rename_i a b c m
          split at h
          · rename_i g
            cases h
            have lt : (r'.take m.toNat).length ≤ r'.length := by rw [List.length_take]; omega
            rw [List.length_cons, List.length_append, List.length_cons] at hl
            refine ⟨fun x told e => ?_, by omega, by rw [List.length_cons, List.length_append, List.length_cons]; omega⟩
            cases e
            refine ⟨show 4 ≤ 2000 by decide, fun y hy => ?_⟩
            simp only [List.mem_cons, List.not_mem_nil, or_false] at hy
            rcases hy with rfl | rfl | rfl | rfl
            · exact num_smS (na _ (by simp))
            · exact num_smS (na _ (by simp))
            · exact num_smS (na _ (by simp))
            · intro z e
              cases e
              show Array.size _ ≤ 1000
              rw [List.size_toArray]
              omega
          · cases h
        · cases h
    · have n112 : l ≠ 112 := by rcases hl2 with rfl | rfl <;> decide
      rcases tw_or 59 rest with hn | ⟨J, r', hJ, hn⟩
      · rw [rd_1 he hn] at h
        cases h
      · subst hJ
        rw [rd_3 he n112 hn] at h
        cases h
        rw [List.length_cons, List.length_append, List.length_cons] at hl
        have nl := nums_len J
        refine ⟨fun x told e => ?_, by omega, by rw [List.length_cons, List.length_append, List.length_cons]; omega⟩
        cases e
        exact ⟨by omega, fun y hy => num_smS (nums_are J y hy)⟩
def ansA (C : Addr) : Option (List PyData) → Rs
  | none => .er C
  | some ps => if ps.all isPart = true then .ok (.list ps) else .er C
section
variable {P : Program} {w : World} {K : PySem.W.Frag} {mg : Str → Option Value} {base : Heap} {f C AB : Addr} {fd : FuncData}
def frRd (C : Addr) : List PyData → Rs → Prop := fun ds r => ∃ (z : Str) (o : Option (List PyData)), z.length ≤ 1000 ∧ RdAll z.cps.toList o ∧ ds = [.str z] ∧ r = ansA C o
abbrev NRd : List Str := ["text", "change", "at", "part"]
theorem sc_rd : FnScope NRd ["text"] (defScope s_read_change) := ⟨rfl, rfl, rfl, by decide +kernel, rfl, by decide +kernel, by decide +kernel⟩
theorem ok_rd (F : Df K "read_change" s_read_change f fd) (hm : mg "read_change" = some (.ref f)) (B : Bl mg) (GR : DefOk P w K mg base 3 "read_part" (frRp C)) (GL : DefOk P w K mg base 4 "need_change" (frNeedC C)) : DefOk P w K mg base 5 "read_change" (frRd C) := by
  refine def_ok F hm sc_rd (fun _ _ _ _ _ _ us hl => match us, hl with | [_], _ => rfl) (fun ds r h => by obtain ⟨_, _, _, _, rfl, _⟩ := h; rfl) (fun cdv A outer s H E qs ds r hr h => ?_)
  obtain ⟨z, o, hz, ho, rfl, rfl⟩ := h
  have tk : L2N.Takes (cxOf (L2N.CX P w) P w K mg base NRd "read_change" (defScope s_read_change) f cdv A outer s H E) (WOf E) := L2N.takes_of rfl rfl rfl rfl
  have hr3 : Room 3 (A.deeper (envOfC "read_change" (defScope s_read_change) s.heap.objs.size f cdv)) := hr.mono (by decide)
  have hr4 : Room 4 (A.deeper (envOfC "read_change" (defScope s_read_change) s.heap.objs.size f cdv)) := hr.mono (by decide)
  refine sd_ifF (pt_notd (k := true) (pt_bool (pd_isi B.isi B.str bb_str (pd_var 0) (k_str _)))) ?_
  refine sd_ownP 1 (ds := []) (pn_lst pds_nil) (fun D hD => ?_) sc_rd.nd
  refine sd_set 2 (d := .int ((0 : Nat) : Int)) pd_int ?_ sc_rd.nd
  refine sd_while (fun m δ' ω' => ∃ (i : Nat) (ps : List PyData) (r : Option (List PyData)) (y3 : Option Sd), m = z.length - i ∧ i ≤ z.length ∧ RdAll (z.cps.toList.drop i) r ∧ o = r.map (fun qs => ps ++ qs) ∧ (∀ p ∈ ps, okP p) ∧ ps.length ≤ i ∧ δ' = [some (.im (.str z)), some (.ad D), some (.im (.int (i : Int))), y3] ∧ ω' = ⟨qs, [(D, .lst (ps.map .im))]⟩) z.length ?_ ?_ (passes_of rfl)
  · refine ⟨0, [], o, none, rfl, Nat.zero_le _, ho, ?_, fun p hp => absurd hp List.not_mem_nil, Nat.zero_le _, rfl, rfl⟩
    cases o <;> rfl
  · rintro m δ' ω' ⟨i, ps, r, y3, rfl, hi, ha, rfl, hok, hpl, rfl, rfl⟩
    refine ⟨decide (i < z.length), PTd.eq (pt_cmpd op_lt rd_B0 (pd_var 2) (pd_lenS B.len (pd_var 0) (by omega)) (nomark _)) (decide_eq_decide.mpr (by omega)), fun hk => ?_, fun hk => ?_⟩
    · have lt := of_decide_eq_true hk
      have ll : (z.cps.toList.drop i).length ≤ 1000 := by rw [List.length_drop, zlen]; omega
      generalize hcs : z.cps.toList.drop i = cs at ha
      have er : ∀ x, rdPart cs = x → ansP C i (rdPart (z.cps.toList.drop i)) = ansP C i x := fun x e => by rw [hcs, e]
      cases ha with
      | nil =>
        have := congrArg List.length hcs
        rw [List.length_drop, zlen] at this
        simp at this
        omega
      | bad h b =>
        exact sd_asgE (pr_call (rr := .er C) GR hr3 tk (pds_cons (pd_var 0) (pds_cons (pd_var 2) pds_nil)) ⟨z, i, hz, lt, rfl, (er none b).symm⟩) (pg_tup rfl (pgs_cons (pg_name (i := 3) sc_rd.nd rfl (Or.inl rfl)) (pgs_cons (pg_name (i := 2) sc_rd.nd rfl (Or.inl rfl)) pgs_nil))) rfl
      | @cons _ p n r2 h b k =>
        obtain ⟨ok, n1, n2⟩ := rd_ok (by rw [← hcs]; exact ll) b
        have n3 : i + n ≤ z.length := by
          rw [← hcs, List.length_drop, zlen] at n2
          omega
        refine sd_unp [3, 2] (ds := [p, .int ((i + n : Nat) : Int)]) (pd_call GR hr3 (pds_cons (pd_var 0) (pds_cons (pd_var 2) pds_nil)) ⟨z, i, hz, lt, rfl, (er (some (p, n)) b).symm⟩) (pg_tup rfl (pgs_cons (pg_name sc_rd.nd rfl (Or.inl rfl)) (pgs_cons (pg_name sc_rd.nd rfl (Or.inl rfl)) pgs_nil))) rfl rfl ?_
        refine (show SD _ _ _ _ [some (.im (.str z)), some (.ad D), some (.im (.int ((i + n : Nat) : Int))), some (.im p)] (omD ⟨qs, []⟩ D (.lst (ps.map .im))) _ from ?_)
        refine sd_app 1 (d := p) (pd_var 3) (sd_nil ?_) (by omega)
        refine ⟨z.length - (i + n), by omega, i + n, ps ++ [p], r2, _, rfl, n3, ?_, ?_, ?_, ?_, rfl, rfl⟩
        · rw [← List.drop_drop, hcs]
          exact k
        · cases r2 with
          | none => rfl
          | some q => simp
        · intro q hq
          rcases List.mem_append.mp hq with hq | hq
          · exact hok q hq
          · rw [List.mem_singleton.mp hq]
            exact ok
        · rw [List.length_append]
          show ps.length + 1 ≤ _
          omega
    · have e : i = z.length := by
        have := of_decide_eq_false hk
        omega
      subst e
      rw [List.drop_eq_nil_of_le (by rw [zlen]; exact Nat.le_refl _)] at ha
      have er : r = some [] := by
        cases ha with
        | nil => rfl
        | bad h b => exact absurd rfl h
        | cons h b k => exact absurd rfl h
      subst er
      refine sd_frz (xs := ps) 1 rfl hD ?_
      refine (show SD _ _ _ _ [some (.im (.str z)), some (.im (.list ps)), some (.im (.int (z.length : Int))), y3] ⟨qs, []⟩ (Fin (ansA C (some (ps ++ [])))) from ?_)
      rw [List.append_nil]
      have sm : okPs (.list ps) := fun xs e x hx => by cases e; exact hok x hx
      by_cases c : ps.all isPart = true
      · rw [show ansA C (some ps) = .ok (.list ps) from if_pos c]
        refine sd_callX (rr := .ok .none) GL hr4 tk (pds_cons (pd_var 1) pds_nil) ⟨_, rfl, sm, by rw [if_pos (show areParts (.list ps) = true from c)]⟩ (fun d _ => ?_) (fun Z e => by cases e)
        exact sd_ret (pd_var 1) rfl
      · rw [show ansA C (some ps) = .er C from if_neg c]
        exact sd_callX (rr := .er C) GL hr4 tk (pds_cons (pd_var 1) pds_nil) ⟨_, rfl, sm, by rw [if_neg (show ¬ areParts (.list ps) = true from c)]⟩ (fun d e => by cases e) (fun Z e => by cases e; exact rfl)
end
end K51

namespace K51
open PySem PySem.Spec PyProof.Rows L2 FP
/-! ### a change, written -/
theorem num_short {z : Str} {n : Int} (h : numD z = .int n) : z.length ≤ 4 := by
  have ok : numOk z = true := by
    unfold numD at h
    split at h
    · assumption
    · cases h
  have l := of_decide_eq_true (Bool.and_eq_true _ _ ▸ (Bool.and_eq_true _ _ ▸ ok).1).2
  rcases figs_or z with e | e
  · rw [e] at l
    omega
  · have := congrArg List.length e
    rw [List.length_cons, zlen, zlen] at this
    omega
def goodPut (k : Nat) (z : Str) : Prop := k ≤ 7 ∧ areSigns (.str z) = true ∧ z.length ≠ 0
def Pa.good : Pa → Prop
  | .roll n => n ≠ 0
  | .cur _ _ => True
  | .put _ _ k z => goodPut k z
def Pa.str (p : Pa) : Str := ⟨p.cs.toArray⟩
theorem within_ok {n : Int} {a b : Int} (h1 : a ≤ n) (h2 : n ≤ b) : isWithin (.int n) a b = true := by
  show (decide (a ≤ n) && decide (n ≤ b)) = true
  rw [decide_eq_true h1, decide_eq_true h2]
  rfl
theorem place_ok (r c : Nat) : isPlace (.int (r : Int)) (.int (c : Int)) = true := by
  show (true && (decide ((0 : Int) ≤ (r : Int)) && (true && decide ((0 : Int) ≤ (c : Int))))) = true
  rw [decide_eq_true (by omega), decide_eq_true (by omega)]
  rfl
theorem Pa.isPart {p : Pa} (s : p.small) (g : p.good) : isPart p.d = true := by
  cases p with
  | roll n =>
    have s : -10 ≤ n ∧ n ≤ 10 := s
    have g : n ≠ 0 := g
    show (isWithin (.int n) (-10) 10 && !decide (n = 0)) = true
    rw [within_ok s.1 s.2, decide_eq_false g]
    rfl
  | cur r c => exact place_ok r c
  | put r c k z =>
    obtain ⟨g1, g2, g3⟩ := (show goodPut k z from g)
    show (isPlace (.int (r : Int)) (.int (c : Int)) && (isWithin (.int (k : Int)) 0 7 && (areSigns (.str z) && !decide (z = "")))) = true
    rw [place_ok, within_ok (by omega) (by omega), g2, decide_eq_false (fun e => g3 (by rw [e]; decide +kernel))]
    rfl
theorem Pa.okP {p : Pa} (s : p.small) : okP p.d := by
  cases p with
  | roll n =>
    intro x told e
    cases e
    exact ⟨show 1 ≤ 2000 by decide, fun y hy => by
      rw [List.mem_singleton.mp hy]
      intro z e
      cases e⟩
  | cur r c =>
    intro x told e
    cases e
    exact ⟨show 2 ≤ 2000 by decide, fun y hy => by
      simp only [List.mem_cons, List.not_mem_nil, or_false] at hy
      rcases hy with rfl | rfl <;> (intro z e; cases e)⟩
  | put r c k z =>
    have s : r ≤ 999 ∧ c ≤ 999 ∧ k ≤ 999 ∧ z.length ≤ 999 := s
    intro x told e
    cases e
    exact ⟨show 4 ≤ 2000 by decide, fun y hy => by
      simp only [List.mem_cons, List.not_mem_nil, or_false] at hy
      rcases hy with rfl | rfl | rfl | rfl
      · intro z e; cases e
      · intro z e; cases e
      · intro z e; cases e
      · intro z e
        cases e
        omega⟩
theorem str_of {x y : Str} (h : x.cps.toList = y.cps.toList) : x = y := by
  obtain ⟨x⟩ := x
  obtain ⟨y⟩ := y
  have h : x.toList = y.toList := h
  rw [Array.toList_inj.mp h]
theorem cps_app (x y : Str) : (x ++ y).cps.toList = x.cps.toList ++ y.cps.toList := by
  show (x.cps ++ y.cps).toList = _
  rw [Array.toList_append]
theorem numsL_str (ns : List Int) : numsL ns = (Str.join comma (ns.map numT)).cps.toList := (join_cps 44 (ns.map numT)).symm
def numsS (ns : List Int) : Str := Str.join comma (ns.map numT)
/-- texts one behind the other -/
theorem join_none : ∀ ws : List Str, Str.join Str.empty ws = ⟨(ws.map fun z => z.cps.toList).flatten.toArray⟩
  | [] => rfl
  | [x] => str_of (by show x.cps.toList = (x.cps.toList ++ []).toArray.toList; rw [List.append_nil, List.toList_toArray])
  | x :: y :: r => str_of (by
    show (x ++ Str.empty ++ Str.join Str.empty (y :: r)).cps.toList = _
    rw [cps_app, cps_app, join_none (y :: r), List.toList_toArray]
    show _ = ((x.cps.toList ++ ((y :: r).map fun z => z.cps.toList).flatten).toArray).toList
    rw [List.toList_toArray]
    show x.cps.toList ++ [] ++ _ = _
    rw [List.append_nil])
def textP (ps : List Pa) : List Nat := (ps.map Pa.cs).flatten
def strP (ps : List Pa) : Str := ⟨(textP ps).toArray⟩
theorem emp_is : ("" : Str) = Str.empty := by decide +kernel
theorem sum4 {ws : List Str} (h : ∀ z ∈ ws, z.length ≤ 1000) : (ws.map (·.length)).sum ≤ 1000 * ws.length := by
  induction ws with
  | nil => exact Nat.le_refl _
  | cons a r ih =>
    have h1 := h a List.mem_cons_self
    have h2 := ih fun z hz => h z (List.mem_cons_of_mem _ hz)
    rw [List.map_cons, List.sum_cons, List.length_cons]
    omega
section
variable {P : Program} {w : World} {K : PySem.W.Frag} {mg : Str → Option Value} {base : Heap} {f C AB : Addr} {fd : FuncData}
/-- numbers as a list or a tuple -/
def isNs (d : PyData) (ns : List Int) : Prop := d = .list (ns.map .int) ∨ d = .tuple (ns.map .int)
def okNs (ns : List Int) : Prop := ns.length ≤ 4 ∧ ∀ n ∈ ns, numD (numT n) = .int n ∧ n.natAbs ≤ 999
theorem okNs.log {ns : List Int} (h : okNs ns) : ∀ n ∈ ns, n.natAbs.log2 < 1920 := fun n hn => log_small (by have := (h.2 n hn).2; omega)
def frWn : List PyData → Rs → Prop := fun ds r => ∃ d ns, okNs ns ∧ isNs d ns ∧ ds = [d] ∧ r = .ok (.str (numsS ns))
theorem sc_wn : FnScope ["numbers", "number"] ["numbers"] (defScope s_written_numbers) := ⟨rfl, rfl, rfl, by decide +kernel, rfl, by decide +kernel, by decide +kernel⟩
theorem ok_wn (F : Df K "written_numbers" s_written_numbers f fd) (hm : mg "written_numbers" = some (.ref f)) (ms : mg "str" = none) : DefOk P w K mg base 1 "written_numbers" frWn := by
  refine def_ok F hm sc_wn (fun _ _ _ _ _ _ us hl => match us, hl with | [_], _ => rfl) (fun ds r h => by obtain ⟨_, _, _, _, rfl, _⟩ := h; rfl) (fun cdv A outer s H E qs ds r hr h => ?_)
  obtain ⟨d, ns, hn, hd, rfl, rfl⟩ := h
  have wk : ∀ {tg : Expr} {pos : Pos} , PWk (cxOf (L2N.CX P w) P w K mg base ["numbers", "number"] "written_numbers" (defScope s_written_numbers) f cdv A outer s H E) (startD ["numbers", "number"] [d]) ⟨qs, []⟩ tg (.Name "numbers" pos) (ns.map .int) := by
    intro tg pos
    rcases hd with rfl | rfl
    · exact wk_lst (pd_var 0)
    · exact wk_tup (pd_var 0)
  have sh : ∀ z ∈ ns.map numT, z.length ≤ 1000 := fun z hz => by
    obtain ⟨n, hn2, rfl⟩ := List.mem_map.mp hz
    exact Nat.le_trans (num_short (hn.2 n hn2).1) (by decide)
  have s4 := sum4 sh
  have l4 := hn.1
  refine sd_ret (PD.eq (pd_join (z := comma) (ys := ns.map numT) (PD.eq pd_str (congrArg PyData.str comma_is)) (PN.pl (pn_lc (y := "number") (j := 1) (items := ns.map .int) (ys := (ns.map numT).map .str) rfl sc_wn.nd (PWk.ws wk) (by rw [List.length_map, List.length_map, List.length_map]) (blkOk_by (N := ["numbers", "number"]) (sc := defScope s_written_numbers) (by decide +kernel)) (fun _ _ _ _ _ => pg_name sc_wn.nd rfl (Or.inl rfl)) ?_ (by rw [List.length_map]; omega))) (by rw [List.length_map] at s4 ⊢; rw [show comma.length = 1 from rfl]; omega)) (congrArg PyData.str (join_txt comma (ns.map numT)))) rfl
  intro i d2 y hd2 hy D o s2 H2 C2 cl fp
  rw [List.getElem?_map] at hd2
  rw [List.getElem?_map, List.getElem?_map] at hy
  cases hc : ns[i]? with
  | none =>
    rw [hc] at hd2
    cases hd2
  | some n =>
    rw [hc] at hd2 hy
    cases hd2
    cases hy
    exact pd_strI (pd_var 1) ms (hn.log n (List.mem_of_getElem? hc))
theorem sc_sn : FnScope ["numbers", "number"] ["numbers"] (defScope s_short_numbers) := ⟨rfl, rfl, rfl, by decide +kernel, rfl, by decide +kernel, by decide +kernel⟩
theorem ok_sn (F : Df K "short_numbers" s_short_numbers f fd) (hm : mg "short_numbers" = some (.ref f)) (B : Bl mg) (ma : mg "abs" = none) (g : GlD K mg "MOST_NUMBER" (.int 999)) (GW : DefOk P w K mg base 1 "written_numbers" frWn) : DefOk P w K mg base 2 "short_numbers" frWn := by
  refine def_ok F hm sc_sn (fun _ _ _ _ _ _ us hl => match us, hl with | [_], _ => rfl) (fun ds r h => by obtain ⟨_, _, _, _, rfl, _⟩ := h; rfl) (fun cdv A outer s H E qs ds r hr h => ?_)
  obtain ⟨d, ns, hn, hd, rfl, rfl⟩ := h
  have hr1 : Room 1 (A.deeper (envOfC "short_numbers" (defScope s_short_numbers) s.heap.objs.size f cdv)) := hr.mono (by decide)
  have wk : ∀ {tg : Expr} {pos : Pos} , PWk (cxOf (L2N.CX P w) P w K mg base ["numbers", "number"] "short_numbers" (defScope s_short_numbers) f cdv A outer s H E) (startD ["numbers", "number"] [d]) ⟨qs, []⟩ tg (.Name "numbers" pos) (ns.map .int) := by
    intro tg pos
    rcases hd with rfl | rfl
    · exact wk_lst (pd_var 0)
    · exact wk_tup (pd_var 0)
  have l4 := hn.1
  refine sd_ifF (PTd.eq (pt_notd (k := (ns.map fun _ => true).all id) (pt_bool (pd_all rfl B.all (PN.pl (pn_lc (y := "number") (j := 1) (items := ns.map .int) (ys := (ns.map fun _ => true).map .bool) rfl sc_sn.nd (PWk.ws wk) (by rw [List.length_map, List.length_map, List.length_map]) (blkOk_by (N := ["numbers", "number"]) (sc := defScope s_short_numbers) (by decide +kernel)) (fun _ _ _ _ _ => pg_name sc_sn.nd rfl (Or.inl rfl)) ?_ (by rw [List.length_map]; omega)))))) (by simp)) ?_
  · intro i d2 y hd2 hy D o s2 H2 C2 cl fp
    rw [List.getElem?_map] at hd2
    rw [List.getElem?_map, List.getElem?_map] at hy
    cases hc : ns[i]? with
    | none =>
      rw [hc] at hd2
      cases hd2
    | some n =>
      rw [hc] at hd2 hy
      cases hd2
      cases hy
      have := (hn.2 n (List.mem_of_getElem? hc)).2
      exact PD.eq (pd_cmp op_le rd_B0 (pd_abs ma (pd_var 1)) (pd_glob g) (nomark _)) (congrArg PyData.bool (decide_eq_true (by omega)))
  · exact sd_ret (pd_call GW hr1 (pds_cons (pd_var 0) pds_nil) ⟨d, ns, hn, hd, rfl, rfl⟩) rfl
theorem Pa.okNs {p : Pa} (s : p.small) : okNs p.nums := by
  refine ⟨by cases p <;> (show (_ : Nat) ≤ 4; simp [Pa.nums]), fun n hn => ⟨p.nums_ok s n hn, ?_⟩⟩
  cases p with
  | roll m =>
    have s : -10 ≤ m ∧ m ≤ 10 := s
    rw [List.mem_singleton.mp hn]
    omega
  | cur r c =>
    have s : r ≤ 999 ∧ c ≤ 999 := s
    simp only [Pa.nums, List.mem_cons, List.not_mem_nil, or_false] at hn
    rcases hn with rfl | rfl <;> omega
  | put r c k z =>
    have s : r ≤ 999 ∧ c ≤ 999 ∧ k ≤ 999 ∧ z.length ≤ 999 := s
    simp only [Pa.nums, List.mem_cons, List.not_mem_nil, or_false] at hn
    rcases hn with rfl | rfl | rfl | rfl <;> omega
theorem numsS_le {ns : List Int} (h : okNs ns) : (numsS ns).length ≤ 100 := by
  have j := StrLaws.join_length_le comma (ns.map numT)
  have : ∀ ns : List Int, (∀ n ∈ ns, numD (numT n) = .int n) → ((ns.map numT).map (·.length)).sum ≤ 4 * ns.length := fun ns h => by
    induction ns with
    | nil => exact Nat.le_refl _
    | cons a r ih =>
      have h1 := num_short (h a List.mem_cons_self)
      have h2 := ih fun n hn => h n (List.mem_cons_of_mem _ hn)
      rw [List.map_cons, List.map_cons, List.sum_cons, List.length_cons]
      omega
  have s := this ns fun n hn => (h.2 n hn).1
  have l := h.1
  rw [List.length_map, show comma.length = 1 from rfl] at j
  show (Str.join comma (ns.map numT)).length ≤ 100
  omega
theorem Pa.str_is (p : Pa) : p.str = (⟨#[p.letter]⟩ : Str) ++ numsS p.nums ++ ⟨#[p.endc]⟩ ++ ⟨p.tail.toArray⟩ := str_of (by
  rw [cps_app, cps_app, cps_app]
  show (p.cs.toArray).toList = [p.letter] ++ (numsS p.nums).cps.toList ++ [p.endc] ++ p.tail.toArray.toList
  rw [List.toList_toArray, List.toList_toArray, ← show numsL p.nums = (numsS p.nums).cps.toList from numsL_str p.nums]
  show p.letter :: (numsL p.nums ++ p.endc :: p.tail) = _
  simp)
def frWp : List PyData → Rs → Prop := fun ds r => ∃ p : Pa, p.small ∧ ds = [p.d] ∧ r = .ok (.str p.str)
abbrev NWp : List Str := ["part", "row", "column", "ink", "text", "numbers", "letter"]
theorem sc_wp : FnScope NWp ["part"] (defScope s_written_part) := ⟨rfl, rfl, rfl, by decide +kernel, rfl, by decide +kernel, by decide +kernel⟩
theorem emp_app (x : Str) : Str.empty ++ x = x := str_of (by rw [cps_app]; rfl)
theorem ok_wp (F : Df K "written_part" s_written_part f fd) (hm : mg "written_part" = some (.ref f)) (B : Bl mg) (GS : DefOk P w K mg base 2 "short_numbers" frWn) : DefOk P w K mg base 3 "written_part" frWp := by
  refine def_ok F hm sc_wp (fun _ _ _ _ _ _ us hl => match us, hl with | [_], _ => rfl) (fun ds r h => by obtain ⟨_, _, rfl, _⟩ := h; rfl) (fun cdv A outer s H E qs ds r hr h => ?_)
  obtain ⟨p, sm, rfl, rfl⟩ := h
  have hr2 : Room 2 (A.deeper (envOfC "written_part" (defScope s_written_part) s.heap.objs.size f cdv)) := hr.mono (by decide)
  have nl := numsS_le (Pa.okNs sm)
  have os := Pa.okNs sm
  rw [Pa.str_is p]
  cases p with
  | put r c k z =>
    have s : r ≤ 999 ∧ c ≤ 999 ∧ k ≤ 999 ∧ z.length ≤ 999 := sm
    refine sd_ifT (PTd.eq (pt_cmpd op_eq rd_eqS (pd_ixT (d := .str "put") (pd_var 0) pd_int atI0) pd_str (nomark _)) (by decide +kernel)) ?_
    refine sd_unp [1, 2, 3, 4] (ds := [.int (r : Int), .int (c : Int), .int (k : Int), .str z]) (PD.eq (pd_slT (pd_var 0) ⟨_, rfl, pd_int⟩ rfl) rfl) (pg_tup rfl (pgs_cons (pg_name sc_wp.nd rfl (Or.inl rfl)) (pgs_cons (pg_name sc_wp.nd rfl (Or.inl rfl)) (pgs_cons (pg_name sc_wp.nd rfl (Or.inl rfl)) (pgs_cons (pg_name sc_wp.nd rfl (Or.inl rfl)) pgs_nil))))) rfl rfl ?_
    refine sd_set 5 (d := .str (numsS (Pa.put r c k z).nums)) (pd_call GS hr2 (pds_cons (PN.pd (pn_lst (pds_cons (pd_var 1) (pds_cons (pd_var 2) (pds_cons (pd_var 3) (pds_cons (pd_lenS B.len (pd_var 4) (by omega)) pds_nil)))))) pds_nil) ⟨_, _, os, .inl rfl, rfl, rfl⟩) ?_ sc_wp.nd
    refine sd_ret (pd_fstr (pj_txt (pj_fmt (pj_txt (pj_fmt .nil)))) (jd_txt pd_str (by decide +kernel) (jd_fmt (pd_var 5) ?_ (jd_txt pd_str ?_ (jd_fmt (pd_var 4) ?_ jd_nil))))) ?_
    · rw [emp_app, show (Str.ofString "p").length = 1 from by decide +kernel]
      omega
    · rw [emp_app, Str.length_append, show (Str.ofString "p").length = 1 from by decide +kernel, show (Str.ofString ":").length = 1 from by decide +kernel]
      omega
    · rw [emp_app, Str.length_append, Str.length_append, show (Str.ofString "p").length = 1 from by decide +kernel, show (Str.ofString ":").length = 1 from by decide +kernel]
      omega
    · rw [emp_app, show (Str.ofString "p") = ⟨#[112]⟩ from by decide +kernel, show (Str.ofString ":") = ⟨#[58]⟩ from by decide +kernel]
      rfl
  | roll n =>
    refine sd_ifF (PTd.eq (pt_cmpd op_eq rd_eqS (pd_ixT (d := .str "roll") (pd_var 0) pd_int atI0) pd_str (nomark _)) (by decide +kernel)) ?_
    refine sd_set 6 (d := .str ⟨#[114]⟩) (pd_if (k := true) (PTd.eq (pt_cmpd op_eq rd_eqS (pd_ixT (d := .str "roll") (pd_var 0) pd_int atI0) pd_str (nomark _)) (by decide +kernel)) (fun _ => PD.eq pd_str (congrArg PyData.str s_r)) (fun e => by cases e)) ?_ sc_wp.nd
    refine sd_set 5 (d := .str (numsS (Pa.roll n).nums)) (pd_call GS hr2 (pds_cons (PD.eq (dz := .tuple [.int n]) (pd_slT (pd_var 0) ⟨_, rfl, pd_int⟩ rfl) rfl) pds_nil) ⟨_, _, os, .inr rfl, rfl, rfl⟩) ?_ sc_wp.nd
    refine sd_ret (pd_fstr (pj_fmt (pj_fmt (pj_txt .nil))) (jd_fmt (y := ⟨#[114]⟩) (pd_var 6) (show 0 + 1 ≤ 100000 by decide) (jd_fmt (pd_var 5) ?_ (jd_txt pd_str ?_ jd_nil)))) ?_
    · rw [emp_app]
      show 1 + _ ≤ _
      omega
    · rw [emp_app, Str.length_append, show (Str.ofString ";").length = 1 from by decide +kernel]
      show 1 + _ + 1 ≤ _
      omega
    · rw [emp_app, show (Str.ofString ";") = ⟨#[59]⟩ from by decide +kernel]
      exact congrArg (fun x => Rs.ok (.str x)) (str_of (by rw [cps_app]; show _ ++ [] = _; rw [List.append_nil]; rfl))
  | cur r c =>
    refine sd_ifF (PTd.eq (pt_cmpd op_eq rd_eqS (pd_ixT (d := .str "cursor") (pd_var 0) pd_int atI0) pd_str (nomark _)) (by decide +kernel)) ?_
    refine sd_set 6 (d := .str ⟨#[99]⟩) (pd_if (k := false) (PTd.eq (pt_cmpd op_eq rd_eqS (pd_ixT (d := .str "cursor") (pd_var 0) pd_int atI0) pd_str (nomark _)) (by decide +kernel)) (fun e => by cases e) (fun _ => PD.eq pd_str (congrArg PyData.str s_c))) ?_ sc_wp.nd
    refine sd_set 5 (d := .str (numsS (Pa.cur r c).nums)) (pd_call GS hr2 (pds_cons (PD.eq (dz := .tuple [.int (r : Int), .int (c : Int)]) (pd_slT (pd_var 0) ⟨_, rfl, pd_int⟩ rfl) rfl) pds_nil) ⟨_, _, os, .inr rfl, rfl, rfl⟩) ?_ sc_wp.nd
    refine sd_ret (pd_fstr (pj_fmt (pj_fmt (pj_txt .nil))) (jd_fmt (y := ⟨#[99]⟩) (pd_var 6) (show 0 + 1 ≤ 100000 by decide) (jd_fmt (pd_var 5) ?_ (jd_txt pd_str ?_ jd_nil)))) ?_
    · rw [emp_app]
      show 1 + _ ≤ _
      omega
    · rw [emp_app, Str.length_append, show (Str.ofString ";").length = 1 from by decide +kernel]
      show 1 + _ + 1 ≤ _
      omega
    · rw [emp_app, show (Str.ofString ";") = ⟨#[59]⟩ from by decide +kernel]
      exact congrArg (fun x => Rs.ok (.str x)) (str_of (by rw [cps_app]; show _ ++ [] = _; rw [List.append_nil]; rfl))
theorem Pa.str_le {p : Pa} (s : p.small) : p.str.length ≤ 1200 := by
  have nl := numsS_le (Pa.okNs s)
  rw [Pa.str_is p]
  simp only [Str.length_append]
  have h1 : (⟨#[p.letter]⟩ : Str).length = 1 := rfl
  have h2 : (⟨#[p.endc]⟩ : Str).length = 1 := rfl
  have h3 : (⟨p.tail.toArray⟩ : Str).length ≤ 999 := by
    show Array.size _ ≤ _
    rw [List.size_toArray]
    cases p with
    | put r c k z =>
      have s : r ≤ 999 ∧ c ≤ 999 ∧ k ≤ 999 ∧ z.length ≤ 999 := s
      show z.cps.toList.length ≤ 999
      rw [zlen]
      omega
    | _ => exact Nat.zero_le _
  omega
def frWc : List PyData → Rs → Prop := fun ds r => ∃ ps : List Pa, (∀ p ∈ ps, p.small ∧ p.good) ∧ ps.length ≤ 100 ∧ ds = [.list (ps.map Pa.d)] ∧ r = .ok (.str (strP ps))
theorem sc_wc : FnScope ["change", "part"] ["change"] (defScope s_written_change) := ⟨rfl, rfl, rfl, by decide +kernel, rfl, by decide +kernel, by decide +kernel⟩
theorem parts_ok {ps : List Pa} (h : ∀ p ∈ ps, p.small ∧ p.good) : (ps.map Pa.d).all isPart = true := List.all_eq_true.mpr fun d hd => by
  obtain ⟨p, hp, rfl⟩ := List.mem_map.mp hd
  exact Pa.isPart (h p hp).1 (h p hp).2
theorem ok_wc (F : Df K "written_change" s_written_change f fd) (hm : mg "written_change" = some (.ref f)) (GL : DefOk P w K mg base 4 "need_change" (frNeedC C)) (GP : DefOk P w K mg base 3 "written_part" frWp) : DefOk P w K mg base 5 "written_change" frWc := by
  refine def_ok F hm sc_wc (fun _ _ _ _ _ _ us hl => match us, hl with | [_], _ => rfl) (fun ds r h => by obtain ⟨_, _, _, rfl, _⟩ := h; rfl) (fun cdv A outer s H E qs ds r hr h => ?_)
  obtain ⟨ps, hp, hl, rfl, rfl⟩ := h
  have tk : L2N.Takes (cxOf (L2N.CX P w) P w K mg base ["change", "part"] "written_change" (defScope s_written_change) f cdv A outer s H E) (WOf E) := L2N.takes_of rfl rfl rfl rfl
  have hr3 : Room 3 (A.deeper (envOfC "written_change" (defScope s_written_change) s.heap.objs.size f cdv)) := hr.mono (by decide)
  have hr4 : Room 4 (A.deeper (envOfC "written_change" (defScope s_written_change) s.heap.objs.size f cdv)) := hr.mono (by decide)
  have sm : okPs (.list (ps.map Pa.d)) := fun xs e x hx => by
    cases e
    obtain ⟨p, hp2, rfl⟩ := List.mem_map.mp hx
    exact Pa.okP (hp p hp2).1
  refine sd_callX (rr := .ok .none) GL hr4 tk (pds_cons (pd_var 0) pds_nil) ⟨_, rfl, sm, by rw [if_pos (show areParts (.list (ps.map Pa.d)) = true from parts_ok hp)]⟩ (fun d _ => ?_) (fun Z e => by cases e)
  have e1 : Txt.join Str.empty (ps.map Pa.str) = strP ps := by
    rw [join_txt, join_none, List.map_map]
    show (⟨((ps.map fun p => (p.cs.toArray).toList).flatten).toArray⟩ : Str) = _
    rw [show (fun p : Pa => (p.cs.toArray).toList) = Pa.cs from funext fun p => List.toList_toArray]
    rfl
  refine sd_ret (PD.eq (pd_join (z := Str.empty) (ys := ps.map Pa.str) (PD.eq pd_str (congrArg PyData.str emp_is)) (PN.pl (pn_lc (y := "part") (j := 1) (items := ps.map Pa.d) (ys := (ps.map Pa.str).map .str) rfl sc_wc.nd (PWk.ws (wk_lst (pd_var 0))) (by rw [List.length_map, List.length_map, List.length_map]) (blkOk_by (N := ["change", "part"]) (sc := defScope s_written_change) (by decide +kernel)) (fun _ _ _ _ _ => pg_name sc_wc.nd rfl (Or.inl rfl)) ?_ (by rw [List.length_map]; omega))) ?_) (congrArg PyData.str e1)) rfl
  · intro i d2 y hd2 hy D o s2 H2 C2 cl fp
    rw [List.getElem?_map] at hd2
    rw [List.getElem?_map, List.getElem?_map] at hy
    cases hc : ps[i]? with
    | none =>
      rw [hc] at hd2
      cases hd2
    | some p =>
      rw [hc] at hd2 hy
      cases hd2
      cases hy
      exact pd_call GP hr3 (pds_cons (pd_var 1) pds_nil) ⟨p, (hp p (List.mem_of_getElem? hc)).1, rfl, rfl⟩
  · have : ∀ ps : List Pa, (∀ p ∈ ps, p.small) → ((ps.map Pa.str).map (·.length)).sum ≤ 1200 * ps.length := fun ps h => by
      induction ps with
      | nil => exact Nat.le_refl _
      | cons a r ih =>
        have h1 := Pa.str_le (h a List.mem_cons_self)
        have h2 := ih fun n hn => h n (List.mem_cons_of_mem _ hn)
        rw [List.map_cons, List.map_cons, List.sum_cons, List.length_cons]
        omega
    have := this ps fun p hp2 => (hp p hp2).1
    rw [show Str.empty.length = 0 from rfl, Nat.mul_zero]
    omega
end
end K51

namespace K51
open PySem PySem.Spec PyProof.Rows L2 FP
/-! ### texts of changes, read -/
theorem textP_app (a b : List Pa) : textP (a ++ b) = textP a ++ textP b := by
  unfold textP
  rw [List.map_append, List.flatten_append]
theorem strP_app (a b : List Pa) : strP (a ++ b) = strP a ++ strP b := str_of (by
  rw [cps_app]
  show (textP (a ++ b)).toArray.toList = (textP a).toArray.toList ++ (textP b).toArray.toList
  rw [List.toList_toArray, List.toList_toArray, List.toList_toArray, textP_app])
theorem read_app : ∀ {ps : List Pa} {cs : List Nat} {r : Option (List PyData)}, (∀ p ∈ ps, p.small) → RdAll cs r → RdAll (textP ps ++ cs) (r.map fun q => ps.map Pa.d ++ q)
  | [], cs, r, _, h => by
    have : (r.map fun q => ([] : List Pa).map Pa.d ++ q) = r := by cases r <;> rfl
    rw [this]
    exact h
  | p :: ps, cs, r, hp, h => by
    have ih := read_app (ps := ps) (fun q hq => hp q (List.mem_cons_of_mem _ hq)) h
    have e : textP (p :: ps) ++ cs = p.cs ++ (textP ps ++ cs) := by
      show (p.cs ++ textP ps) ++ cs = _
      rw [List.append_assoc]
    have e2 : (r.map fun q => (p :: ps).map Pa.d ++ q) = (r.map fun q => ps.map Pa.d ++ q).map fun q => p.d :: q := by
      cases r <;> rfl
    rw [e, e2]
    refine RdAll.cons (n := p.cs.length) (fun q => ?_) (Pa.read (hp p List.mem_cons_self) _) (by rw [List.drop_left]; exact ih)
    have := congrArg List.length q
    rw [List.length_append] at this
    have l : p.cs.length = (numsL p.nums ++ p.endc :: p.tail).length + 1 := rfl
    rw [l] at this
    simp at this
theorem read_all {ps : List Pa} (hp : ∀ p ∈ ps, p.small) : RdAll (textP ps) (some (ps.map Pa.d)) := by
  have := read_app hp RdAll.nil
  rw [List.append_nil] at this
  simpa using this
theorem strP_cps (ps : List Pa) : (strP ps).cps.toList = textP ps := List.toList_toArray
/-- small parts with short texts -/
structure Pa.Fine (p : Pa) : Prop where
  small : p.small
  good : p.good
  short : p.tail.length ≤ 9
theorem Pa.cs_le {p : Pa} (h : p.Fine) : p.cs.length ≤ 111 := by
  have nl := numsS_le (Pa.okNs h.small)
  have := h.short
  have e : (numsL p.nums).length = (numsS p.nums).length := by rw [numsL_str, zlen]; rfl
  show (numsL p.nums ++ p.endc :: p.tail).length + 1 ≤ 111
  rw [List.length_append, List.length_cons]
  omega
theorem text_le : ∀ {ps : List Pa}, (∀ p ∈ ps, p.Fine) → (textP ps).length ≤ 111 * ps.length
  | [], _ => Nat.le_refl _
  | p :: ps, h => by
    have h1 := Pa.cs_le (h p List.mem_cons_self)
    have h2 := text_le (ps := ps) fun q hq => h q (List.mem_cons_of_mem _ hq)
    show (p.cs ++ textP ps).length ≤ 111 * (ps.length + 1)
    rw [List.length_append]
    omega
theorem strP_le {ps : List Pa} (h : ∀ p ∈ ps, p.Fine) : (strP ps).length ≤ 111 * ps.length := by
  show Array.size _ ≤ _
  rw [List.size_toArray]
  exact text_le h
/-- the last sign gone -/
theorem read_cut {ps qs : List Pa} (hp : ∀ p ∈ ps, p.Fine) (hq : ∀ p ∈ qs, p.Fine) (ne : qs ≠ []) : RdAll (textP ps ++ (textP qs).dropLast) none := by
  obtain ⟨init, last, rfl⟩ : ∃ i l, qs = i ++ [l] := ⟨qs.dropLast, qs.getLast ne, (List.dropLast_concat_getLast ne).symm⟩
  have fl : last.Fine := hq last (by simp)
  have e1 : textP [last] = last.cs := by
    show last.cs ++ [] = _
    rw [List.append_nil]
  have ne2 : last.cs ≠ [] := List.cons_ne_nil _ _
  rw [textP_app, e1, List.dropLast_append_of_ne_nil ne2, ← List.append_assoc, ← textP_app]
  have h := read_app (ps := ps ++ init) (cs := last.cs.dropLast) (r := none) (fun p h => by
    rcases List.mem_append.mp h with h | h
    · exact (hp p h).small
    · exact (hq p (List.mem_append_left _ h)).small) (RdAll.bad (fun q => by
      have := congrArg List.length q
      rw [List.length_dropLast] at this
      have l : last.cs.length = (numsL last.nums ++ last.endc :: last.tail).length + 1 := rfl
      rw [l, List.length_append, List.length_cons] at this
      simp at this) (Pa.cut fl.small fun r c k z e => by
        have g := fl.good
        rw [e] at g
        exact (show goodPut k z from g).2.2))
  exact h
theorem ans_app {C : Addr} {ps : List Pa} {r : Option (List PyData)} (h : ∀ q, r = some q → q.all isPart = false) : ansA C (r.map fun q => ps.map Pa.d ++ q) = .er C := by
  cases r with
  | none => rfl
  | some q =>
    show (if ((ps.map Pa.d) ++ q).all isPart = true then _ else _) = _
    rw [List.all_append, h q rfl, Bool.and_false]
    rfl
theorem ans_good {C : Addr} {ps : List Pa} (h : ∀ p ∈ ps, p.Fine) : ansA C (some (ps.map Pa.d)) = .ok (.list (ps.map Pa.d)) := if_pos (parts_ok fun p hp => ⟨(h p hp).small, (h p hp).good⟩)
/-! ### texts that write none -/
def chk (b : Str) : Bool := !b.cps.toList.isEmpty && (match rdPart b.cps.toList with
  | none => true
  | some (p, n) => decide (n = b.cps.toList.length) && !isPart p)
theorem chk_ok {b : Str} (h : chk b = true) : ∃ r, RdAll b.cps.toList r ∧ ∀ q, r = some q → q.all isPart = false := by
  unfold chk at h
  have h := Bool.and_eq_true _ _ ▸ h
  have ne : b.cps.toList ≠ [] := fun e => by
    have := h.1
    rw [e] at this
    cases this
  have h2 := h.2
  cases hr : rdPart b.cps.toList with
  | none => exact ⟨none, RdAll.bad ne hr, fun q e => by cases e⟩
  | some x =>
    obtain ⟨p, n⟩ := x
    rw [hr] at h2
    have h2 := Bool.and_eq_true _ _ ▸ h2
    have en := of_decide_eq_true h2.1
    have np : isPart p = false := by simpa using h2.2
    refine ⟨some [p], RdAll.cons (r := some []) ne hr (by rw [en, List.drop_length]; exact RdAll.nil), fun q e => ?_⟩
    cases e
    show (isPart p && true) = false
    rw [np]
    rfl
def six : List Str := ["p0,0,0,0:", "r0;", "r11;", ";", "c0;", "p0,0,8,1:a"]
theorem six_ok : six.all (fun b => chk b && decide (b.length ≤ 10)) = true := by decide +kernel
/-! ### the law's parts -/
def some7 : List Int := [0, 1, 9, 10, 99, 100, 999]
def rolls5 : List Int := [1, -1, 9, -10, 10]
def sg8 : List Nat := [97, 59, 58, 44, 94, 126, 32, 48]
def tx8 (m : Int) (n : Nat) : List Nat := (List.range n).map fun (j : Nat) => sg8.getD (drawn m j % 8).toNat 97
def paOf (m : Int) : Pa :=
  if m % 4 = 0 then .roll (rolls5.getD (m / 8 % 5).toNat 1)
  else if m % 4 = 1 then .cur (some7.getD (m / 64 % 7).toNat 0).toNat (some7.getD (m / 1024 % 7).toNat 0).toNat
  else .put (some7.getD (m / 64 % 7).toNat 0).toNat (some7.getD (m / 1024 % 7).toNat 0).toNat (m / 65536 % 8).toNat ⟨(tx8 m (1 + (m / 1048576 % 9).toNat)).toArray⟩
theorem some7_le : ∀ j, (some7.getD j 0).toNat ≤ 999 := fun j => by
  by_cases h : j < 7
  · revert j
    decide
  · rw [List.getD_eq_getElem?_getD, List.getElem?_eq_none (by show 7 ≤ j; omega)]
    decide
theorem some7_nat : ∀ j, ((some7.getD j 0).toNat : Int) = some7.getD j 0 := fun j => by
  by_cases h : j < 7
  · revert j
    decide
  · rw [List.getD_eq_getElem?_getD, List.getElem?_eq_none (by show 7 ≤ j; omega)]
    rfl
theorem rolls_ok : ∀ j, (-10 ≤ rolls5.getD j 1 ∧ rolls5.getD j 1 ≤ 10) ∧ rolls5.getD j 1 ≠ 0 := fun j => by
  by_cases h : j < 5
  · revert j
    decide
  · rw [List.getD_eq_getElem?_getD, List.getElem?_eq_none (by show 5 ≤ j; omega)]
    decide
theorem sg8_ok : ∀ j, okSign (sg8.getD j 97) = true := fun j => by
  by_cases h : j < 8
  · revert j
    decide
  · rw [List.getD_eq_getElem?_getD, List.getElem?_eq_none (by show 8 ≤ j; omega)]
    decide
theorem tx8_len (m : Int) (n : Nat) : (tx8 m n).length = n := by
  unfold tx8
  rw [List.length_map, List.length_range]
theorem paOf_fine (m : Int) : (paOf m).Fine := by
  unfold paOf
  split
  · exact ⟨(rolls_ok _).1, (rolls_ok _).2, Nat.zero_le _⟩
  · split
    · exact ⟨⟨some7_le _, some7_le _⟩, trivial, Nat.zero_le _⟩
    · have b := Int.emod_lt_of_pos (m / 1048576) (show (0 : Int) < 9 by decide)
      have b8 := Int.emod_lt_of_pos (m / 65536) (show (0 : Int) < 8 by decide)
      have tl : (⟨(tx8 m (1 + (m / 1048576 % 9).toNat)).toArray⟩ : Str).length = 1 + (m / 1048576 % 9).toNat := by
        show Array.size _ = _
        rw [List.size_toArray, tx8_len]
      refine ⟨⟨some7_le _, some7_le _, by omega, by rw [tl]; omega⟩, ⟨by omega, ?_, by rw [tl]; omega⟩, ?_⟩
      · show (tx8 m (1 + (m / 1048576 % 9).toNat)).toArray.toList.all okSign = true
        rw [List.toList_toArray]
        refine List.all_eq_true.mpr fun c hc => ?_
        obtain ⟨j, _, rfl⟩ := List.mem_map.mp hc
        exact sg8_ok _
      · show (tx8 m (1 + (m / 1048576 % 9).toNat)).toArray.toList.length ≤ 9
        rw [List.toList_toArray, tx8_len]
        omega
theorem fine_list (f : Nat → Int) (n : Nat) : ∀ p ∈ (List.range n).map (fun j => paOf (f j)), p.Fine := fun p hp => by
  obtain ⟨j, _, rfl⟩ := List.mem_map.mp hp
  exact paOf_fine _
end K51

namespace K51
open PySem PySem.Spec PyProof.Rows L2 FP
theorem rangeD_at {n i : Nat} {d : PyData} (h : (rangeD 0 ((n : Nat) : Int).toNat)[i]? = some d) : i < n ∧ d = .int (i : Int) := by
  have hl : i < n := by
    have := (List.getElem?_eq_some_iff.mp h).1
    rw [rangeD_len] at this
    omega
  have e : ((n : Nat) : Int).toNat = n := by omega
  rw [e, rangeD_get hl] at h
  cases h
  exact ⟨hl, by rw [Int.zero_add]⟩
theorem at_get {α : Type} {xs : List α} {d : α} {j : Nat} (h : j < xs.length) : xs[j]? = some (xs.getD j d) := by
  rw [List.getD_eq_getElem?_getD, List.getElem?_eq_getElem h]
  rfl
theorem mod_is (a : Int) {n : Int} (h : 0 < n) : a % n = (((a % n).toNat : Nat) : Int) ∧ (((a % n).toNat : Nat) : Int) < n := by
  have h1 := Int.emod_nonneg a (show n ≠ 0 by omega)
  have h2 := Int.emod_lt_of_pos a h
  omega
theorem ones_sum : ∀ cs : List Nat, ((cs.map fun c => (⟨#[c]⟩ : Str)).map (·.length)).sum = cs.length
  | [] => rfl
  | c :: cs => by
    rw [List.map_cons, List.map_cons, List.sum_cons, ones_sum cs, List.length_cons]
    show 1 + cs.length = _
    omega
theorem sg8_at : ∀ n, n < 8 → ("a;:,^~ 0" : Str).cps.toList[n]? = some (sg8.getD n 97) := by decide +kernel
section
variable {P : Program} {w : World} {K : PySem.W.Frag} {mg : Str → Option Value} {base : Heap} {f C AB : Addr} {fd : FuncData}
def frLp : List PyData → Rs → Prop := fun ds r => ∃ m : Int, ds = [.int m] ∧ r = .ok (paOf m).d
abbrev NLp : List Str := ["_law_more", "_law_some", "_law_text", "_law_j"]
theorem sc_lp : FnScope NLp ["_law_more"] (defScope s__law_part) := ⟨rfl, rfl, rfl, by decide +kernel, rfl, by decide +kernel, by decide +kernel⟩
theorem ok_lp (F : Df K "_law_part" s__law_part f fd) (hm : mg "_law_part" = some (.ref f)) (B : Bl mg) (GD : DefOk P w K mg base 1 "_law_drawn" frDrawn) : DefOk P w K mg base 2 "_law_part" frLp := by
  refine def_ok F hm sc_lp (fun _ _ _ _ _ _ us hl => match us, hl with | [_], _ => rfl) (fun ds r h => by obtain ⟨_, rfl, _⟩ := h; rfl) (fun cdv A outer s H E qs ds r hr h => ?_)
  obtain ⟨m, rfl, rfl⟩ := h
  have hr1 : Room 1 (A.deeper (envOfC "_law_part" (defScope s__law_part) s.heap.objs.size f cdv)) := hr.mono (by decide)
  obtain ⟨e5, b5⟩ := mod_is (m / 8) (n := 5) (by decide)
  obtain ⟨e7, b7⟩ := mod_is (m / 64) (n := 7) (by decide)
  obtain ⟨f7, c7⟩ := mod_is (m / 1024) (n := 7) (by decide)
  obtain ⟨e8, b8⟩ := mod_is (m / 65536) (n := 8) (by decide)
  obtain ⟨e9, b9⟩ := mod_is (m / 1048576) (n := 9) (by decide)
  have pick : ∀ {X : Cx} {δ : De} {ω : Om} {a b : Expr} {pos : Pos} {j : Nat}, j < 7 → PD X δ ω a (.list (some7.map .int)) → PD X δ ω b (.int (j : Int)) → PlainIx b → PD X δ ω (.Subscript a b pos) (.int ((some7.getD j 0).toNat : Int)) := by
    intro X δ ω a b pos j hj ha hb hs
    refine PD.eq (pd_ixL (d := .int (some7.getD j 0)) (PD.pl ha) hb (atI_nat (by rw [List.getElem?_map, at_get (d := 0) (show j < some7.length from hj)]; rfl)) hs) (congrArg PyData.int (some7_nat j).symm)
  refine sd_set 1 (d := .list (some7.map .int)) (PN.pd (pn_lst (pds_cons pd_int (pds_cons pd_int (pds_cons pd_int (pds_cons pd_int (pds_cons pd_int (pds_cons pd_int (pds_cons pd_int pds_nil))))))))) ?_ sc_lp.nd
  unfold paOf
  refine sd_if (kk := decide (m % 4 = 0)) (pt_cmpd op_eq rd_eqI (pd_mod (by decide) (pd_var 0) pd_int) pd_int (nomark _)) (fun hk => ?_) (fun hk => sd_nil ?_)
  · rw [if_pos (of_decide_eq_true hk)]
    exact sd_ret (pd_tup (pds_cons pd_str (pds_cons (pd_ixL (d := .int (rolls5.getD (m / 8 % 5).toNat 1)) (PN.pl (pn_lst (ds := rolls5.map .int) (pds_cons pd_int (pds_cons (pd_neg pd_int) (pds_cons pd_int (pds_cons (pd_neg pd_int) (pds_cons pd_int pds_nil))))))) (PD.eq (pd_mod (by decide) (pd_fdiv (wide_div (b := 4) (by decide) (by decide) (by decide) (by decide)) (pd_var 0) pd_int) pd_int) (congrArg PyData.int e5)) (atI_nat (by rw [List.getElem?_map, at_get (d := 1) (show (m / 8 % 5).toNat < rolls5.length by show _ < 5; omega)]; rfl))) pds_nil))) rfl
  rw [if_neg (of_decide_eq_false hk)]
  refine sd_if (kk := decide (m % 4 = 1)) (pt_cmpd op_eq rd_eqI (pd_mod (by decide) (pd_var 0) pd_int) pd_int (nomark _)) (fun hk => ?_) (fun hk => sd_nil ?_)
  · rw [if_pos (of_decide_eq_true hk)]
    exact sd_ret (pd_tup (pds_cons pd_str (pds_cons (pick (j := (m / 64 % 7).toNat) (by omega) (pd_var 1) (PD.eq (pd_mod (by decide) (pd_fdiv (wide_div (b := 7) (by decide) (by decide) (by decide) (by decide)) (pd_var 0) pd_int) pd_int) (congrArg PyData.int e7)) (fun _ _ => rfl)) (pds_cons (pick (j := (m / 1024 % 7).toNat) (by omega) (pd_var 1) (PD.eq (pd_mod (by decide) (pd_fdiv (wide_div (b := 11) (by decide) (by decide) (by decide) (by decide)) (pd_var 0) pd_int) pd_int) (congrArg PyData.int f7)) (fun _ _ => rfl)) pds_nil)))) rfl
  rw [if_neg (of_decide_eq_false hk)]
  have el := tx8_len m (1 + (m / 1048576 % 9).toNat)
  have en : (1 : Int) + m / 1048576 % 9 = ((1 + (m / 1048576 % 9).toNat : Nat) : Int) := by omega
  generalize hn : 1 + (m / 1048576 % 9).toNat = n at el en
  have nb : n ≤ 9 := by omega
  refine sd_set 2 (d := .str ⟨(tx8 m n).toArray⟩) (PD.eq (d := .str (Txt.join (Str.ofString "") ((tx8 m n).map fun c => (⟨#[c]⟩ : Str)))) (pd_join (ys := (tx8 m n).map fun c => (⟨#[c]⟩ : Str)) pd_str (PN.pl (pn_lc (y := "_law_j") (j := 3) (items := rangeD 0 ((n : Nat) : Int).toNat) (ys := ((tx8 m n).map fun c => (⟨#[c]⟩ : Str)).map .str) rfl sc_lp.nd (PWk.ws (wk_range1 (j := (n : Int)) B.range (PD.eq (pd_add pd_int (pd_mod (by decide) (pd_fdiv (wide_div (b := 21) (by decide) (by decide) (by decide) (by decide)) (pd_var 0) (pd_pow ⟨by decide, by decide, by decide⟩ pd_int pd_int)) pd_int)) (congrArg PyData.int en)) (by omega))) ?len (blkOk_by (N := NLp) (sc := defScope s__law_part) (by decide +kernel)) (fun _ _ _ _ _ => pg_name sc_lp.nd rfl (Or.inl rfl)) ?elt ?le)) ?sz) (by rw [glued_ones])) ?_ sc_lp.nd
  case len =>
    rw [List.length_map, List.length_map, el, rangeD_len]
    omega
  case le =>
    rw [rangeD_len]
    omega
  case sz =>
    have e2 : (Str.ofString "").length = 0 := by decide +kernel
    rw [ones_sum, e2, List.length_map, el]
    omega
  case elt =>
    intro k d y hd hy D2 o s2 H2 C2 cl fp
    obtain ⟨hj2, rfl⟩ := rangeD_at hd
    unfold tx8 at hy
    rw [List.getElem?_map, List.getElem?_map, List.getElem?_map, List.getElem?_range (by simpa using hj2)] at hy
    cases hy
    obtain ⟨q1, q2⟩ := mod_is (K51.drawn m k) (n := 8) (by decide)
    exact pd_ixS (z := "a;:,^~ 0") pd_str (PD.eq (pd_mod (by decide) (pd_call GD hr1 (pds_cons (pd_var 0) (pds_cons (pd_var 3) pds_nil)) ⟨_, _, rfl, rfl⟩) pd_int) (congrArg PyData.int q1)) (by decide +kernel) (atI_nat (sg8_at _ (by omega)))
  · exact sd_ret (pd_tup (pds_cons pd_str (pds_cons (pick (j := (m / 64 % 7).toNat) (by omega) (pd_var 1) (PD.eq (pd_mod (by decide) (pd_fdiv (wide_div (b := 7) (by decide) (by decide) (by decide) (by decide)) (pd_var 0) pd_int) pd_int) (congrArg PyData.int e7)) (fun _ _ => rfl)) (pds_cons (pick (j := (m / 1024 % 7).toNat) (by omega) (pd_var 1) (PD.eq (pd_mod (by decide) (pd_fdiv (wide_div (b := 11) (by decide) (by decide) (by decide) (by decide)) (pd_var 0) pd_int) pd_int) (congrArg PyData.int f7)) (fun _ _ => rfl)) (pds_cons (PD.eq (pd_mod (by decide) (pd_fdiv (wide_div (b := 17) (by decide) (by decide) (by decide) (by decide)) (pd_var 0) (pd_pow ⟨by decide, by decide, by decide⟩ pd_int pd_int)) pd_int) (congrArg PyData.int e8)) (pds_cons (pd_var 2) pds_nil)))))) rfl
end
end K51

namespace K51
open PySem PySem.Spec PyProof.Rows L2 FP
theorem rd_neS {K : PySem.W.Frag} {n : Nat} {d e : PyData} (h : Shp n d) (he : d = e) (hn : n ≤ 64 := by decide) : RD K (rNeD K) d e (.bool false) := by
  subst he
  have := rd_neD (K := K) (h.ok hn) (h.ok hn)
  rw [h.refl] at this
  exact this
theorem signs_strOk {z : Str} (h : areSigns (.str z) = true) : PyData.strOk z = true := by
  have q := List.all_eq_true.mp (show z.cps.toList.all okSign = true from h)
  show z.cps.all (· < 0x110000) = true
  rw [← Array.all_toList]
  refine List.all_eq_true.mpr fun c hc => ?_
  have h2 := Bool.and_eq_true _ _ ▸ (q c hc)
  have h3 := Bool.and_eq_true _ _ ▸ h2.1
  have l := of_decide_eq_true h3.2
  exact decide_eq_true (by omega)
theorem Pa.shp {p : Pa} (g : p.good) : Shp 1 p.d := by
  cases p with
  | roll n =>
    refine Shp.tup (n := 0) fun x hx => ?_
    simp only [List.mem_cons, List.not_mem_nil, or_false] at hx
    rcases hx with rfl | rfl
    · exact Shp.str (by decide +kernel)
    · exact Shp.int _
  | cur r c =>
    refine Shp.tup (n := 0) fun x hx => ?_
    simp only [List.mem_cons, List.not_mem_nil, or_false] at hx
    rcases hx with rfl | rfl | rfl
    · exact Shp.str (by decide +kernel)
    · exact Shp.int _
    · exact Shp.int _
  | put r c k z =>
    refine Shp.tup (n := 0) fun x hx => ?_
    simp only [List.mem_cons, List.not_mem_nil, or_false] at hx
    rcases hx with rfl | rfl | rfl | rfl | rfl
    · exact Shp.str (by decide +kernel)
    · exact Shp.int _
    · exact Shp.int _
    · exact Shp.int _
    · exact Shp.str (signs_strOk (show goodPut k z from g).2.1)
theorem list_shp {ps : List Pa} (h : ∀ p ∈ ps, p.Fine) : Shp 2 (.list (ps.map Pa.d)) := Shp.lst fun x hx => by
  obtain ⟨p, hp, rfl⟩ := List.mem_map.mp hx
  exact Pa.shp (h p hp).good
theorem cut_last (z : Str) : cutS z none (some (-1)) = ⟨z.cps.toList.dropLast.toArray⟩ := by
  unfold cutS
  have e : HT.sIx z.length z.length (some (-1)) = z.length - 1 := by
    show (if (-1 : Int) < 0 then ((-1 : Int) + (z.length : Int)).toNat else min ((-1 : Int).toNat) z.length) = _
    rw [if_pos (by decide)]
    omega
  rw [HT.sIx_none, e, List.drop_zero, Nat.sub_zero, List.dropLast_eq_take, zlen]
section
variable {P : Program} {w : World} {K : PySem.W.Frag} {mg : Str → Option Value} {base : Heap} {f CS : Addr} {fd : FuncData}
structure Defs (P : Program) (w : World) (K : PySem.W.Frag) (mg : Str → Option Value) (base : Heap) (CS : Addr) : Prop where
  B : Bl mg
  li : mg "list" = none
  cell : DefOk P w K mg base 1 "_law_cell" frLCell
  drawn : DefOk P w K mg base 1 "_law_drawn" frDrawn
  part : DefOk P w K mg base 2 "_law_part" frLp
  wc : DefOk P w K mg base 5 "written_change" frWc
  rd : DefOk P w K mg base 5 "read_change" (frRd (He.ga K "BadChange"))
  told : Told K mg "_law_told" s__law_told
  word : WordOk P w K mg base 8 "_law_word" (fwA K)
  exm : PySem.W.exmOne K (.ref (He.ga K "BadChange")) (.ref CS) = some true
  scr : mg "ScreenError" = some (.ref CS)
abbrev NL : List Str := ["_law_script", "_law_k", "_law_more", "_law_ones", "_law_others", "_law_first", "_law_second", "_law_part_here", "_law_bad", "_law_j"]
theorem sc_law : FnScope NL ["_law_script"] (defScope s_law) := ⟨rfl, rfl, rfl, by decide +kernel, rfl, by decide +kernel, by decide +kernel⟩
theorem sc_told : FnScope ["_law_deed", "_law_e"] ["_law_deed"] (defScope s__law_told) := ⟨rfl, rfl, rfl, by decide +kernel, rfl, by decide +kernel, by decide +kernel⟩
theorem told {X : Cx} {T : List (Addr × Str)} {δ : De} {ω : Om} {Rz : PyData → Om → Prop} {pos p lpos : Pos} {params : Arguments} {body : Expr} {scope : Scope} (Ds : Defs X.prog X.w X.K X.mg X.base CS) (L : LamT X T) (hT : T ≠ []) (hps : ω.ps = []) (hr : Room 9 X.A)
    (hb : ∀ (A : Around) (outer : List Env) (s : Shared) (H : Hp) (E : XK) (f c' : Addr), Room 7 (A.deeper (LamX.lamEnv X scope s.heap.objs.size f c')) → YX (lamN X A outer s H E scope f c') (WOf E) T δ ω body (fun r ω1 => match r with | .ok (.im d) => Rz d ω1 | .ok (.ad _) => False | .er Z => PySem.W.exmOne X.K (.ref Z) (.ref CS) = some true ∧ ∃ d, fwA X.K Z d ∧ Rz d ω1))
    (hL : LamX.LamS X.env.scope scope) (hdef : defaultsOf params X.env = ([], []) := by rfl) (hbind : ∀ (q : Str) (cl : List (Str × Addr)) (pm cv ctv : Value), bindArgs (PySem.W.kla_fn "<lambda>" q params body scope cl pm cv ctv) ⟨[], []⟩ = pure [] := by intros; rfl)
    (hg : Gl X "_law_told" := by rfl) : ZE X T δ ω (.Call (.Name "_law_told" p) [.Lambda params body scope lpos] [] pos) Rz :=
  ze_told (k := 7) (Ng := ["_law_deed", "_law_e"]) (e := "ScreenError") (n := "_law_e") (wd := "_law_word") Ds.told L hT hps hr Ds.word rfl sc_told sc_told.nd rfl (Or.inl rfl) rfl rfl rfl rfl Ds.scr (fun _ _ _ _ _ _ us hl => match us, hl with | [_], _ => rfl) hb hL hdef hbind hg (by decide) (by decide) (by decide) (by decide) (by decide) (by decide) (by decide)
def forBody : List Stmt → List Stmt
  | .For _ _ b _ _ :: _ => b
  | _ => []
abbrev bodyK : List Stmt := forBody (defBody s_law)
abbrev XL (P : Program) (w : World) (K : PySem.W.Frag) (mg : Str → Option Value) (base : Heap) (f : Addr) (cdv : Value) (A : Around) (outer : List Env) (s : Shared) (H : Hp) (E : XK) : Cx := cxOf (L2N.CX P w) P w K mg base NL "law" (defScope s_law) f cdv A outer s H E
abbrev rf : PyData := refused "BadChange"
theorem rf_shp : Shp 1 rf := shp_refused (by decide +kernel)
theorem erB : fwA K (He.ga K "BadChange") rf := ⟨rfl, rfl⟩
abbrev dl (ns : List Int) (k m : Int) (ps qs : List Pa) (y7 y8 : Option Sd) : De := [some (.im (.list (ns.map .int))), some (.im (.int k)), some (.im (.int m)), some (.im (.list (ps.map Pa.d))), some (.im (.list (qs.map Pa.d))), some (.im (.str (strP ps))), some (.im (.str (strP qs))), y7, y8, none]
theorem both_fine {ps qs : List Pa} (hp : ∀ p ∈ ps, p.Fine) (hq : ∀ p ∈ qs, p.Fine) : ∀ p ∈ ps ++ qs, p.Fine := fun p h => by
  rcases List.mem_append.mp h with h | h
  · exact hp p h
  · exact hq p h
theorem fine2 {ps : List Pa} (hp : ∀ p ∈ ps, p.Fine) : ∀ p ∈ ps, p.small ∧ p.good := fun p h => ⟨(hp p h).small, (hp p h).good⟩
/-- a text of parts is read as these -/
theorem fr_read {C : Addr} {ps : List Pa} (hp : ∀ p ∈ ps, p.Fine) (hl : ps.length ≤ 9) : frRd C [.str (strP ps)] (.ok (.list (ps.map Pa.d))) := by
  have := strP_le hp
  exact ⟨strP ps, _, by omega, by rw [strP_cps]; exact read_all fun p h => (hp p h).small, rfl, (ans_good hp).symm⟩
theorem fr_cut {C : Addr} {ps qs : List Pa} (hp : ∀ p ∈ ps, p.Fine) (hq : ∀ p ∈ qs, p.Fine) (ne : qs ≠ []) (h1 : ps.length ≤ 4) (h2 : qs.length ≤ 4) : frRd C [.str (strP ps ++ ⟨(textP qs).dropLast.toArray⟩)] (.er C) := by
  have l1 := strP_le hp
  have l2 := text_le hq
  refine ⟨_, none, ?_, ?_, rfl, rfl⟩
  · rw [Str.length_append]
    show _ + Array.size _ ≤ _
    rw [List.size_toArray, List.length_dropLast]
    omega
  · rw [cps_app, strP_cps]
    show RdAll (textP ps ++ ((textP qs).dropLast.toArray).toList) none
    rw [List.toList_toArray]
    exact read_cut hp hq ne
theorem fr_six {C : Addr} {ps : List Pa} {b : Str} (hp : ∀ p ∈ ps, p.Fine) (h1 : ps.length ≤ 4) (hb : b ∈ six) : frRd C [.str (strP ps ++ b)] (.er C) := by
  have q := Bool.and_eq_true _ _ ▸ (List.all_eq_true.mp six_ok b hb)
  obtain ⟨r, hr, hn⟩ := chk_ok q.1
  have l1 := strP_le hp
  have l2 := of_decide_eq_true q.2
  refine ⟨_, r.map fun q => ps.map Pa.d ++ q, ?_, ?_, rfl, (ans_app hn).symm⟩
  · rw [Str.length_append]
    omega
  · rw [cps_app, strP_cps]
    exact read_app (fun p h => (hp p h).small) hr
end
end K51

namespace K51
open PySem PySem.Spec PyProof.Rows L2 FP
section
variable {P : Program} {w : World} {K : PySem.W.Frag} {mg : Str → Option Value} {base : Heap} {f CS : Addr} {fd : FuncData}
def onesP (m : Int) : List Pa := (List.range (m / 64 % 5).toNat).map fun (j : Nat) => paOf (drawn m (10 + (j : Int)))
def othersP (m : Int) : List Pa := (List.range (1 + (m / 1024 % 4).toNat)).map fun (j : Nat) => paOf (drawn m (20 + (j : Int)))
theorem six_len : ∀ b ∈ six, b.length ≤ 10 := fun b hb => of_decide_eq_true (Bool.and_eq_true _ _ ▸ (List.all_eq_true.mp six_ok b hb)).2
set_option maxHeartbeats 16000000 in
/-- behind the texts -/
theorem behind {cdv : Value} {A : Around} {outer : List Env} {sh : Shared} {H : Hp} {E : XK} {T : List (Addr × Str)} {ns : List Int} (Ds : Defs P w K mg base CS) (LT : LamT (XL P w K mg base f cdv A outer sh H E) T) (hT : T ≠ [])
    (hr : Room 9 (A.deeper (envOfC "law" (defScope s_law) sh.heap.objs.size f cdv))) {R : Out → Prop} {k m : Int} {ps qs : List Pa} (hp : ∀ p ∈ ps, p.Fine) (hq : ∀ p ∈ qs, p.Fine) (l1 : ps.length ≤ 4) (l2 : qs.length ≤ 4) (ne : qs ≠ []) {os : Os} {y7 y8 : Option Sd}
    (hR : ∀ ω : Om, ω.ps = [] → ∀ y7 y8, R (.nx (dl ns k m ps qs y7 y8) ω)) :
    SD (XL P w K mg base f cdv A outer sh H E) (WOf E) T (bodyK.drop 5) (dl ns k m ps qs y7 y8) ⟨[], os⟩ R := by
  have B := Ds.B
  have hr5 : Room 5 (A.deeper (envOfC "law" (defScope s_law) sh.heap.objs.size f cdv)) := hr.mono (by decide)
  have pl := strP_le hp
  have ql := strP_le hq
  have bf := both_fine hp hq
  have bl : (ps ++ qs).length ≤ 8 := by rw [List.length_append]; omega
  have cz : (ps.map Pa.d).length + (qs.map Pa.d).length ≤ 10000 := by rw [List.length_map, List.length_map]; omega
  have cat : ∀ {X : Cx} {δ : De} {ω : Om} {a b : Expr} {pos : Pos}, PD X δ ω a (.list (ps.map Pa.d)) → PD X δ ω b (.list (qs.map Pa.d)) → PN X δ ω (.BinOp a .Add b pos) ((ps ++ qs).map Pa.d) := fun ha hb => PN.eq (pn_catL (PD.pl ha) (PD.pl hb) cz) (by rw [List.map_append])
  have cts : (strP ps).length + (strP qs).length ≤ 100000 := by omega
  have catS : ∀ {X : Cx} {δ : De} {ω : Om} {a b : Expr} {pos : Pos}, PD X δ ω a (.str (strP ps)) → PD X δ ω b (.str (strP qs)) → PD X δ ω (.BinOp a .Add b pos) (.str (strP (ps ++ qs))) := fun ha hb => PD.eq (pd_catS ha hb cts) (congrArg PyData.str (strP_app ps qs).symm)
  refine sd_ifZF (zt_cmp op_ne (told Ds LT hT rfl hr (fun A1 u1 s1 H1 E1 f1 c1 hr' => PR.yx (pr_call (rr := .ok (.str (strP (ps ++ qs)))) Ds.wc (hr'.mono (by decide)) lamN_takes (pds_cons (PN.pd (cat (pd_var 3) (pd_var 4))) pds_nil) ⟨ps ++ qs, fine2 bf, by omega, rfl, rfl⟩) (PD.ze (catS (pd_var 5) (pd_var 6)) ⟨_, rd_neT, ?_, ?_⟩)) (LamX.lamS_by (sc := defScope s_law) (by decide +kernel))) (nomark _))
  · rw [decide_eq_true rfl]
    rfl
  have s2 := list_shp bf
  have s0 : Shp 1 (.list []) := Shp.lst (n := 0) fun x hx => absurd hx List.not_mem_nil
  refine sd_ifZF (zt_orZ (zt_cmp (op_neD hr.units) (told Ds LT hT rfl hr (fun A1 u1 s1 H1 E1 f1 c1 hr' => PR.yx (pr_call (rr := .ok (.list ((ps ++ qs).map Pa.d))) Ds.rd (hr'.mono (by decide)) lamN_takes (pds_cons (catS (pd_var 5) (pd_var 6)) pds_nil) (fr_read bf (by omega))) (PD.ze (PN.pd (cat (pd_var 3) (pd_var 4))) ⟨_, rd_neS s2 rfl, fun e => (by cases e), fun _ => PTd.zt (k := false) (pt_cmpd (op_neD hr.units) (rd_neS (d := .list []) s0 rfl) (pd_call Ds.rd hr5 (pds_cons pd_str pds_nil) ⟨"", some [], by decide +kernel, RdAll.nil, rfl, rfl⟩) (PN.pd (pn_lst pds_nil)) (nomark _)) ⟨rfl, ?_⟩⟩)) (LamX.lamS_by (sc := defScope s_law) (by decide +kernel))) (nomark _)))
  refine sd_for 7 (items := (ps ++ qs).map Pa.d) (fun i δ' ω' => ω'.ps = [] ∧ ∃ y7 y8, δ' = dl ns k m ps qs y7 y8) (wk_lst (PN.pd (cat (pd_var 3) (pd_var 4)))) ⟨rfl, _, _, rfl⟩ ?_ ?_ (pg_name sc_law.nd rfl (Or.inr rfl)) (passes_of rfl) rfl
  · rintro i d δ' ⟨pss, os'⟩ hd ⟨hps, y7, y8, rfl⟩
    have hps : pss = [] := hps
    subst hps
    obtain ⟨p, hp2, rfl⟩ := List.mem_map.mp (List.mem_of_getElem? hd)
    have fp : ∀ q ∈ [p], q.Fine := fun q hq => by
      rw [List.mem_singleton.mp hq]
      exact bf p hp2
    refine sd_ifZF (zt_cmp (op_neD hr.units) (told Ds LT hT rfl hr (fun A1 u1 s1 H1 E1 f1 c1 hr' => PR.yx (pr_call (rr := .ok (.list ([p].map Pa.d))) Ds.rd (hr'.mono (by decide)) lamN_takes (pds_cons (pd_call Ds.wc (hr'.mono (by decide)) (pds_cons (PN.pd (pn_lst (pds_cons (pd_var 7) pds_nil))) pds_nil) ⟨[p], fine2 fp, (show 1 ≤ 100 by decide), rfl, rfl⟩) pds_nil) (fr_read fp (show 1 ≤ 9 by decide))) (PD.ze (PN.pd (pn_lst (pds_cons (pd_var 7) pds_nil))) ⟨_, rd_neS (d := .list ([p].map Pa.d)) (list_shp fp) rfl, rfl, ?_⟩)) (LamX.lamS_by (sc := defScope s_law) (by decide +kernel))) (nomark _))
    exact sd_nil ⟨rfl, _, _, rfl⟩
  rintro δ' ⟨pss, os'⟩ ⟨hps, y7, y8, rfl⟩
  have hps : pss = [] := hps
  subst hps
  have e1 : cutS (strP qs) none (some (-1)) = ⟨(textP qs).dropLast.toArray⟩ := by rw [cut_last, strP_cps]
  have l3 : (⟨(textP qs).dropLast.toArray⟩ : Str).length ≤ 500 := by
    have := text_le hq
    show Array.size _ ≤ _
    rw [List.size_toArray, List.length_dropLast]
    omega
  refine sd_ifZF (zt_cmp (op_neD hr.units) (told Ds LT hT rfl hr (fun A1 u1 s1 H1 E1 f1 c1 hr' => PR.yx (pr_call Ds.rd (hr'.mono (by decide)) lamN_takes (pds_cons (pd_catS (pd_var 5) (PD.eq (pd_slS (pd_var 6) rfl ⟨_, rfl, pd_neg pd_int⟩ (by omega)) (congrArg PyData.str e1)) (by omega)) pds_nil) (fr_cut hp hq ne l1 l2)) ⟨Ds.exm, _, erB, PD.ze (pd_tup (pds_cons pd_str (pds_cons pd_str pds_nil))) ⟨_, rd_neS (d := rf) rf_shp rfl, rfl, ?_⟩⟩) (LamX.lamS_by (sc := defScope s_law) (by decide +kernel))) (nomark _))
  have cb : ∀ b ∈ six, (strP ps).length + b.length ≤ 100000 := fun b hb => by
    have := six_len b hb
    omega
  refine sd_for 8 (items := six.map fun b => .str (strP ps ++ b)) (fun i δ' ω' => ω'.ps = [] ∧ ∃ y7 y8, δ' = dl ns k m ps qs y7 y8) (wk_lst (PN.pd (pn_lst (pds_cons (pd_catS (pd_var 5) pd_str (cb _ (by simp [six]))) (pds_cons (pd_catS (pd_var 5) pd_str (cb _ (by simp [six]))) (pds_cons (pd_catS (pd_var 5) pd_str (cb _ (by simp [six]))) (pds_cons (pd_catS (pd_var 5) pd_str (cb _ (by simp [six]))) (pds_cons (pd_catS (pd_var 5) pd_str (cb _ (by simp [six]))) (pds_cons (pd_catS (pd_var 5) pd_str (cb _ (by simp [six]))) pds_nil)))))) (show 6 ≤ 1000 by decide)))) ⟨rfl, _, _, rfl⟩ ?_ ?_ (pg_name sc_law.nd rfl (Or.inr rfl)) (passes_of rfl) rfl
  · rintro i d δ' ⟨pss, os'⟩ hd ⟨hps, y7, y8, rfl⟩
    have hps : pss = [] := hps
    subst hps
    obtain ⟨b, hb, rfl⟩ := List.mem_map.mp (List.mem_of_getElem? hd)
    refine sd_ifZF (zt_cmp (op_neD hr.units) (told Ds LT hT rfl hr (fun A1 u1 s1 H1 E1 f1 c1 hr' => PR.yx (pr_call Ds.rd (hr'.mono (by decide)) lamN_takes (pds_cons (pd_var 8) pds_nil) (fr_six hp l1 hb)) ⟨Ds.exm, _, erB, PD.ze (pd_tup (pds_cons pd_str (pds_cons pd_str pds_nil))) ⟨_, rd_neS (d := rf) rf_shp rfl, rfl, ?_⟩⟩) (LamX.lamS_by (sc := defScope s_law) (by decide +kernel))) (nomark _))
    exact sd_nil ⟨rfl, _, _, rfl⟩
  · rintro δ' ω' ⟨hps, y7, y8, rfl⟩
    exact sd_nil (hR _ hps _ _)
set_option maxHeartbeats 16000000 in
theorem law_body {cdv : Value} {A : Around} {outer : List Env} {sh : Shared} {H : Hp} {E : XK} {T : List (Addr × Str)} {ns : List Int} (Ds : Defs P w K mg base CS) (LT : LamT (XL P w K mg base f cdv A outer sh H E) T) (hT : T ≠ [])
    (hr : Room 9 (A.deeper (envOfC "law" (defScope s_law) sh.heap.objs.size f cdv))) (hn : ns.length ≤ 63) :
    SD (cxOf (L2N.CX P w) P w K mg base NL "law" (defScope s_law) f cdv A outer sh H E) (WOf E) T (defBody s_law) (startD NL [.list (ns.map .int)]) ⟨[], []⟩ FinT := by
  have B := Ds.B
  have hr2 : Room 2 (A.deeper (envOfC "law" (defScope s_law) sh.heap.objs.size f cdv)) := hr.mono (by decide)
  have hr1 : Room 1 (A.deeper (envOfC "law" (defScope s_law) sh.heap.objs.size f cdv)) := hr.mono (by decide)
  refine sd_for 1 (items := rangeD 0 ((if (if ((ns.map PyData.int).length : Int) < 4 then ((ns.map PyData.int).length : Int) else 4) > 1 then (if ((ns.map PyData.int).length : Int) < 4 then ((ns.map PyData.int).length : Int) else 4) else 1) : Int).toNat)
    (fun i δ' ω' => ω'.ps = [] ∧ ∃ y1 y2 y3 y4 y5 y6 y7 y8, δ' = [some (.im (.list (ns.map .int))), y1, y2, y3, y4, y5, y6, y7, y8, none])
    (wk_range1 B.range (pd_max rfl B.max pd_int (pd_min rfl B.min pd_int (pd_lenL B.len (PD.pl (pd_var 0))))) ?_) ⟨rfl, _, _, _, _, _, _, _, _, rfl⟩ ?_ ?_ (pg_name sc_law.nd rfl (Or.inl rfl)) (passes_of rfl) rfl
  · split <;> (try split) <;> omega
  · rintro k d δ' ⟨pss, os⟩ hd ⟨hps, y1, y2, y3, y4, y5, y6, y7, y8, rfl⟩
    have hps : pss = [] := hps
    subst hps
    have hk4 : k < 5 ∧ d = .int (k : Int) := by
      have hlt := (List.getElem?_eq_some_iff.mp hd).1
      rw [rangeD_len] at hlt
      rw [rangeD_get hlt] at hd
      cases hd
      refine ⟨?_, by rw [Int.zero_add]⟩
      revert hlt
      split <;> (try split) <;> omega
    obtain ⟨hk4, rfl⟩ := hk4
    refine sd_set 2 (pd_call Ds.drawn hr1 (pds_cons (pd_call Ds.cell hr1 (pds_cons (pd_var 0) (pds_cons (pd_var 1) pds_nil)) ⟨ns, k, rfl, hn, by omega, rfl⟩) (pds_cons (pd_var 1) pds_nil)) ⟨_, _, rfl, rfl⟩) ?_ sc_law.nd
    generalize K51.drawn (cellAt ns k) (k : Int) = m
    obtain ⟨e5, b5⟩ := mod_is (m / 64) (n := 5) (by decide)
    obtain ⟨e4, b4⟩ := mod_is (m / 1024) (n := 4) (by decide)
    have o1 : (onesP m).length = (m / 64 % 5).toNat := by unfold onesP; rw [List.length_map, List.length_range]
    have o2 : (othersP m).length = 1 + (m / 1024 % 4).toNat := by unfold othersP; rw [List.length_map, List.length_range]
    have f1 : ∀ p ∈ onesP m, p.Fine := fine_list _ _
    have f2 : ∀ p ∈ othersP m, p.Fine := fine_list _ _
    have en : (1 : Int) + m / 1024 % 4 = ((1 + (m / 1024 % 4).toNat : Nat) : Int) := by omega
    refine sd_set 3 (d := .list ((onesP m).map Pa.d)) (PN.pd (pn_lc (y := "_law_j") (j := 9) (items := rangeD 0 (((m / 64 % 5).toNat : Nat) : Int).toNat) (ys := (onesP m).map Pa.d) rfl sc_law.nd (PWk.ws (wk_range1 B.range (PD.eq (pd_mod (by decide) (pd_fdiv (wide_div (b := 7) (by decide) (by decide) (by decide) (by decide)) (pd_var 2) pd_int) pd_int) (congrArg PyData.int e5)) (by omega))) (by rw [List.length_map, o1, rangeD_len]; omega) (blkOk_by (N := NL) (sc := defScope s_law) (by decide +kernel)) (fun _ _ _ _ _ => pg_name sc_law.nd rfl (Or.inl rfl)) ?el1 (by rw [rangeD_len]; omega))) ?_ sc_law.nd
    case el1 =>
      intro i d y hd hy D2 o s2 H2 C2 cl fp
      obtain ⟨hj2, rfl⟩ := rangeD_at hd
      unfold onesP at hy
      rw [List.getElem?_map, List.getElem?_map, List.getElem?_range hj2] at hy
      cases hy
      exact pd_call Ds.part hr2 (pds_cons (pd_call Ds.drawn hr1 (pds_cons (pd_var 2) (pds_cons (pd_add pd_int (pd_var 9)) pds_nil)) ⟨_, _, rfl, rfl⟩) pds_nil) ⟨_, rfl, rfl⟩
    refine sd_set 4 (d := .list ((othersP m).map Pa.d)) (PN.pd (pn_lc (y := "_law_j") (j := 9) (items := rangeD 0 ((1 + (m / 1024 % 4).toNat : Nat) : Int).toNat) (ys := (othersP m).map Pa.d) rfl sc_law.nd (PWk.ws (wk_range1 B.range (PD.eq (pd_add pd_int (pd_mod (by decide) (pd_fdiv (wide_div (b := 11) (by decide) (by decide) (by decide) (by decide)) (pd_var 2) pd_int) pd_int)) (congrArg PyData.int en)) (by omega))) (by rw [List.length_map, o2, rangeD_len]; omega) (blkOk_by (N := NL) (sc := defScope s_law) (by decide +kernel)) (fun _ _ _ _ _ => pg_name sc_law.nd rfl (Or.inl rfl)) ?el2 (by rw [rangeD_len]; omega))) ?_ sc_law.nd
    case el2 =>
      intro i d y hd hy D2 o s2 H2 C2 cl fp
      obtain ⟨hj2, rfl⟩ := rangeD_at hd
      unfold othersP at hy
      rw [List.getElem?_map, List.getElem?_map, List.getElem?_range hj2] at hy
      cases hy
      exact pd_call Ds.part hr2 (pds_cons (pd_call Ds.drawn hr1 (pds_cons (pd_var 2) (pds_cons (pd_add pd_int (pd_var 9)) pds_nil)) ⟨_, _, rfl, rfl⟩) pds_nil) ⟨_, rfl, rfl⟩
    have ne : othersP m ≠ [] := fun e => by
      rw [e] at o2
      simp at o2
      omega
    generalize onesP m = ps at f1 o1
    generalize othersP m = qs at f2 o2 ne
    refine sd_setZ 5 (told Ds LT hT rfl hr (fun A1 u1 s1 H1 E1 f1' c1 hr' => PR.yx (pr_call (rr := .ok (.str (strP ps))) Ds.wc (hr'.mono (by decide)) lamN_takes (pds_cons (PN.pd (pn_listL Ds.li (PD.pl (pd_var 3)))) pds_nil) ⟨ps, fine2 f1, by omega, rfl, rfl⟩) ?_) (LamX.lamS_by (sc := defScope s_law) (by decide +kernel))) sc_law.nd
    refine sd_setZ 6 (told Ds LT hT rfl hr (fun A1 u1 s1 H1 E1 f1' c1 hr' => PR.yx (pr_call (rr := .ok (.str (strP qs))) Ds.wc (hr'.mono (by decide)) lamN_takes (pds_cons (PN.pd (pn_listL Ds.li (PD.pl (pd_var 4)))) pds_nil) ⟨qs, fine2 f2, by omega, rfl, rfl⟩) ?_) (LamX.lamS_by (sc := defScope s_law) (by decide +kernel))) sc_law.nd
    exact behind Ds LT hT hr f1 f2 (by omega) (by omega) ne fun ω hω y7 y8 => ⟨hω, _, _, _, _, _, _, _, _, rfl⟩
  · rintro δ' ω' ⟨hps, y1, y2, y3, y4, y5, y6, y7, y8, rfl⟩
    exact sd_ret pd_bl rfl
end
end K51

namespace K51
open PySem PySem.Spec PyProof.Rows L2 FP
theorem facts {l : PySem.W.OpenLaw} {w : World} {K : PySem.W.Frag} {h : Heap} {mg : Str → Option Value} {f : Addr} (KX : K.In h) (G : h.Ns mainGlobals mg) (hfa : mg ("law" : Str) = some (.ref f)) (c : He.SaysX fa fn ts tf ex w h K) :
    LamX.LawAtS l w K (L2N.CX l.prog w) 10 63 "_law_script" mg f h := by
  have cd := c.t.d
  have gl : ∀ x, He.Fa.glo x ∈ fa → mg x = some (.ref (He.ga K x)) := fun x hx => He.glo_ok KX G (cd.facts hx)
  have fr : ∀ x, He.Fa.free x ∈ fa → mg x = none := fun x hx => He.free_ok KX G (cd.facts hx)
  have df : ∀ (x : Str) (st : Stmt), dOf x st ∈ fn → ∃ fd, Df K x st (He.ga K x) fd := fun x st hx => cd.defs hx
  obtain ⟨x0, cm⟩ := He.ba c.more
  obtain ⟨x1, cm⟩ := He.ba cm
  obtain ⟨x2, cm⟩ := He.ba cm
  obtain ⟨x3, cm⟩ := He.ba cm
  obtain ⟨x4, cm⟩ := He.ba cm
  have x5 := cm
  have B : Bl mg := ⟨fr _ (by simp [fa]), fr _ (by simp [fa]), fr _ (by simp [fa]), fr _ (by simp [fa]), fr _ (by simp [fa]), fr _ (by simp [fa]), fr _ (by simp [fa]), fr _ (by simp [fa]), fr _ (by simp [fa]), fr _ (by simp [fa]), fr _ (by simp [fa])⟩
  have ET : Ends w K mg (He.ga K "ENDS") := ⟨⟨c.t.tab 0, gl _ (by simp [fa])⟩, kvB_ok x1, kvB_ok x2, kvB_ok x3, x0⟩
  have i_PERCENT : GlD K mg "PERCENT" (.int 37) := gld_int KX G (cd.facts (by simp [fa]))
  have i_MOST_ROLL : GlD K mg "MOST_ROLL" (.int 10) := gld_int KX G (cd.facts (by simp [fa]))
  have i_MOST_INK : GlD K mg "MOST_INK" (.int 7) := gld_int KX G (cd.facts (by simp [fa]))
  have X_BadChange : ExcF K mg "BadChange" (He.ga K "BadChange") := exc_of KX G (cd.facts (by simp [fa])) (cd.facts (by simp [fa]))
  have i_MOST_FIGURES : GlD K mg "MOST_FIGURES" (.int 3) := gld_int KX G (cd.facts (by simp [fa]))
  have i_MOST_NUMBER : GlD K mg "MOST_NUMBER" (.int 999) := gld_int KX G (cd.facts (by simp [fa]))
  refine law_at KX G hfa c (params := defArgs s_law) (body := defBody s_law) (scope := defScope s_law) (by simp [fn]) (by simp [fa]) sc_law (fun _ _ _ _ _ _ us hl => match us, hl with | [_], _ => rfl) (fun base hB hN T cdv A outer s H E ns hT L hr h1 h2 => ?_)
  obtain ⟨_, F_is_whole⟩ := df "is_whole" s_is_whole (by simp [fn])
  have G_whole := ok_whole (P := l.prog) (w := w) (mg := mg) (base := base) F_is_whole (gl _ (by simp [fa])) B
  obtain ⟨_, F_is_within⟩ := df "is_within" s_is_within (by simp [fn])
  have G_within := ok_within (P := l.prog) (w := w) (mg := mg) (base := base) F_is_within (gl _ (by simp [fa])) G_whole
  obtain ⟨_, F_are_signs⟩ := df "are_signs" s_are_signs (by simp [fn])
  have G_signs := ok_signs (P := l.prog) (w := w) (mg := mg) (base := base) F_are_signs (gl _ (by simp [fa])) B i_PERCENT
  obtain ⟨_, F__law_cell⟩ := df "_law_cell" s__law_cell (by simp [fn])
  have G_lcell := ok_lcell (P := l.prog) (w := w) (mg := mg) (base := base) F__law_cell (gl _ (by simp [fa])) B
  obtain ⟨_, F__law_drawn⟩ := df "_law_drawn" s__law_drawn (by simp [fn])
  have G_drawn := ok_drawn (P := l.prog) (w := w) (mg := mg) (base := base) F__law_drawn (gl _ (by simp [fa]))
  obtain ⟨_, F_is_place⟩ := df "is_place" s_is_place (by simp [fn])
  have G_isplace := ok_isplace (P := l.prog) (w := w) (mg := mg) (base := base) F_is_place (gl _ (by simp [fa])) G_whole
  obtain ⟨_, F_is_part⟩ := df "is_part" s_is_part (by simp [fn])
  have G_ispart := ok_ispart (P := l.prog) (w := w) (mg := mg) (base := base) F_is_part (gl _ (by simp [fa])) B i_MOST_ROLL i_MOST_INK G_within G_isplace G_signs
  obtain ⟨_, F_need_change⟩ := df "need_change" s_need_change (by simp [fn])
  have G_nc := ok_nc (P := l.prog) (w := w) (mg := mg) (base := base) F_need_change (gl _ (by simp [fa])) B (fr _ (by simp [fa])) X_BadChange G_ispart
  obtain ⟨_, F_number_of⟩ := df "number_of" s_number_of (by simp [fn])
  have G_num := ok_num (P := l.prog) (w := w) (mg := mg) (base := base) F_number_of (gl _ (by simp [fa])) B (fr _ (by simp [fa])) (fr _ (by simp [fa])) i_MOST_FIGURES
  obtain ⟨_, F_numbers_of⟩ := df "numbers_of" s_numbers_of (by simp [fn])
  have G_nos := ok_nos (P := l.prog) (w := w) (mg := mg) (base := base) F_numbers_of (gl _ (by simp [fa])) G_num
  obtain ⟨_, F_read_put⟩ := df "read_put" s_read_put (by simp [fn])
  have G_rp := ok_rp (P := l.prog) (w := w) (mg := mg) (base := base) F_read_put (gl _ (by simp [fa])) B X_BadChange
  obtain ⟨_, F_read_part⟩ := df "read_part" s_read_part (by simp [fn])
  have G_rq := ok_rq (P := l.prog) (w := w) (mg := mg) (base := base) F_read_part (gl _ (by simp [fa])) B X_BadChange ET G_nos G_rp
  obtain ⟨_, F_read_change⟩ := df "read_change" s_read_change (by simp [fn])
  have G_rd := ok_rd (P := l.prog) (w := w) (mg := mg) (base := base) F_read_change (gl _ (by simp [fa])) B G_rq G_nc
  obtain ⟨_, F_written_numbers⟩ := df "written_numbers" s_written_numbers (by simp [fn])
  have G_wn := ok_wn (P := l.prog) (w := w) (mg := mg) (base := base) F_written_numbers (gl _ (by simp [fa])) (fr _ (by simp [fa]))
  obtain ⟨_, F_short_numbers⟩ := df "short_numbers" s_short_numbers (by simp [fn])
  have G_sn := ok_sn (P := l.prog) (w := w) (mg := mg) (base := base) F_short_numbers (gl _ (by simp [fa])) B (fr _ (by simp [fa])) i_MOST_NUMBER G_wn
  obtain ⟨_, F_written_part⟩ := df "written_part" s_written_part (by simp [fn])
  have G_wp := ok_wp (P := l.prog) (w := w) (mg := mg) (base := base) F_written_part (gl _ (by simp [fa])) B G_sn
  obtain ⟨_, F_written_change⟩ := df "written_change" s_written_change (by simp [fn])
  have G_wc := ok_wc (P := l.prog) (w := w) (mg := mg) (base := base) F_written_change (gl _ (by simp [fa])) G_nc G_wp
  obtain ⟨_, F__law_part⟩ := df "_law_part" s__law_part (by simp [fn])
  have G_lp := ok_lp (P := l.prog) (w := w) (mg := mg) (base := base) F__law_part (gl _ (by simp [fa])) B G_drawn
  obtain ⟨ec_BadChange, ka_BadChange, kv_BadChange⟩ := wordB_ok x4
  obtain ⟨_, F__law_word⟩ := df "_law_word" s__law_word (by simp [fn])
  obtain ⟨_, F__law_told⟩ := df "_law_told" s__law_told (by simp [fn])
  have WD := fun (k : Nat) (hk : 1 ≤ k) => word_mono (ok_word (P := l.prog) (w := w) (base := base) F__law_word (gl _ (by simp [fa])) B.isi B.int (fr _ (by simp [fa])) (fr _ (by simp [fa])) (fun c hc => by
    simp only [List.mem_cons, List.not_mem_nil, or_false] at hc
    rcases hc with rfl | rfl | rfl | rfl | rfl | rfl | rfl | rfl | rfl <;> exact gl _ (by simp [fa])) ⟨ec_BadChange, ka_BadChange, kv_BadChange⟩) hk
  exact law_body (CS := He.ga K "ScreenError") ⟨B, (fr _ (by simp [fa])), (G_lcell.mono (by decide)), (G_drawn.mono (by decide)), (G_lp.mono (by decide)), (G_wc.mono (by decide)), (G_rd.mono (by decide)), ⟨_, _, F__law_told, gl _ (by simp [fa])⟩, (WD _ (by decide)), (of_decide_eq_true x5), (gl _ (by simp [fa]))⟩ L hT hr h1
end K51
open PySem PySem.W PySem.Calls PyProof.Rows
set_option maxRecDepth 100000 in
set_option maxHeartbeats 0 in
theorem PySem.Challenge.cw_farpanes_k51_whole_papers_in_parts_holds : PySem.Challenge.rw_farpanes_k51_whole_papers_in_parts.Holds := by
  w_on; o_law
  refine HandSHeadRun.head_any (r := OpenLaw.row PySem.Challenge.rw_farpanes_k51_whole_papers_in_parts) (q := view (OpenLaw.row PySem.Challenge.rw_farpanes_k51_whole_papers_in_parts).prog [42]) (H := K51.hk) (ob := K51.ob) (M := 8000) (loose := K51.loose) (d := HandSHeadRun.topDef (OpenLaw.row PySem.Challenge.rw_farpanes_k51_whole_papers_in_parts).prog 42) (kwd := []) K51.ob_eq
    (by kernel_rfl) (fun s => by kernel_rfl) K51.run (by kernel_rfl) (by kernel_rfl) (by kernel_rfl) (by rfl) (by first | assumption | decide +kernel) (by decide +kernel) ⟨rfl, rfl, rfl, rfl, rfl, by decide +kernel⟩ ?hw ?hc
  case hw => w_witness2
  case hc =>
    refine LamX.walk_ofTsE (l := PySem.Challenge.rw_farpanes_k51_whole_papers_in_parts) (n := 63) (k := 10) (x := "_law_script") (CX := fun w => L2N.CX (PySem.Challenge.rw_farpanes_k51_whole_papers_in_parts).prog w) rfl (by decide) (by kernel_rfl) ⟨rfl, by decide, by decide⟩ ?F (fun w H s e s' z => FP.cx_none z)
    intro w mg fa h Y G hmg0
    obtain ⟨K, KX, c⟩ := Y
    have hmg : mg ("law" : PySem.Str) = some (.ref fa) := by
      have e : (HandSHeadRun.topDef (OpenLaw.row PySem.Challenge.rw_farpanes_k51_whole_papers_in_parts).prog 42).name = ("law" : PySem.Str) := by kernel_rfl
      rw [← e]
      exact hmg0
    exact ⟨K, KX, K51.facts KX G hmg c⟩
