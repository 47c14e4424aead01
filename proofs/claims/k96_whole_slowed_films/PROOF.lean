import PyProof.Rows.All
import Wide.All
import OpenK.AllK
import Wide.FinOn
import HandS.ForMost
import HandS.ForExc
import HandS.Lambda
import HandS.EndTab
import HandS.HeadWalk
import HandS.HeadHook4
import HandS.Head2
import HandS.IsInst
import HandS.TupMul
import HandS.TupAny
import HandS.Wide
import HandS.ExcCtx
import HandS.HotCalls
import HandS.ExcIs
import PyProof.SumAny
import PyProof.RulesMatchSeq
import PyProof.Rows.MatchSeqLen
import HandS.More
import HandS.Zip
import PyProof.Rows.SeqMore
import HandS.Flow
import HandS.StrMore
import HandS.Text
import HandS.Iter
import PyProof.Rows.ChunkEnd
import HandS.Dict
import HandS.Style
import HandS.Small
import PyProof.Draws
import KE.GoesMore
import HandS.TupLe
import HandS.SetFor
import KE.KMinKey
import HandS.SortKw
import KE.KSortKeySt
import HandS.Conv
import KE.GoesZip
import KE.GoesEnum
import KE.KItemsList
import PySem.Challenge.RW_farpanes_k96_whole_slowed_films
set_option Elab.async false
set_option linter.all false
set_option maxRecDepth 100000
set_option maxHeartbeats 4000000
set_option autoImplicit false
namespace FP
open PySem PySem.Spec PyProof.Rows L2

/-! ### heaps, data -/
def hid (ps : List Addr) (H : Hp) : Hp := fun b => if b ∈ ps then none else H b
theorem hid_of {ps : List Addr} {H : Hp} {b : Addr} {o : HO} (n : b ∉ ps) (h : H b = some o) : hid ps H b = some o := by
  unfold hid
  rw [if_neg n]
  exact h
theorem hid_out {ps : List Addr} {H : Hp} {b : Addr} {o : HO} (h : hid ps H b = some o) : b ∉ ps ∧ H b = some o := by
  unfold hid at h
  by_cases c : b ∈ ps
  · rw [if_pos c] at h
    cases h
  · rw [if_neg c] at h
    exact ⟨c, h⟩
theorem hid_sub {ps : List Addr} {H : Hp} : Same (hid ps H) H := fun _ _ h => (hid_out h).2
theorem hid_same {ps : List Addr} {H H' : Hp} (e : Same H H') : Same (hid ps H) (hid ps H') := fun _ _ h => hid_of (hid_out h).1 (e _ _ (hid_out h).2)
theorem hid_nil {H : Hp} : hid [] H = H := by
  funext b
  unfold hid
  rw [if_neg (by simp)]
theorem same_new {H : Hp} {p : Addr} {o : HO} (h : H p = none) : Same H (upd H p o) := fun b x e => by
  rw [upd_ne (ne_of_none e h)]
  exact e
theorem same_sqt {K : PySem.W.Frag} {H H' : Hp} {a : Addr} {xs : List V} (e : Same H H') (h : SqT K H a xs) : SqT K H' a xs := by
  rcases h with (h | ⟨o, h⟩) | h
  · exact .inl (.inl (e _ _ h))
  · exact .inl (.inr ⟨o, e _ _ h⟩)
  · exact .inr h
mutual
theorem dp_mono {K : PySem.W.Frag} {H H' : Hp} (e : Same H H') : ∀ (d : PyData) (v : V), Dp K H v d → Dp K H' v d
  | .none, _, h => by
    cases h
    exact .non
  | .bool b, _, h => by
    cases h
    exact .bl b
  | .int i, _, h => by
    cases h
    exact .int i
  | .str x, _, h => by
    cases h
    exact .str x
  | .list ds, _, h => by
    cases h with
    | lst hs ha => exact .lst (e.seq hs) (dpa_mono e ds _ ha)
  | .tuple ds, _, h => by
    cases h with
    | tup hs ha => exact .tup (same_sqt e hs) (dpa_mono e ds _ ha)
  | .dict kvs, _, h => by cases h
theorem dpa_mono {K : PySem.W.Frag} {H H' : Hp} (e : Same H H') : ∀ (ds : List PyData) (vs : List V), DpAll K H vs ds → DpAll K H' vs ds
  | [], _, h => by
    cases h
    exact .nil
  | d :: ds, _, h => by
    cases h with
    | cons a b => exact .cons (dp_mono e d _ a) (dpa_mono e ds _ b)
end
theorem dpm {K : PySem.W.Frag} {H H' : Hp} (e : Same H H') {d : PyData} {v : V} (h : Dp K H v d) : Dp K H' v d := dp_mono e d v h
theorem dpam {K : PySem.W.Frag} {H H' : Hp} (e : Same H H') {ds : List PyData} {vs : List V} (h : DpAll K H vs ds) : DpAll K H' vs ds := dpa_mono e ds vs h
theorem dpa_len {K : PySem.W.Frag} {H : Hp} : ∀ {ds : List PyData} {vs : List V}, DpAll K H vs ds → vs.length = ds.length
  | [], _, .nil => rfl
  | _ :: _, _, .cons _ t => by rw [List.length_cons, List.length_cons, dpa_len t]
theorem dpa_get {K : PySem.W.Frag} {H : Hp} : ∀ {ds : List PyData} {vs : List V} {i : Nat} {d : PyData}, DpAll K H vs ds → ds[i]? = some d → ∃ v, vs[i]? = some v ∧ Dp K H v d
  | [], _, _, _, .nil, h => by simp at h
  | _ :: _, _ :: _, 0, _, .cons a _, h => by
    simp at h
    subst h
    exact ⟨_, rfl, a⟩
  | _ :: ds, _ :: vs, i + 1, d, .cons _ t, h => by
    obtain ⟨v, h1, h2⟩ := dpa_get (i := i) (d := d) t (by simpa using h)
    exact ⟨v, by simpa using h1, h2⟩
theorem dpa_get' {K : PySem.W.Frag} {H : Hp} : ∀ {ds : List PyData} {vs : List V} {i : Nat} {v : V}, DpAll K H vs ds → vs[i]? = some v → ∃ d, ds[i]? = some d ∧ Dp K H v d
  | [], _, _, _, .nil, h => by simp at h
  | _ :: _, _ :: _, 0, _, .cons a _, h => by
    simp at h
    subst h
    exact ⟨_, rfl, a⟩
  | _ :: ds, _ :: vs, i + 1, v, .cons _ t, h => by
    obtain ⟨d, h1, h2⟩ := dpa_get' (i := i) (v := v) t (by simpa using h)
    exact ⟨d, by simpa using h1, h2⟩
theorem dpa_app {K : PySem.W.Frag} {H : Hp} : ∀ {ds es : List PyData} {vs us : List V}, DpAll K H vs ds → DpAll K H us es → DpAll K H (vs ++ us) (ds ++ es)
  | _, _, _, _, .nil, h => h
  | _, _, _, _, .cons a t, h => .cons a (dpa_app t h)
theorem dpa_take {K : PySem.W.Frag} {H : Hp} : ∀ (n : Nat) {ds : List PyData} {vs : List V}, DpAll K H vs ds → DpAll K H (vs.take n) (ds.take n)
  | 0, _, _, _ => .nil
  | _ + 1, _, _, .nil => .nil
  | n + 1, _, _, .cons a t => .cons a (dpa_take n t)
theorem dpa_drop {K : PySem.W.Frag} {H : Hp} : ∀ (n : Nat) {ds : List PyData} {vs : List V}, DpAll K H vs ds → DpAll K H (vs.drop n) (ds.drop n)
  | 0, _, _, h => h
  | _ + 1, _, _, .nil => .nil
  | n + 1, _, _, .cons _ t => dpa_drop n t
theorem dpa_rep {K : PySem.W.Frag} {H : Hp} {ds : List PyData} {vs : List V} (h : DpAll K H vs ds) : ∀ n : Nat, DpAll K H (List.replicate n vs).flatten (List.replicate n ds).flatten
  | 0 => .nil
  | n + 1 => by
    rw [List.replicate_succ, List.replicate_succ, List.flatten_cons, List.flatten_cons]
    exact dpa_app h (dpa_rep h n)

theorem hid_more {ps qs : List Addr} {H : Hp} (h : ∀ b, b ∈ ps → b ∈ qs) : Same (hid qs H) (hid ps H) := fun b o e => by
  obtain ⟨n, e2⟩ := hid_out e
  exact hid_of (fun z => n (h b z)) e2
theorem hid_cons {p : Addr} {ps : List Addr} {H : Hp} : Same (hid (p :: ps) H) (hid ps H) := hid_more fun _ h => List.mem_cons_of_mem _ h
theorem hid_new {p : Addr} {ps : List Addr} {G H : Hp} (hp : G p = none) (e : Same G H) : Same (hid ps G) (hid (p :: ps) H) := fun b o h => by
  obtain ⟨n, e2⟩ := hid_out h
  refine hid_of (fun z => ?_) (e b o e2)
  rcases List.mem_cons.mp z with q | q
  · rw [q, hp] at e2
    cases e2
  · exact n q
/-! ### slots and objects of one's own -/
inductive Sd where
  | im (d : PyData)
  | ad (a : Addr)
inductive Od where
  | lst (xs : List Sd)
  | ins (C : Addr) (fs : List (Str × Sd))
  | dct (kvs : List (Key × Sd))
  | tup (xs : List Sd)
abbrev De := List (Option Sd)
/-- ps: what the caller keeps for himself; os: objects of one's own -/
structure Om where
  ps : List Addr
  os : List (Addr × Od)
def ads (ω : Om) : List Addr := ω.ps ++ ω.os.map (·.1)
def SdV (K : PySem.W.Frag) (H : Hp) : Sd → V → Prop
  | .im d, v => Dp K H v d
  | .ad a, v => v = .ref a
theorem sdv_mono {K : PySem.W.Frag} {H H' : Hp} (e : Same H H') : ∀ {r : Sd} {v : V}, SdV K H r v → SdV K H' r v
  | .im _, _, h => dpm e h
  | .ad _, _, h => h
theorem dpa_im {K : PySem.W.Frag} {H : Hp} : ∀ {xs : List PyData} {vs : List V}, Paired (SdV K H) (xs.map .im) vs → DpAll K H vs xs
  | [], _, h => by
    cases h
    exact .nil
  | x :: xs, _, h => by
    cases h with
    | cons a b => exact .cons a (dpa_im b)
theorem im_dpa {K : PySem.W.Frag} {H : Hp} : ∀ {xs : List PyData} {vs : List V}, DpAll K H vs xs → Paired (SdV K H) (xs.map .im) vs
  | _, _, .nil => .nil
  | _, _, .cons a b => .cons a (im_dpa b)
def OdV (K : PySem.W.Frag) (Hh H : Hp) (a : Addr) : Od → Prop
  | .lst xs => ∃ vs, H a = some (.lst vs) ∧ Paired (SdV K Hh) xs vs
  | .ins C fs => ∃ dx vs, H a = some (.ins C dx vs) ∧ Paired (fun (p : Str × Sd) (q : Str × V) => p.1 = q.1 ∧ SdV K Hh p.2 q.2) fs vs
  | .dct kvs => ∃ vs, H a = some (.dK vs) ∧ Paired (fun (p : Key × Sd) (q : Key × V) => p.1 = q.1 ∧ SdV K Hh p.2 q.2) kvs vs
  | .tup xs => ∃ vs, H a = some (.tup vs) ∧ Paired (SdV K Hh) xs vs
theorem odv_keep {K : PySem.W.Frag} {G G' H H' : Hp} {a : Addr} (g : ∀ {r : Sd} {v : V}, SdV K G r v → SdV K G' r v) (e : ∀ u, (∀ ps, u ≠ .tbl ps) → H a = some u → H' a = some u) : ∀ {o : Od}, OdV K G H a o → OdV K G' H' a o
  | .lst _, ⟨vs, h, p⟩ => ⟨vs, e _ (fun _ z => by cases z) h, L2.Paired.mapP p fun _ _ q => g q⟩
  | .ins _ _, ⟨dx, vs, h, p⟩ => ⟨dx, vs, e _ (fun _ z => by cases z) h, L2.Paired.mapP p fun _ _ q => ⟨q.1, g q.2⟩⟩
  | .dct _, ⟨vs, h, p⟩ => ⟨vs, e _ (fun _ z => by cases z) h, L2.Paired.mapP p fun _ _ q => ⟨q.1, g q.2⟩⟩
  | .tup _, ⟨vs, h, p⟩ => ⟨vs, e _ (fun _ z => by cases z) h, L2.Paired.mapP p fun _ _ q => g q⟩
theorem odv_mono {K : PySem.W.Frag} {G G' H H' : Hp} {a : Addr} (g : Same G G') (e : Same H H') {o : Od} (h : OdV K G H a o) : OdV K G' H' a o := odv_keep (fun q => sdv_mono g q) (fun u _ q => e a u q) h
theorem odv_at {K : PySem.W.Frag} {G H : Hp} {a : Addr} : ∀ {o : Od}, OdV K G H a o → ∃ u, H a = some u ∧ (∀ ps, u ≠ .tbl ps) ∧ ∀ c q, u ≠ LamX.CodeO c q
  | .lst _, ⟨_, h, _⟩ => ⟨_, h, fun _ z => (by cases z), fun _ _ z => (by unfold LamX.CodeO at z; cases z)⟩
  | .ins _ _, ⟨_, _, h, _⟩ => ⟨_, h, fun _ z => (by cases z), fun _ _ z => (by unfold LamX.CodeO at z; cases z)⟩
  | .dct _, ⟨_, h, _⟩ => ⟨_, h, fun _ z => (by cases z), fun _ _ z => (by unfold LamX.CodeO at z; cases z)⟩
  | .tup _, ⟨_, h, _⟩ => ⟨_, h, fun _ z => (by cases z), fun _ _ z => (by unfold LamX.CodeO at z; cases z)⟩
theorem odv_some {K : PySem.W.Frag} {G H : Hp} {a : Addr} {o : Od} (h : OdV K G H a o) : H a ≠ none := by
  obtain ⟨u, e, _⟩ := odv_at h
  rw [e]
  simp
/-- the objects alone -/
structure Ro (K : PySem.W.Frag) (H : Hp) (ω : Om) : Prop where
  ob : ∀ a o, (a, o) ∈ ω.os → OdV K (hid (ads ω) H) H a o
  nd : (ω.os.map (·.1)).Nodup
  th : ∀ a ∈ ω.ps, H a ≠ none
structure Rl (K : PySem.W.Frag) (H : Hp) (σ : L2.St) (δ : De) (ω : Om) : Prop where
  len : σ.length = δ.length
  sl : ∀ (i : Nat) (r : Sd), δ[i]? = some (some r) → ∃ v, σ[i]? = some (some v) ∧ SdV K (hid (ads ω) H) r v
  ro : Ro K H ω
section
variable {K : PySem.W.Frag} {H H' : Hp} {σ : L2.St} {δ : De} {ω : Om}
theorem there_mono {ps : List Addr} (t : ∀ a ∈ ps, H a ≠ none) (e : Same H H') : ∀ a ∈ ps, H' a ≠ none := fun a h z => by
  have q := t a h
  cases g : H a with
  | none => exact q g
  | some o =>
    rw [e a o g] at z
    cases z
theorem Ro.mono (r : Ro K H ω) (e : Same H H') : Ro K H' ω := ⟨fun a o h => odv_mono (hid_same e) e (r.ob a o h), r.nd, there_mono r.th e⟩
theorem Rl.mono (r : Rl K H σ δ ω) (e : Same H H') : Rl K H' σ δ ω := ⟨r.len, fun i x h => by
  obtain ⟨v, h1, h2⟩ := r.sl i x h
  exact ⟨v, h1, sdv_mono (hid_same e) h2⟩, r.ro.mono e⟩
theorem Ro.there (r : Ro K H ω) : ∀ a ∈ ads ω, H a ≠ none := fun a h => by
  rcases List.mem_append.mp h with h | h
  · exact r.th a h
  · obtain ⟨p, hp, e⟩ := List.mem_map.mp h
    subst e
    exact odv_some (r.ob p.1 p.2 hp)
theorem Ro.nil {ps : List Addr} (h : ∀ a ∈ ps, H a ≠ none) : Ro K H ⟨ps, []⟩ := ⟨fun _ _ h => (List.not_mem_nil h).elim, List.nodup_nil, h⟩
theorem ads_nil {ps : List Addr} : ads ⟨ps, []⟩ = ps := by
  show ps ++ [] = ps
  rw [List.append_nil]
theorem new_out {ps : List Addr} (t : ∀ a ∈ ps, H a ≠ none) {p : Addr} (h : H p = none) : p ∉ ps := fun z => t p z h
theorem Rl.set (r : Rl K H σ δ ω) {i : Nat} {x : Sd} {v : V} (h : SdV K (hid (ads ω) H) x v) : Rl K H (σ.set i (some v)) (δ.set i (some x)) ω := by
  refine ⟨by rw [List.length_set, List.length_set, r.len], fun j y hj => ?_, r.ro⟩
  by_cases hij : i = j
  · subst hij
    have hl : i < δ.length := by
      have := (List.getElem?_eq_some_iff.mp hj).1
      rwa [List.length_set] at this
    rw [List.getElem?_set_self hl] at hj
    cases hj
    exact ⟨v, List.getElem?_set_self (by rw [r.len]; exact hl), h⟩
  · rw [List.getElem?_set_ne hij] at hj
    obtain ⟨u, h1, h2⟩ := r.sl j y hj
    exact ⟨u, by rw [List.getElem?_set_ne hij]; exact h1, h2⟩
/-- a slot is forgotten -/
theorem Rl.forget (r : Rl K H σ δ ω) {i : Nat} {x : Option V} : Rl K H (σ.set i x) (δ.set i none) ω := by
  refine ⟨by rw [List.length_set, List.length_set, r.len], fun j y hj => ?_, r.ro⟩
  by_cases hij : i = j
  · subst hij
    have hl : i < δ.length := by
      have := (List.getElem?_eq_some_iff.mp hj).1
      rwa [List.length_set] at this
    rw [List.getElem?_set_self hl] at hj
    cases hj
  · rw [List.getElem?_set_ne hij] at hj
    obtain ⟨u, h1, h2⟩ := r.sl j y hj
    exact ⟨u, by rw [List.getElem?_set_ne hij]; exact h1, h2⟩
end

/-! ### the weakest readings -/
section
variable {X : Cx}
@[irreducible] def wpe (X : Cx) (e : Expr) : TE := fun σ H Q => ∀ pins s, Inv X pins σ H s → wpAny (model X.prog X.w) X.A (eval e X.env) (EP X pins σ Q) X.xe s
@[irreducible] def wpt (X : Cx) (e : Expr) : TT := fun σ H Q => ∀ pins s, Inv X pins σ H s → wpAny (model X.prog X.w) X.A (isTrue e X.env (eval e X.env)) (TP X pins σ Q) X.xe s
@[irreducible] def wpa (X : Cx) (es : List Expr) : TA := fun σ H Q => ∀ (pos : Pos) pins s, Inv X pins σ H s → wpAny (model X.prog X.w) X.A (spliced (backTo pos (starEach es X.env))) (AP X pins σ Q) X.xe s
@[irreducible] def wps (X : Cx) (st : Stmt) : TS := fun D σ H => ∀ pins s, Inv X pins σ H s → wpAny (model X.prog X.w) X.A (exec st X.env) (SP X pins D) X.xe s
@[irreducible] def wpss (X : Cx) (st : List Stmt) : TS := fun D σ H => ∀ pins s, Inv X pins σ H s → wpAny (model X.prog X.w) X.A (execs st X.env) (SP X pins D) X.xe s
theorem pe_w {e : Expr} : PE X e (wpe X e) := ⟨fun pins s σ H Q I h => by unfold wpe at h; exact h pins s I⟩
theorem pt_w {e : Expr} : PT X e (wpt X e) := ⟨fun pins s σ H Q I h => by unfold wpt at h; exact h pins s I⟩
theorem pa_w {es : List Expr} : PA X es (wpa X es) := ⟨fun pos pins s σ H Q I h => by unfold wpa at h; exact h pos pins s I⟩
theorem ps_w {st : Stmt} : PS X st (wps X st) := ⟨fun pins s σ H D I h => by unfold wps at h; exact h pins s I⟩
theorem pss_w {st : List Stmt} : PSs X st (wpss X st) := ⟨fun pins s σ H D I h => by unfold wpss at h; exact h pins s I⟩
theorem we {e : Expr} {t : TE} {σ : L2.St} {H : Hp} {Q : VK} (h : PE X e t) (q : t σ H Q) : wpe X e σ H Q := by unfold wpe; exact fun pins s I => h.run pins s σ H Q I q
theorem wt {e : Expr} {t : TT} {σ : L2.St} {H : Hp} {Q : Bool → Hp → Prop} (h : PT X e t) (q : t σ H Q) : wpt X e σ H Q := by unfold wpt; exact fun pins s I => h.run pins s σ H Q I q
theorem wa {es : List Expr} {t : TA} {σ : L2.St} {H : Hp} {Q : List V → Hp → Prop} (h : PA X es t) (q : t σ H Q) : wpa X es σ H Q := by unfold wpa; exact fun pos pins s I => h.run pos pins s σ H Q I q
theorem ws {st : Stmt} {t : TS} {σ : L2.St} {H : Hp} {D : Ends} (h : PS X st t) (q : t D σ H) : wps X st D σ H := by unfold wps; exact fun pins s I => h.run pins s σ H D I q
theorem wss {st : List Stmt} {t : TS} {σ : L2.St} {H : Hp} {D : Ends} (h : PSs X st t) (q : t D σ H) : wpss X st D σ H := by unfold wpss; exact fun pins s I => h.run pins s σ H D I q
end
/-! ### judgements -/
def PD (X : Cx) (δ : De) (ω : Om) (e : Expr) (d : PyData) : Prop :=
  ∀ σ H, Rl X.K H σ δ ω → ∀ Q : VK, (∀ v H', Same H H' → Dp X.K (hid (ads ω) H') v d → Q v H') → wpe X e σ H Q
def PDs (X : Cx) (δ : De) (ω : Om) (es : List Expr) (ds : List PyData) : Prop :=
  ∀ σ H, Rl X.K H σ δ ω → ∀ Q : List V → Hp → Prop, (∀ vs H', Same H H' → DpAll X.K (hid (ads ω) H') vs ds → Q vs H') → wpa X es σ H Q
def PTd (X : Cx) (δ : De) (ω : Om) (e : Expr) (b : Bool) : Prop :=
  ∀ σ H, Rl X.K H σ δ ω → ∀ Q : Bool → Hp → Prop, (∀ H', Same H H' → Q b H') → wpt X e σ H Q
/-- a list that is read -/
def PL (X : Cx) (δ : De) (ω : Om) (e : Expr) (ds : List PyData) : Prop :=
  ∀ σ H, Rl X.K H σ δ ω → ∀ Q : VK, (∀ p vs H', Same H H' → SqL X.K H' p vs → DpAll X.K (hid (ads ω) H') vs ds → Q (.ref p) H') → wpe X e σ H Q
/-- a new list -/
def PN (X : Cx) (δ : De) (ω : Om) (e : Expr) (ds : List PyData) : Prop :=
  ∀ σ H, Rl X.K H σ δ ω → ∀ Q : VK, (∀ p vs H', Same H H' → H p = none → H' p = some (.lst vs) → DpAll X.K (hid (p :: ads ω) H') vs ds → Q (.ref p) H') → wpe X e σ H Q
section
variable {X : Cx} {δ : De} {ω : Om} {a b c e : Expr} {es : List Expr} {d da db dc dz : PyData} {ds : List PyData} {pos : Pos}
theorem PD.eq (h : PD X δ ω e d) (q : d = dz) : PD X δ ω e dz := q ▸ h
theorem PN.pl (h : PN X δ ω e ds) : PL X δ ω e ds := fun σ H r Q k => h σ H r Q fun p vs H' s _ h1 h2 => k p vs H' s (SqL.of h1) (dpam hid_cons h2)
theorem PN.pd (h : PN X δ ω e ds) : PD X δ ω e (.list ds) := fun σ H r Q k => h σ H r Q fun p vs H' s n h1 h2 => k (.ref p) H' s (.lst (SqL.of (hid_of (new_out r.ro.there n) h1)) (dpam hid_cons h2))
theorem PD.pl (h : PD X δ ω e (.list ds)) : PL X δ ω e ds := fun σ H r Q k => h σ H r Q fun v H' s h1 => by
  cases h1 with
  | lst hs ha => exact k _ _ H' s (hid_sub.seq hs) ha
theorem pds_nil : PDs X δ ω [] [] := fun σ H _ Q k => wa pa_nil (k [] H (Same.refl H) .nil)
theorem pds_cons (ha : PD X δ ω e d) (hr : PDs X δ ω es ds) (hs : starEach (e :: es) X.env = (false, eval e X.env) :: starEach es X.env := by rfl) : PDs X δ ω (e :: es) (d :: ds) := fun σ H r Q k =>
  wa (pa_cons pe_w pa_w hs) (ha σ H r _ fun v H1 s1 d1 => hr σ H1 (r.mono s1) _ fun vs H2 s2 d2 => k (v :: vs) H2 (s1.trans s2) (.cons (dpm (hid_same s2) d1) d2))

/-! ### names, constants -/
theorem pd_var (i : Nat) {x : Str} (hd : δ[i]? = some (some (.im d)) := by rfl) (hN : X.N[i]? = some x := by rfl) (hv : Vis X.env.scope x := by first | exact Or.inl rfl | exact Or.inr (Or.inl rfl) | exact Or.inr (Or.inr rfl))
    (h1 : (x == ("__debug__" : Str)) = false := by decide) (h2 : (x == ("__classdict__" : Str)) = false := by decide) : PD X δ ω (.Name x pos) d := fun σ H r Q k => by
  obtain ⟨v, e1, e2⟩ := r.sl i _ hd
  exact we (pe_var hN hv h1 h2) ⟨v, e1, k v H (Same.refl H) e2⟩
theorem pl_var (i : Nat) {x : Str} {p : Addr} {xs : List PyData} (hm : (p, Od.lst (xs.map .im)) ∈ ω.os) (hd : δ[i]? = some (some (.ad p)) := by rfl) (hN : X.N[i]? = some x := by rfl) (hv : Vis X.env.scope x := by first | exact Or.inl rfl | exact Or.inr (Or.inl rfl) | exact Or.inr (Or.inr rfl))
    (h1 : (x == ("__debug__" : Str)) = false := by decide) (h2 : (x == ("__classdict__" : Str)) = false := by decide) : PL X δ ω (.Name x pos) xs := fun σ H r Q k => by
  obtain ⟨v, e1, e2⟩ := r.sl i _ hd
  obtain ⟨vs, e3, e4⟩ := r.ro.ob _ _ hm
  have e2 : v = .ref p := e2
  subst e2
  exact we (pe_var hN hv h1 h2) ⟨_, e1, k p vs H (Same.refl H) (SqL.of e3) (dpa_im e4)⟩
theorem pd_int {i : Int} {j : Nat} : PD X δ ω (.Constant (.int i) j pos) (.int i) := fun σ H _ Q k => we pe_int (k _ H (Same.refl H) (.int i))
theorem pd_str {x : Str} {j : Nat} : PD X δ ω (.Constant (.str x) j pos) (.str x) := fun σ H _ Q k => we pe_str (k _ H (Same.refl H) (.str x))
theorem pd_bl {x : Bool} {j : Nat} : PD X δ ω (.Constant (.bool x) j pos) (.bool x) := fun σ H _ Q k => we pe_bl (k _ H (Same.refl H) (.bl x))
theorem pd_non {j : Nat} : PD X δ ω (.Constant .none j pos) .none := fun σ H _ Q k => we pe_non (k _ H (Same.refl H) .non)
/-- a constant of the module -/
def GlD (K : PySem.W.Frag) (mg : Str → Option Value) (x : Str) (d : PyData) : Prop := ∃ v u, mg x = some u ∧ RelV v u ∧ ∀ H, Dp K H v d
theorem pd_glob {x : Str} (h : GlD X.K X.mg x d) (hg : Gl X x := by rfl) (hd : (x == ("__debug__" : Str)) = false := by decide) : PD X δ ω (.Name x pos) d := fun σ H _ Q k => by
  obtain ⟨v, u, h1, h2, h3⟩ := h
  exact we (pe_glob hg h1 h2 hd) (k v H (Same.refl H) (h3 _))

/-! ### operators -/
def RD (K : PySem.W.Frag) (r : R2) (da db dz : PyData) : Prop :=
  ∀ (ps : List Addr) (x y : V) (H : Hp), (∀ a ∈ ps, H a ≠ none) → Dp K (hid ps H) x da → Dp K (hid ps H) y db → ∀ Q : VK, (∀ z H', Same H H' → Dp K (hid ps H') z dz → Q z H') → r x y H Q
theorem pd_op {op : Operator} {r : R2} (ho : OpR X (binaryOp op) r) (hr : RD X.K r da db dz) (ha : PD X δ ω a da) (hb : PD X δ ω b db) : PD X δ ω (.BinOp a op b pos) dz := fun σ H rl Q k =>
  we (pe_op ho pe_w pe_w) (ha σ H rl _ fun x H1 s1 d1 => hb σ H1 (rl.mono s1) _ fun y H2 s2 d2 =>
    hr _ x y H2 (there_mono rl.ro.there (s1.trans s2)) (dpm (hid_same s2) d1) d2 Q fun z H3 s3 d3 => k z H3 ((s1.trans s2).trans s3) d3)
theorem pd_cmp {op : CmpOp} {r : R2} (ho : OpR X (compareOp op) r) (hr : RD X.K r da db dz) (ha : PD X δ ω a da) (hb : PD X δ ω b db) (hm : behindInMarks op b = false) : PD X δ ω (.Compare a [op] [b] pos) dz := fun σ H rl Q k =>
  we (pe_cmpR ho pe_w pe_w hm) (ha σ H rl _ fun x H1 s1 d1 => hb σ H1 (rl.mono s1) _ fun y H2 s2 d2 =>
    hr _ x y H2 (there_mono rl.ro.there (s1.trans s2)) (dpm (hid_same s2) d1) d2 Q fun z H3 s3 d3 => k z H3 ((s1.trans s2).trans s3) d3)
theorem rd_I0 {K : PySem.W.Frag} {g : Int → Int → Int} {i j : Int} : RD K (rI0 fun i j => .int (g i j)) (.int i) (.int j) (.int (g i j)) := fun ps x y H _ hx hy Q k => by
  cases hx
  cases hy
  exact ⟨i, j, rfl, rfl, k _ H (Same.refl H) (.int _)⟩
theorem rd_B0 {K : PySem.W.Frag} {g : Int → Int → Bool} {i j : Int} : RD K (rI0 fun i j => .bl (g i j)) (.int i) (.int j) (.bool (g i j)) := fun ps x y H _ hx hy Q k => by
  cases hx
  cases hy
  exact ⟨i, j, rfl, rfl, k _ H (Same.refl H) (.bl _)⟩
theorem rd_I {K : PySem.W.Frag} {C : Int → Int → Prop} {g : Int → Int → Int} {i j : Int} (hc : C i j) : RD K (rI C fun i j => .int (g i j)) (.int i) (.int j) (.int (g i j)) := fun ps x y H _ hx hy Q k => by
  cases hx
  cases hy
  exact ⟨i, j, rfl, rfl, hc, k _ H (Same.refl H) (.int _)⟩
theorem pd_add {i j : Int} (ha : PD X δ ω a (.int i)) (hb : PD X δ ω b (.int j)) : PD X δ ω (.BinOp a .Add b pos) (.int (i + j)) := pd_op op_add rd_I0 ha hb
theorem pd_sub {i j : Int} (ha : PD X δ ω a (.int i)) (hb : PD X δ ω b (.int j)) : PD X δ ω (.BinOp a .Sub b pos) (.int (i - j)) := pd_op op_sub rd_I0 ha hb
theorem pd_mul {i j : Int} (hc : CMulW i j) (ha : PD X δ ω a (.int i)) (hb : PD X δ ω b (.int j)) : PD X δ ω (.BinOp a .Mult b pos) (.int (i * j)) := pd_op op_mulW (rd_I hc) ha hb
theorem pd_mulS {i j : Int} (hc : CMul i j) (ha : PD X δ ω a (.int i)) (hb : PD X δ ω b (.int j)) : PD X δ ω (.BinOp a .Mult b pos) (.int (i * j)) := pd_op op_mul (rd_I hc) ha hb
theorem pd_mod {i j : Int} (hc : 0 < j) (ha : PD X δ ω a (.int i)) (hb : PD X δ ω b (.int j)) : PD X δ ω (.BinOp a .Mod b pos) (.int (i % j)) := pd_op op_mod (rd_I (C := fun _ j => 0 < j) hc) ha hb
theorem pd_fdiv {i j : Int} (hc : CDivW i j) (ha : PD X δ ω a (.int i)) (hb : PD X δ ω b (.int j)) : PD X δ ω (.BinOp a .FloorDiv b pos) (.int (i / j)) := pd_op op_fdivW (rd_I hc) ha hb
theorem pd_pow {i j : Int} (hc : CPow i j) (ha : PD X δ ω a (.int i)) (hb : PD X δ ω b (.int j)) : PD X δ ω (.BinOp a .Pow b pos) (.int (i ^ j.toNat)) := pd_op op_pow (rd_I hc) ha hb
theorem pd_lt {i j : Int} (ha : PD X δ ω a (.int i)) (hb : PD X δ ω b (.int j)) : PD X δ ω (.Compare a [.Lt] [b] pos) (.bool (decide (i < j))) := pd_cmp op_lt rd_B0 ha hb (nomark _)
theorem pd_le {i j : Int} (ha : PD X δ ω a (.int i)) (hb : PD X δ ω b (.int j)) : PD X δ ω (.Compare a [.LtE] [b] pos) (.bool (decide (i ≤ j))) := pd_cmp op_le rd_B0 ha hb (nomark _)
theorem pd_gt {i j : Int} (ha : PD X δ ω a (.int i)) (hb : PD X δ ω b (.int j)) : PD X δ ω (.Compare a [.Gt] [b] pos) (.bool (decide (j < i))) := pd_cmp op_gt rd_B0 ha hb (nomark _)
theorem pd_ge {i j : Int} (ha : PD X δ ω a (.int i)) (hb : PD X δ ω b (.int j)) : PD X δ ω (.Compare a [.GtE] [b] pos) (.bool (decide (j ≤ i))) := pd_cmp op_ge rd_B0 ha hb (nomark _)
theorem rd_eqI {K : PySem.W.Frag} {i j : Int} : RD K rEq (.int i) (.int j) (.bool (decide (i = j))) := fun ps x y H _ hx hy Q k => by
  cases hx
  cases hy
  refine ⟨rfl, ?_⟩
  have e : decide (V.int i = V.int j) = decide (i = j) := by
    by_cases c : i = j
    · subst c
      simp
    · rw [decide_eq_false c, decide_eq_false (fun z => c (V.int.inj z))]
  rw [e]
  exact k _ H (Same.refl H) (.bl _)
theorem rd_neI {K : PySem.W.Frag} {i j : Int} : RD K rNe (.int i) (.int j) (.bool (!decide (i = j))) := fun ps x y H _ hx hy Q k => by
  cases hx
  cases hy
  refine ⟨rfl, ?_⟩
  have e : decide (V.int i = V.int j) = decide (i = j) := by
    by_cases c : i = j
    · subst c
      simp
    · rw [decide_eq_false c, decide_eq_false (fun z => c (V.int.inj z))]
  rw [e]
  exact k _ H (Same.refl H) (.bl _)
theorem pd_eqI {i j : Int} (ha : PD X δ ω a (.int i)) (hb : PD X δ ω b (.int j)) : PD X δ ω (.Compare a [.Eq] [b] pos) (.bool (decide (i = j))) := pd_cmp op_eq rd_eqI ha hb (nomark _)
theorem pd_neI {i j : Int} (ha : PD X δ ω a (.int i)) (hb : PD X δ ω b (.int j)) : PD X δ ω (.Compare a [.NotEq] [b] pos) (.bool (!decide (i = j))) := pd_cmp op_ne rd_neI ha hb (nomark _)
theorem rd_eqD {K : PySem.W.Frag} (h1 : SeqAt.shaped da = true) (h2 : SeqAt.shaped db = true) : RD K (rEqD K) da db (.bool (PyData.eqv da db)) := fun ps x y H _ hx hy Q k =>
  ⟨da, db, dpm hid_sub hx, dpm hid_sub hy, h1, h2, k _ H (Same.refl H) (.bl _)⟩
theorem rd_neD {K : PySem.W.Frag} (h1 : SeqAt.shaped da = true) (h2 : SeqAt.shaped db = true) : RD K (rNeD K) da db (.bool (!PyData.eqv da db)) := fun ps x y H _ hx hy Q k =>
  ⟨da, db, dpm hid_sub hx, dpm hid_sub hy, h1, h2, k _ H (Same.refl H) (.bl _)⟩
theorem pd_eqD (hu : X.A.units + 64 < cLine) (h1 : SeqAt.shaped da = true) (h2 : SeqAt.shaped db = true) (ha : PD X δ ω a da) (hb : PD X δ ω b db) : PD X δ ω (.Compare a [.Eq] [b] pos) (.bool (PyData.eqv da db)) := pd_cmp (op_eqD hu) (rd_eqD h1 h2) ha hb (nomark _)
theorem pd_neD (hu : X.A.units + 64 < cLine) (h1 : SeqAt.shaped da = true) (h2 : SeqAt.shaped db = true) (ha : PD X δ ω a da) (hb : PD X δ ω b db) : PD X δ ω (.Compare a [.NotEq] [b] pos) (.bool (!PyData.eqv da db)) := pd_cmp (op_neD hu) (rd_neD h1 h2) ha hb (nomark _)

/-! ### displays, subscripts, len -/
theorem pd_tup {x1} (h : PDs X δ ω es ds) (hz : ds.length ≤ 1000 := by first | decide | (simp only [List.length_cons, List.length_nil]; omega)) : PD X δ ω (.Tuple es x1 pos) (.tuple ds) := fun σ H r Q k =>
  we (pe_tup pa_w) (h σ H r _ fun vs H1 s1 d1 => ⟨Nat.le_of_lt (small1000 (by rw [dpa_len d1]; exact hz)), fun p hp => k _ _ (s1.trans (same_new hp))
    (.tup (SqT.of (hid_of (new_out (there_mono r.ro.there s1) hp) upd_same)) (dpam (hid_same (same_new hp)) d1))⟩)
theorem pn_lst (h : PDs X δ ω es ds) (hz : ds.length ≤ 1000 := by first | decide | (simp only [List.length_cons, List.length_nil]; omega)) : PN X δ ω (.List es pos) ds := fun σ H r Q k =>
  we (pe_lst pa_w) (h σ H r _ fun vs H1 s1 d1 => ⟨Nat.le_of_lt (small1000 (by rw [dpa_len d1]; exact hz)), fun p hp => k p vs _ (s1.trans (same_new hp)) (s1.free hp) upd_same (dpam (hid_new hp (same_new hp)) d1)⟩)
theorem atI_dp {K : PySem.W.Frag} {H : Hp} {ds : List PyData} {vs : List V} {i : Int} (h : DpAll K H vs ds) (ha : atI ds i = some d) : ∃ v, atI vs i = some v ∧ Dp K H v d := by
  unfold atI at ha ⊢
  rw [dpa_len h]
  cases e : ixN ds.length i with
  | none =>
    rw [e] at ha
    cases ha
  | some j =>
    rw [e] at ha
    exact dpa_get h ha
theorem atI0 {α : Type} {x : α} {xs : List α} : atI (x :: xs) 0 = some x := atI_nat (j := 0) rfl
theorem atI1 {α : Type} {x y : α} {xs : List α} : atI (x :: y :: xs) 1 = some y := atI_nat (j := 1) rfl
theorem pd_ixT {i : Int} (ha : PD X δ ω a (.tuple ds)) (hb : PD X δ ω b (.int i)) (hi : atI ds i = some d) (hs : PlainIx b := by exact fun _ _ => rfl) : PD X δ ω (.Subscript a b pos) d := fun σ H rl Q k =>
  we (pe_ix ix_tup pe_w pe_w hs) (ha σ H rl _ fun x H1 s1 d1 => hb σ H1 (rl.mono s1) _ fun y H2 s2 d2 => by
    cases d2
    cases d1 with
    | tup hs ha =>
      obtain ⟨v, h1, h2⟩ := atI_dp ha hi
      exact ⟨_, _, _, v, rfl, rfl, same_sqt s2 (same_sqt hid_sub hs), h1, k v H2 (s1.trans s2) (dpm (hid_same s2) h2)⟩)
theorem pd_ixL {i : Int} (ha : PL X δ ω a ds) (hb : PD X δ ω b (.int i)) (hi : atI ds i = some d) (hs : PlainIx b := by exact fun _ _ => rfl) : PD X δ ω (.Subscript a b pos) d := fun σ H rl Q k =>
  we (pe_ix ix_list pe_w pe_w hs) (ha σ H rl _ fun p vs H1 s1 h1 d1 => hb σ H1 (rl.mono s1) _ fun y H2 s2 d2 => by
    cases d2
    obtain ⟨v, h3, h4⟩ := atI_dp d1 hi
    exact ⟨_, _, _, v, rfl, rfl, s2.seq h1, h3, k v H2 (s1.trans s2) (dpm (hid_same s2) h4)⟩)
theorem pd_lenT {p : Pos} (hm : X.mg "len" = none) (ha : PD X δ ω a (.tuple ds)) (hg : Gl X "len" := by rfl) (hs : starEach [a] X.env = (false, eval a X.env) :: starEach [] X.env := by rfl) : PD X δ ω (.Call (.Name "len" p) [a] [] pos) (.int ds.length) := fun σ H rl Q k =>
  we (pe_callB call_len_seq hg hm PySem.boot_len (pa_cons pe_w pa_nil hs) (he := hs)) (ha σ H rl _ fun x H1 s1 d1 => by
    cases d1 with
    | tup h1 h2 =>
      refine ⟨_, _, rfl, .inr (same_sqt hid_sub h1), ?_⟩
      rw [dpa_len h2]
      exact k _ H1 s1 (.int _))
theorem pd_lenL {p : Pos} (hm : X.mg "len" = none) (ha : PL X δ ω a ds) (hg : Gl X "len" := by rfl) (hs : starEach [a] X.env = (false, eval a X.env) :: starEach [] X.env := by rfl) : PD X δ ω (.Call (.Name "len" p) [a] [] pos) (.int ds.length) := fun σ H rl Q k =>
  we (pe_callB call_len_seq hg hm PySem.boot_len (pa_cons pe_w pa_nil hs) (he := hs)) (ha σ H rl _ fun x vs H1 s1 h1 d1 => by
    refine ⟨_, _, rfl, .inl h1, ?_⟩
    rw [dpa_len d1]
    exact k _ H1 s1 (.int _))
theorem pd_lenS {p : Pos} {z : Str} (hm : X.mg "len" = none) (ha : PD X δ ω a (.str z)) (hz : z.length ≤ 100000) (hg : Gl X "len" := by rfl) (hs : starEach [a] X.env = (false, eval a X.env) :: starEach [] X.env := by rfl) : PD X δ ω (.Call (.Name "len" p) [a] [] pos) (.int z.length) := fun σ H rl Q k =>
  we (pe_callB call_len hg hm PySem.boot_len (pa_cons pe_w pa_nil hs) (he := hs)) (ha σ H rl _ fun x H1 s1 d1 => by
    cases d1
    exact ⟨_, _, rfl, ⟨Nat.le_trans hz (by decide), rfl⟩, k _ H1 s1 (.int _)⟩)

/-! ### truth, and, or, not -/
theorem pt_of (h : PD X δ ω e (.bool true)) (he : ∀ whole, isTrue e X.env whole = (do let v ← whole; standAt e.pos; holding [v] (truthy v)) := by intro _; rfl) : PTd X δ ω e true := fun σ H r Q k =>
  wt (pt_val pe_w he) (h σ H r _ fun v H1 s1 d1 => by
    cases d1
    exact ⟨_, rfl, k H1 s1⟩)
theorem pt_bool {k : Bool} (h : PD X δ ω e (.bool k)) (he : ∀ whole, isTrue e X.env whole = (do let v ← whole; standAt e.pos; holding [v] (truthy v)) := by intro _; rfl) : PTd X δ ω e k := fun σ H r Q q =>
  wt (pt_val pe_w he) (h σ H r _ fun v H1 s1 d1 => by
    cases d1
    exact ⟨_, rfl, q H1 s1⟩)
theorem pt_cmpd {op : CmpOp} {r : R2} {k : Bool} (ho : OpR X (compareOp op) r) (hr : RD X.K r da db (.bool k)) (ha : PD X δ ω a da) (hb : PD X δ ω b db) (hm : behindInMarks op b = false) : PTd X δ ω (.Compare a [op] [b] pos) k := fun σ H rl Q q =>
  wt (pt_cmpR ho pe_w pe_w hm) (ha σ H rl _ fun x H1 s1 d1 => hb σ H1 (rl.mono s1) _ fun y H2 s2 d2 =>
    hr _ x y H2 (there_mono rl.ro.there (s1.trans s2)) (dpm (hid_same s2) d1) d2 _ fun z H3 s3 d3 => by
      cases d3
      exact ⟨_, rfl, q H3 ((s1.trans s2).trans s3)⟩)
theorem pt_notd {k : Bool} (h : PTd X δ ω e k) : PTd X δ ω (.UnaryOp .Not e pos) (!k) := fun σ H r Q q => wt (pt_not pt_w) (h σ H r _ fun H1 s1 => q H1 s1)
theorem pt_truT {k : Bool} (h : PD X δ ω e (.tuple ds)) (hk : k = !ds.isEmpty) (he : ∀ whole, isTrue e X.env whole = (do let v ← whole; standAt e.pos; holding [v] (truthy v)) := by intro _; rfl) : PTd X δ ω e k := fun σ H r Q q =>
  wt (pt_truth pe_w he) (h σ H r _ fun v H1 s1 d1 => by
    cases d1 with
    | tup h1 h2 =>
      refine ⟨k, ?_, q H1 s1⟩
      refine .inr (.inl ⟨_, same_sqt hid_sub h1, ?_⟩)
      rw [hk]
      cases h2 <;> rfl)
end
end FP

namespace FP
open PySem PySem.Spec PyProof.Rows L2
/-! ### and, or, not -/
@[irreducible] def wpw (X : Cx) (e : Expr) : TT := fun σ H Q => ∀ (whole : Sem Value) pins s, Inv X pins σ H s → wpAny (model X.prog X.w) X.A (isTrue e X.env whole) (TP X pins σ Q) X.xe s
theorem pw_w {X : Cx} {e : Expr} : PW X e (wpw X e) := ⟨fun whole pins s σ H Q I h => by unfold wpw at h; exact h whole pins s I⟩
theorem ww {X : Cx} {e : Expr} {t : TT} {σ : L2.St} {H : Hp} {Q : Bool → Hp → Prop} (h : PW X e t) (q : t σ H Q) : wpw X e σ H Q := by unfold wpw; exact fun whole pins s I => h.run whole pins s σ H Q I q
def PWd (X : Cx) (δ : De) (ω : Om) (e : Expr) (b : Bool) : Prop :=
  ∀ σ H, Rl X.K H σ δ ω → ∀ Q : Bool → Hp → Prop, (∀ H', Same H H' → Q b H') → wpw X e σ H Q
section
variable {X : Cx} {δ : De} {ω : Om} {a b c e : Expr} {es r : List Expr} {d da db dc dz : PyData} {ds : List PyData} {pos : Pos} {k x y : Bool}
theorem PWd.pt (h : PWd X δ ω e k) : PTd X δ ω e k := fun σ H rl Q q => wt (PW.pt pw_w) (h σ H rl Q q)
theorem pw_and1d (h : PTd X δ ω a k) : PWd X δ ω (.BoolOp .And [a] pos) k := fun σ H rl Q q => ww (pw_and1 pt_w) (h σ H rl Q q)
theorem pw_or1d (h : PTd X δ ω a k) : PWd X δ ω (.BoolOp .Or [a] pos) k := fun σ H rl Q q => ww (pw_or1 pt_w) (h σ H rl Q q)
theorem pw_andd (h : PTd X δ ω a x) (h2 : x = true → PWd X δ ω (.BoolOp .And (b :: r) pos) y) : PWd X δ ω (.BoolOp .And (a :: b :: r) pos) (x && y) := fun σ H rl Q q =>
  ww (pw_and pt_w pw_w) (h σ H rl _ fun H1 s1 => by
    cases x with
    | true => exact iteT (h2 rfl σ H1 (rl.mono s1) Q fun H2 s2 => q H2 (s1.trans s2))
    | false => exact iteF (q H1 s1))
theorem pw_ord (h : PTd X δ ω a x) (h2 : x = false → PWd X δ ω (.BoolOp .Or (b :: r) pos) y) : PWd X δ ω (.BoolOp .Or (a :: b :: r) pos) (x || y) := fun σ H rl Q q =>
  ww (pw_or pt_w pw_w) (h σ H rl _ fun H1 s1 => by
    cases x with
    | true => exact iteT (q H1 s1)
    | false => exact iteF (h2 rfl σ H1 (rl.mono s1) Q fun H2 s2 => q H2 (s1.trans s2)))
theorem pw_orT (h : PTd X δ ω a true) : PWd X δ ω (.BoolOp .Or (a :: b :: r) pos) true := fun σ H rl Q q => ww (pw_or pt_w pw_w) (h σ H rl _ fun H1 s1 => iteT (q H1 s1))
theorem pw_andF (h : PTd X δ ω a false) : PWd X δ ω (.BoolOp .And (a :: b :: r) pos) false := fun σ H rl Q q => ww (pw_and pt_w pw_w) (h σ H rl _ fun H1 s1 => iteF (q H1 s1))
theorem pd_one {op : PySem.BoolOp} (h : PD X δ ω a d) : PD X δ ω (.BoolOp op [a] pos) d := fun σ H rl Q q => we (pe_one pe_w) (h σ H rl Q q)
theorem pd_and (h : PD X δ ω a (.bool x)) (h2 : x = true → PD X δ ω (.BoolOp .And (b :: r) pos) (.bool y)) : PD X δ ω (.BoolOp .And (a :: b :: r) pos) (.bool (x && y)) := fun σ H rl Q q =>
  we (pe_and pe_w pe_w) (h σ H rl _ fun v H1 s1 d1 => by
    cases d1
    refine ⟨x, rfl, ?_⟩
    cases x with
    | true => exact iteT (h2 rfl σ H1 (rl.mono s1) Q fun v H2 s2 => q v H2 (s1.trans s2))
    | false => exact iteF (q _ H1 s1 (.bl _)))
theorem pd_andF (h : PD X δ ω a (.bool false)) : PD X δ ω (.BoolOp .And (a :: b :: r) pos) (.bool false) := fun σ H rl Q q =>
  we (pe_and pe_w pe_w) (h σ H rl _ fun v H1 s1 d1 => by
    cases d1
    exact ⟨false, rfl, iteF (q _ H1 s1 (.bl _))⟩)
theorem pd_or (h : PD X δ ω a (.bool x)) (h2 : x = false → PD X δ ω (.BoolOp .Or (b :: r) pos) (.bool y)) : PD X δ ω (.BoolOp .Or (a :: b :: r) pos) (.bool (x || y)) := fun σ H rl Q q =>
  we (pe_or pe_w pe_w) (h σ H rl _ fun v H1 s1 d1 => by
    cases d1
    refine ⟨x, rfl, ?_⟩
    cases x with
    | true => exact iteT (q _ H1 s1 (.bl _))
    | false => exact iteF (h2 rfl σ H1 (rl.mono s1) Q fun v H2 s2 => q v H2 (s1.trans s2)))
theorem pd_not (h : PD X δ ω a (.bool x)) : PD X δ ω (.UnaryOp .Not a pos) (.bool (!x)) := fun σ H rl Q q =>
  we (pe_not pe_w) (h σ H rl _ fun v H1 s1 d1 => by
    cases d1
    exact ⟨x, rfl, q _ H1 s1 (.bl _)⟩)
theorem pd_if (h : PTd X δ ω c k) (h1 : k = true → PD X δ ω a d) (h2 : k = false → PD X δ ω b d) : PD X δ ω (.IfExp c a b pos) d := fun σ H rl Q q =>
  we (pe_ifExp pt_w pe_w pe_w) (h σ H rl _ fun H1 s1 => by
    cases k with
    | true => exact iteT (h1 rfl σ H1 (rl.mono s1) Q fun v H2 s2 => q v H2 (s1.trans s2))
    | false => exact iteF (h2 rfl σ H1 (rl.mono s1) Q fun v H2 s2 => q v H2 (s1.trans s2)))
/-- a < b < c -/
theorem pd_chain {op op' : CmpOp} {r r' : R2} (ho : OpR X (compareOp op) r) (ho' : OpR X (compareOp op') r') (hr : RD X.K r da db (.bool x)) (hr' : x = true → RD X.K r' db dc (.bool y)) (ha : PD X δ ω a da) (hb : PD X δ ω b db) (hc : x = true → PD X δ ω c dc)
    (h1 : lastMarks [op, op'] [b, c] = false := by with_unfolding_all rfl) : PD X δ ω (.Compare a [op, op'] [b, c] pos) (.bool (x && y)) := fun σ H rl Q q =>
  we (pe_chain ho ho' pe_w pe_w pe_w h1) (ha σ H rl _ fun u H1 s1 d1 => hb σ H1 (rl.mono s1) _ fun v H2 s2 d2 =>
    hr _ u v H2 (there_mono rl.ro.there (s1.trans s2)) (dpm (hid_same s2) d1) d2 _ fun z H3 s3 d3 => by
      cases d3
      refine ⟨x, rfl, ?_⟩
      cases x with
      | true => exact iteT (hc rfl σ H3 (rl.mono ((s1.trans s2).trans s3)) _ fun t H4 s4 d4 => hr' rfl _ v t H4 (there_mono rl.ro.there (((s1.trans s2).trans s3).trans s4)) (dpm (hid_same (s3.trans s4)) d2) d4 Q fun z H5 s5 d5 => q z H5 ((((s1.trans s2).trans s3).trans s4).trans s5) d5)
      | false => exact iteF (q _ H3 ((s1.trans s2).trans s3) (.bl _)))

/-! ### built-in functions by values -/
def RC (K : PySem.W.Frag) (r : List V → Hp → VK → Prop) (ds : List PyData) (dz : PyData) : Prop :=
  ∀ (ps : List Addr) (vs : List V) (H : Hp), (∀ a ∈ ps, H a ≠ none) → DpAll K (hid ps H) vs ds → ∀ Q : VK, (∀ z H', Same H H' → Dp K (hid ps H') z dz → Q z H') → r vs H Q
theorem pd_callB {id : String} {r : List V → Hp → VK → Prop} {x : Str} {p : Pos} (hc : CallR X (.builtin id) r) (hr : RC X.K r ds dz) (hm : X.mg x = none) (hv : bootBuiltins x = some (.builtin id)) (ha : PDs X δ ω (a :: es) ds) (hg : Gl X x := by rfl)
    (hn : x ≠ "__name__" := by decide) (hdb : (x == ("__debug__" : Str)) = false := by decide) (he : starEach (a :: es) X.env = (false, eval a X.env) :: starEach es X.env := by rfl) (hpl : (backTo pos (starEach es X.env)).any (·.1) = false := by rfl) :
    PD X δ ω (.Call (.Name x p) (a :: es) [] pos) dz := fun σ H rl Q k =>
  we (pe_callB hc hg hm hv pa_w hn hdb he hpl) (ha σ H rl _ fun vs H1 s1 d1 => hr _ vs H1 (there_mono rl.ro.there s1) d1 Q fun z H2 s2 d2 => k z H2 (s1.trans s2) d2)
theorem pd_callTy {T : String} {r : List V → Hp → VK → Prop} {x : Str} {p : Pos} (hc : CallR X (.type T) r) (hr : RC X.K r ds dz) (hm : X.mg x = none) (hv : bootBuiltins x = some (.type T)) (ha : PDs X δ ω (a :: es) ds) (hg : Gl X x := by rfl)
    (hn : x ≠ "__name__" := by decide) (hdb : (x == ("__debug__" : Str)) = false := by decide) (he : starEach (a :: es) X.env = (false, eval a X.env) :: starEach es X.env := by rfl) (hpl : (backTo pos (starEach es X.env)).any (·.1) = false := by rfl) :
    PD X δ ω (.Call (.Name x p) (a :: es) [] pos) dz := fun σ H rl Q k =>
  we (pe_callTy hc hg hm hv pa_w hn hdb he hpl) (ha σ H rl _ fun vs H1 s1 d1 => hr _ vs H1 (there_mono rl.ro.there s1) d1 Q fun z H2 s2 d2 => k z H2 (s1.trans s2) d2)
theorem pd_min {p : Pos} {i j : Int} (hc : X.calm = true) (hm : X.mg "min" = none) (ha : PD X δ ω a (.int i)) (hb : PD X δ ω b (.int j)) (hg : Gl X "min" := by rfl)
    (he : starEach [a, b] X.env = (false, eval a X.env) :: starEach [b] X.env := by rfl) (hb2 : starEach [b] X.env = (false, eval b X.env) :: starEach [] X.env := by rfl) (hpl : (backTo pos (starEach [b] X.env)).any (·.1) = false := by rfl) :
    PD X δ ω (.Call (.Name "min" p) [a, b] [] pos) (.int (if j < i then j else i)) :=
  pd_callB (call_min2 hc) (fun ps vs H _ h Q k => by
    cases h with
    | cons h1 h2 =>
      cases h2 with
      | cons h3 h4 =>
        cases h4
        cases h1
        cases h3
        exact ⟨i, j, rfl, k _ H (Same.refl H) (.int _)⟩) hm (by decide +kernel) (pds_cons ha (pds_cons hb pds_nil hb2) he) hg (by decide) (by decide) he hpl
theorem pd_max {p : Pos} {i j : Int} (hc : X.calm = true) (hm : X.mg "max" = none) (ha : PD X δ ω a (.int i)) (hb : PD X δ ω b (.int j)) (hg : Gl X "max" := by rfl)
    (he : starEach [a, b] X.env = (false, eval a X.env) :: starEach [b] X.env := by rfl) (hb2 : starEach [b] X.env = (false, eval b X.env) :: starEach [] X.env := by rfl) (hpl : (backTo pos (starEach [b] X.env)).any (·.1) = false := by rfl) :
    PD X δ ω (.Call (.Name "max" p) [a, b] [] pos) (.int (if j > i then j else i)) :=
  pd_callB (call_max2 hc) (fun ps vs H _ h Q k => by
    cases h with
    | cons h1 h2 =>
      cases h2 with
      | cons h3 h4 =>
        cases h4
        cases h1
        cases h3
        exact ⟨i, j, rfl, k _ H (Same.refl H) (.int _)⟩) hm (by decide +kernel) (pds_cons ha (pds_cons hb pds_nil hb2) he) hg (by decide) (by decide) he hpl
theorem pd_ord {p : Pos} {z : Str} {i : Nat} (hm : X.mg "ord" = none) (ha : PD X δ ω a (.str z)) (hz : z.length = 1) (hi : z.cps.getD 0 0 = i) (hg : Gl X "ord" := by rfl)
    (he : starEach [a] X.env = (false, eval a X.env) :: starEach [] X.env := by rfl) : PD X δ ω (.Call (.Name "ord" p) [a] [] pos) (.int (i : Nat)) :=
  pd_callB call_ord (fun ps vs H _ h Q k => by
    cases h with
    | cons h1 h2 =>
      cases h2
      cases h1
      refine ⟨z, rfl, hz, ?_⟩
      rw [hi]
      exact k _ H (Same.refl H) (.int _)) hm (by decide +kernel) (pds_cons ha pds_nil he) hg (by decide) (by decide) he (by rfl)
theorem dpa_bl {K : PySem.W.Frag} {H : Hp} : ∀ {bs : List Bool} {vs : List V}, DpAll K H vs (bs.map .bool) → vs = bs.map V.bl
  | [], _, h => by
    cases h
    rfl
  | b :: bs, _, h => by
    cases h with
    | cons x y =>
      cases x
      rw [List.map_cons, dpa_bl y]
/-- all of a list of truths -/
theorem pd_all {p : Pos} {bs : List Bool} (hc : X.calm = true) (hm : X.mg "all" = none) (ha : PL X δ ω a (bs.map .bool)) (hg : Gl X "all" := by rfl)
    (he : starEach [a] X.env = (false, eval a X.env) :: starEach [] X.env := by rfl) : PD X δ ω (.Call (.Name "all" p) [a] [] pos) (.bool (bs.all id)) := fun σ H rl Q k =>
  we (pe_callB (cr_all hc) hg hm (by decide +kernel) (pa_cons pe_w pa_nil he) (he := he)) (ha σ H rl _ fun q vs H1 s1 h1 d1 => by
    have ev : vs = bs.map V.bl := dpa_bl d1
    subst ev
    exact ⟨q, bs, rfl, h1, k _ H1 s1 (.bl _)⟩)
/-- tuple of a list -/
theorem pd_tupleL {p : Pos} (hm : X.mg "tuple" = none) (ha : PL X δ ω a ds) (hg : Gl X "tuple" := by rfl) (he : starEach [a] X.env = (false, eval a X.env) :: starEach [] X.env := by rfl) : PD X δ ω (.Call (.Name "tuple" p) [a] [] pos) (.tuple ds) := fun σ H rl Q k =>
  we (pe_callTy call_tuple_of hg hm (by decide +kernel) (pa_cons pe_w pa_nil he) (he := he)) (ha σ H rl _ fun q vs H1 s1 h1 d1 =>
    ⟨q, vs, rfl, .inl ⟨h1, fun l hl => k _ _ (s1.trans (same_new hl)) (.tup (SqT.of (hid_of (new_out (there_mono rl.ro.there s1) hl) upd_same)) (dpam (hid_same (same_new hl)) d1))⟩⟩)
/-- isinstance of a built-in class -/
def kindD : PyData → String
  | .none => "NoneType"
  | .bool _ => "bool"
  | .int _ => "int"
  | .str _ => "str"
  | .list _ => "list"
  | .tuple _ => "tuple"
  | .dict _ => "dict"
theorem tyx_of {K : PySem.W.Frag} {H : Hp} {v : V} (h : Dp K H v d) : TyX K H v (.type (kindD d)) := by
  cases h with
  | non => exact .base .non
  | bl b => exact .base (.bl b)
  | int i => exact .base (.int i)
  | str x => exact .base (.str x)
  | lst h _ =>
    rcases h with (h | ⟨o, h⟩) | ⟨o, its, n, h, c, _⟩
    · exact .base (.lst h)
    · exact .base (.frz h)
    · exact .kList h c
  | tup h _ =>
    rcases h with (h | ⟨o, h⟩) | ⟨o, its, n, h, c, _⟩
    · exact .base (.tup h)
    · exact .fTuple h
    · exact .kTuple h c
theorem pd_isi {p p2 : Pos} {t : String} {x : Str} (hm : X.mg "isinstance" = none) (hmx : X.mg x = none) (hbx : bootBuiltins x = some (.type t)) (ha : PD X δ ω a d) (hk : kitB (kindD d) t = some k) (hg : Gl X "isinstance" := by rfl) (hgx : Gl X x := by rfl)
    (hnx : x ≠ "__name__" := by decide) (hdx : (x == ("__debug__" : Str)) = false := by decide)
    (he : starEach [a, .Name x p2] X.env = (false, eval a X.env) :: starEach [.Name x p2] X.env := by rfl) (he2 : starEach [.Name x p2] X.env = (false, eval (.Name x p2) X.env) :: starEach [] X.env := by rfl) (hpl : (backTo pos (starEach [.Name x p2] X.env)).any (·.1) = false := by rfl) :
    PD X δ ω (.Call (.Name "isinstance" p) [a, .Name x p2] [] pos) (.bool k) := fun σ H rl Q q =>
  we (pe_callB call_isi hg hm (by decide +kernel) (pa_cons pe_w (pa_cons (pe_bltn (v := .ty t) hgx hmx hbx rfl hnx hdx) pa_nil he2) he) (he := he) (hpl := hpl)) (ha σ H rl _ fun v H1 s1 d1 =>
    ⟨v, .ty t, _, _, k, rfl, .ty t, tyx_of (dpm hid_sub d1), kit_ty hk, q _ H1 s1 (.bl _)⟩)
end
end FP

namespace FP
open PySem PySem.Spec PyProof.Rows L2
/-! ### defs by data -/
inductive Rs where
  | ok (d : PyData)
  | er (C : Addr)
def RsQ (K : PySem.W.Frag) (ps : List Addr) (H : Hp) (Q : VK) (E : XK) : Rs → Prop
  | .ok d => ∀ v H', Same H H' → Dp K (hid ps H') v d → Q v H'
  | .er C => ∀ H', Same H H' → E (.ref C) none H'
def spD (K : PySem.W.Frag) (fr : List PyData → Rs → Prop) : Sp := fun vs H Q E => ∃ ps ds r, (∀ a ∈ ps, H a ≠ none) ∧ DpAll K (hid ps H) vs ds ∧ fr ds r ∧ RsQ K ps H Q E r
structure DefOk (P : Program) (w : World) (K : PySem.W.Frag) (mg : Str → Option Value) (base : Heap) (k : Nat) (x : Str) (fr : List PyData → Rs → Prop) : Prop where
  ex : ∃ f fd ps, FnOk P w K mg base (L2N.CX P w) k f fd ps (spD K fr) ∧ mg x = some (.ref f) ∧ PySem.W.keepIn K (.ref f) = true ∧ L2.Binds K fd ps []
theorem DefOk.mono {P : Program} {w : World} {K : PySem.W.Frag} {mg : Str → Option Value} {base : Heap} {j k : Nat} {x : Str} {fr : List PyData → Rs → Prop} (G : DefOk P w K mg base j x fr) (h : j ≤ k) : DefOk P w K mg base k x fr := by
  obtain ⟨f, fd, ps, F, m, kp, b⟩ := G.ex
  exact ⟨f, fd, ps, F.mono h, m, kp, b⟩
theorem passN {X : Cx} : Passes (L2N.CX X.prog X.w) X E0 := fun _ _ _ _ _ _ _ h => by
  obtain ⟨_, _, _, _, _, _, _, _, _, _, _, _, z⟩ := h
  cases z
section
variable {X : Cx} {δ : De} {ω : Om} {a b c e : Expr} {es r : List Expr} {d da db dc dz : PyData} {ds : List PyData} {pos p : Pos} {k : Nat} {x : Str} {fr : List PyData → Rs → Prop}
theorem pd_call (G : DefOk X.prog X.w X.K X.mg X.base k x fr) (hr : Room k X.A) (ha : PDs X δ ω (a :: es) ds) (hf : fr ds (.ok d)) (hg : Gl X x := by rfl) (hdb : (x == ("__debug__" : Str)) = false := by decide)
    (he : starEach (a :: es) X.env = (false, eval a X.env) :: starEach es X.env := by rfl) (hpl : (backTo pos (starEach es X.env)).any (·.1) = false := by rfl) : PD X δ ω (.Call (.Name x p) (a :: es) [] pos) d := fun σ H rl Q q => by
  obtain ⟨f, fd, ps, F, m, kp, b⟩ := G.ex
  refine we (pe_call F hr hg m kp b .nil passN pa_w hdb he hpl) (ha σ H rl _ fun vs H1 s1 d1 => ?_)
  show spD X.K fr (vs ++ []) H1 Q E0
  rw [List.append_nil]
  exact ⟨ads ω, ds, .ok d, there_mono rl.ro.there s1, d1, hf, fun v H' s' d' => q v H' (s1.trans s') d'⟩
theorem pd_call0 (G : DefOk X.prog X.w X.K X.mg X.base k x fr) (hr : Room k X.A) (hf : fr [] (.ok d)) (hg : Gl X x := by rfl) (hdb : (x == ("__debug__" : Str)) = false := by decide) : PD X δ ω (.Call (.Name x p) [] [] pos) d := fun σ H rl Q q => by
  obtain ⟨f, fd, ps, F, m, kp, b⟩ := G.ex
  exact we (pe_call0 F hr hg m kp b .nil passN hdb) ⟨ads ω, [], .ok d, rl.ro.there, .nil, hf, fun v H' s' d' => q v H' s' d'⟩
end

/-! ### what is walked -/
/-- what stays in a loop -/
def Pt (T : List (Addr × Str)) (o : HO) : Prop := T = [] ∨ ∀ ps, o ≠ .tbl ps
def Ke (T : List (Addr × Str)) (G H : Hp) : Prop := ∀ b o, G b = some o → Pt T o → H b = some o
theorem ke_same {T : List (Addr × Str)} {G H : Hp} (h : Same G H) : Ke T G H := fun b o e _ => h b o e
theorem pt_tup {T : List (Addr × Str)} {xs : List V} : Pt T (.tup xs) := .inr fun _ z => by cases z
theorem pt_lst {T : List (Addr × Str)} {xs : List V} : Pt T (.lst xs) := .inr fun _ z => by cases z
theorem pt_frz {T : List (Addr × Str)} {o : Obj} {u : HO} : Pt T (.frz o u) := .inr fun _ z => by cases z
theorem ke_sqt {T : List (Addr × Str)} {K : PySem.W.Frag} {G H : Hp} {a : Addr} {xs : List V} (e : Ke T G H) (h : SqT K G a xs) : SqT K H a xs := by
  rcases h with (h | ⟨o, h⟩) | h
  · exact .inl (.inl (e _ _ h pt_tup))
  · exact .inl (.inr ⟨o, e _ _ h pt_frz⟩)
  · exact .inr h
theorem ke_sql {T : List (Addr × Str)} {K : PySem.W.Frag} {G H : Hp} {a : Addr} {xs : List V} (e : Ke T G H) (h : SqL K G a xs) : SqL K H a xs := by
  rcases h with (h | ⟨o, h⟩) | h
  · exact .inl (.inl (e _ _ h pt_lst))
  · exact .inl (.inr ⟨o, e _ _ h pt_frz⟩)
  · exact .inr h
mutual
theorem dp_ke {T : List (Addr × Str)} {K : PySem.W.Frag} {H H' : Hp} (e : Ke T H H') : ∀ (d : PyData) (v : V), Dp K H v d → Dp K H' v d
  | .none, _, h => by
    cases h
    exact .non
  | .bool b, _, h => by
    cases h
    exact .bl b
  | .int i, _, h => by
    cases h
    exact .int i
  | .str x, _, h => by
    cases h
    exact .str x
  | .list ds, _, h => by
    cases h with
    | lst hs ha => exact .lst (ke_sql e hs) (dpa_ke e ds _ ha)
  | .tuple ds, _, h => by
    cases h with
    | tup hs ha => exact .tup (ke_sqt e hs) (dpa_ke e ds _ ha)
  | .dict kvs, _, h => by cases h
theorem dpa_ke {T : List (Addr × Str)} {K : PySem.W.Frag} {H H' : Hp} (e : Ke T H H') : ∀ (ds : List PyData) (vs : List V), DpAll K H vs ds → DpAll K H' vs ds
  | [], _, h => by
    cases h
    exact .nil
  | d :: ds, _, h => by
    cases h with
    | cons a b => exact .cons (dp_ke e d _ a) (dpa_ke e ds _ b)
end
def Wk (K : PySem.W.Frag) (G : Hp → Prop) (B : Hp) (J : It) (items : List PyData) : Prop :=
  ∀ H', G H' → (∀ i, i < items.length → J.go i H') ∧ J.stop items.length H' ∧ ∀ i x H'', i < items.length → J.yld i H' x H'' → H'' = H' ∧ ∃ d, items[i]? = some d ∧ Dp K B x d
def PWs (X : Cx) (δ : De) (ω : Om) (tg iter : Expr) (items : List PyData) : Prop :=
  ∃ wi, PI X tg iter wi ∧ ∀ σ H, Rl X.K H σ δ ω → ∀ R : It → Hp → Prop, (∀ J H', Same H H' → Wk X.K (Same H') (hid (ads ω) H') J items → R J H') → wi σ H R
def PWk (X : Cx) (δ : De) (ω : Om) (tg iter : Expr) (items : List PyData) : Prop :=
  ∃ wi, PI X tg iter wi ∧ ∀ σ H, Rl X.K H σ δ ω → ∀ R : It → Hp → Prop, (∀ J H', Same H H' → (∀ T, Wk X.K (Ke T (hid (ads ω) H')) (hid (ads ω) H') J items) → R J H') → wi σ H R
section
variable {X : Cx} {δ : De} {ω : Om} {a b c e tg iter : Expr} {es r : List Expr} {d da db dc dz : PyData} {ds : List PyData} {pos p : Pos} {k : Nat} {x : Str}
theorem PWk.ws (h : PWk X δ ω tg iter ds) : PWs X δ ω tg iter ds := by
  obtain ⟨wi, h1, h2⟩ := h
  exact ⟨wi, h1, fun σ H rl R k => h2 σ H rl R fun J H' s w => k J H' s fun H2 s2 => w [] H2 (ke_same ((hid_same s2).trans hid_sub))⟩
theorem wk_tup (h : PD X δ ω iter (.tuple ds)) : PWk X δ ω tg iter ds := by
  refine ⟨iTup X.K (wpe X iter), pi_tup pe_w, fun σ H rl R k => h σ H rl _ fun v H1 s1 d1 => ?_⟩
  cases d1 with
  | tup h1 h2 =>
    rename_i q vs
    refine ⟨q, rfl, ⟨vs, same_sqt hid_sub h1⟩, k _ H1 s1 fun T H2 g => ⟨fun i hi => ?_, ⟨vs, ke_sqt g h1, Nat.le_of_eq (dpa_len h2)⟩, fun i y H3 _ z => ?_⟩⟩
    · obtain ⟨y, e1, _⟩ := dpa_get h2 (List.getElem?_eq_getElem hi)
      exact ⟨vs, y, ke_sqt g h1, e1⟩
    · obtain ⟨e1, e2⟩ := z
      exact ⟨e1, dpa_get' h2 (e2 vs (ke_sqt g h1))⟩
theorem wk_lst (h : PD X δ ω iter (.list ds)) : PWk X δ ω tg iter ds := by
  refine ⟨iList X.K (wpe X iter), pi_list pe_w, fun σ H rl R k => h σ H rl _ fun v H1 s1 d1 => ?_⟩
  cases d1 with
  | lst h1 h2 =>
    rename_i q vs
    refine ⟨q, rfl, ⟨vs, hid_sub.seq h1⟩, k _ H1 s1 fun T H2 g => ⟨fun i hi => ?_, ⟨vs, ke_sql g h1, Nat.le_of_eq (dpa_len h2)⟩, fun i y H3 _ z => ?_⟩⟩
    · obtain ⟨y, e1, _⟩ := dpa_get h2 (List.getElem?_eq_getElem hi)
      exact ⟨vs, y, ke_sql g h1, e1⟩
    · obtain ⟨e1, e2⟩ := z
      exact ⟨e1, dpa_get' h2 (e2 vs (ke_sql g h1))⟩
theorem ws_lst (h : PL X δ ω iter ds) : PWs X δ ω tg iter ds := by
  refine ⟨iList X.K (wpe X iter), pi_list pe_w, fun σ H rl R k => h σ H rl _ fun q vs H1 s1 h1 h2 => ?_⟩
  refine ⟨q, rfl, ⟨vs, h1⟩, k _ H1 s1 fun H2 g => ⟨fun i hi => ?_, ⟨vs, g.seq h1, Nat.le_of_eq (dpa_len h2)⟩, fun i y H3 _ z => ?_⟩⟩
  · obtain ⟨y, e1, _⟩ := dpa_get h2 (List.getElem?_eq_getElem hi)
    exact ⟨vs, y, g.seq h1, e1⟩
  · obtain ⟨e1, e2⟩ := z
    exact ⟨e1, dpa_get' h2 (e2 vs (g.seq h1))⟩
def signsD (z : Str) : List PyData := z.cps.toList.map fun c => .str ⟨#[c]⟩
theorem wk_str {z : Str} (h : PD X δ ω iter (.str z)) : PWk X δ ω tg iter (signsD z) := by
  refine ⟨iStr (wpe X iter), pi_str pe_w, fun σ H rl R k => h σ H rl _ fun v H1 s1 d1 => ?_⟩
  cases d1
  have hl : (signsD z).length = z.cps.size := by
    unfold signsD
    rw [List.length_map, Array.length_toList]
  refine ⟨z, rfl, k _ H1 s1 fun T H2 g => ⟨fun i hi => ?_, ?_, fun i y H3 hi w => ?_⟩⟩
  · show i < z.cps.size
    rw [← hl]
    exact hi
  · show z.cps.size ≤ (signsD z).length
    rw [hl]
    exact Nat.le_refl _
  · obtain ⟨e1, c, e2, e3⟩ := w
    subst e3
    refine ⟨e1, .str ⟨#[c]⟩, ?_, .str _⟩
    unfold signsD
    rw [List.getElem?_map, Array.getElem?_toList, e2]
    rfl
def rangeD (lo : Int) (n : Nat) : List PyData := (List.range n).map fun (i : Nat) => .int (lo + (i : Int))
theorem rangeD_len (lo : Int) (n : Nat) : (rangeD lo n).length = n := by
  unfold rangeD
  rw [List.length_map, List.length_range]
theorem rangeD_get {lo : Int} {n i : Nat} (h : i < n) : (rangeD lo n)[i]? = some (.int (lo + (i : Int))) := by
  unfold rangeD
  rw [List.getElem?_map, List.getElem?_range h]
  rfl
theorem wk_range1 {j : Int} (hm : X.mg "range" = none) (ha : PD X δ ω a (.int j)) (hj : 0 ≤ j ∧ j ≤ 100000) (hg : Gl X "range" := by rfl) (hs : starEach [a] X.env = [(false, eval a X.env)] := by rfl) (he : starEach [a] X.env = (false, eval a X.env) :: starEach [] X.env := by rfl) :
    PWk X δ ω tg (.Call (.Name "range" p) [a] [] pos) (rangeD 0 j.toNat) := by
  refine ⟨_, pi_range1 hg hm (pa_cons pe_w pa_nil he) hs, fun σ H rl R k => ha σ H rl _ fun v H1 s1 d1 => ?_⟩
  cases d1
  refine ⟨j, rfl, by omega, by omega, k _ H1 s1 fun T H2 g => ⟨fun i hi => ?_, ?_, fun i y H3 hi w => ?_⟩⟩
  · rw [rangeD_len] at hi
    exact hi
  · show j.toNat ≤ (rangeD 0 j.toNat).length
    rw [rangeD_len]
    exact Nat.le_refl _
  · obtain ⟨e1, e2⟩ := w
    subst e2
    rw [rangeD_len] at hi
    exact ⟨e1, _, rangeD_get hi, .int _⟩

/-! ### comprehensions -/
/-- the list under way, as an object of one's own -/
def omD (ω : Om) (D : Addr) (o : Od) : Om := ⟨ω.ps, (D, o) :: ω.os⟩
theorem ads_omD {ω : Om} {D : Addr} {o : Od} {b : Addr} : b ∈ ads (omD ω D o) ↔ b = D ∨ b ∈ ads ω := by
  show b ∈ ω.ps ++ D :: ω.os.map (·.1) ↔ b = D ∨ b ∈ ω.ps ++ ω.os.map (·.1)
  simp only [List.mem_append, List.mem_cons]
  constructor
  · rintro (h | h | h)
    · exact .inr (.inl h)
    · exact .inl h
    · exact .inr (.inr h)
  · rintro (h | h | h)
    · exact .inr (.inl h)
    · exact .inl h
    · exact .inr (.inr h)
theorem hid_omD {ω : Om} {D : Addr} {o : Od} {H : Hp} : Same (hid (ads (omD ω D o)) H) (hid (ads ω) H) := hid_more fun b h => ads_omD.mpr (.inr h)
/-- from a heap that has no D to one that has it: what was seen is seen -/
theorem hid_in {ω : Om} {D : Addr} {o : Od} {G H : Hp} (hD : G D = none) (e : Same G H) : Same (hid (ads ω) G) (hid (ads (omD ω D o)) H) := fun b u h => by
  obtain ⟨n, e2⟩ := hid_out h
  refine hid_of (fun z => ?_) (e b u e2)
  rcases ads_omD.mp z with q | q
  · rw [q, hD] at e2
    cases e2
  · exact n q
theorem Rl.omD {K : PySem.W.Frag} {G H : Hp} {σ : L2.St} {δ : De} {D : Addr} {xs : List PyData} {vs : List V} (rl : Rl K G σ δ ω) (hD : G D = none) (e : Same G H) (hv : H D = some (.lst vs)) (hx : DpAll K (hid (ads (omD ω D (.lst (xs.map .im)))) H) vs xs) :
    Rl K H σ δ (omD ω D (.lst (xs.map .im))) := by
  refine ⟨rl.len, fun i r h => ?_, ?_, ?_, there_mono rl.ro.th e⟩
  · obtain ⟨v, h1, h2⟩ := rl.sl i r h
    exact ⟨v, h1, sdv_mono (hid_in hD e) h2⟩
  · intro a o h
    rcases List.mem_cons.mp h with q | q
    · cases q
      exact ⟨vs, hv, im_dpa hx⟩
    · exact odv_mono (hid_in hD e) e (rl.ro.ob a o q)
  · show (D :: ω.os.map (·.1)).Nodup
    refine List.nodup_cons.mpr ⟨fun z => ?_, rl.ro.nd⟩
    exact rl.ro.there D (List.mem_append_right _ z) hD
/-- a write at D leaves what is seen beside it -/
theorem hid_upd {ω : Om} {D : Addr} {o o' : Od} {u : HO} {H : Hp} : Same (hid (ads (FP.omD ω D o)) H) (hid (ads (FP.omD ω D o')) (upd H D u)) := fun b x h => by
  obtain ⟨n, e⟩ := hid_out h
  have nb : b ≠ D := fun z => n (ads_omD.mpr (.inl z))
  refine hid_of (fun z => n ?_) (by rw [upd_ne nb]; exact e)
  rcases ads_omD.mp z with q | q
  · exact ads_omD.mpr (.inl q)
  · exact ads_omD.mpr (.inr q)
theorem same_upd_new {G H : Hp} {D : Addr} {u : HO} (hD : G D = none) (e : Same G H) : Same G (upd H D u) := fun b x h => by
  rw [upd_ne (ne_of_none h hD)]
  exact e b x h
/-- the comprehension's reading: no test -/
theorem lc_data {σ : L2.St} {H : Hp} {Q : VK} {wi : TI} {j : Nat} {te : TE} {items ys : List PyData} (rl : Rl X.K H σ δ ω)
    (hw : ∀ R : It → Hp → Prop, (∀ J H', Same H H' → Wk X.K (Same H') (hid (ads ω) H') J items → R J H') → wi σ H R) (hl : ys.length = items.length) (hz : items.length ≤ 10000)
    (he : ∀ (i : Nat) (d y : PyData), items[i]? = some d → ys[i]? = some y → ∀ D o σ' H', Rl X.K H' σ' (δ.set j (some (.im d))) (omD ω D o) → ∀ Q : VK, (∀ v H2, Same H' H2 → Dp X.K (hid (ads (omD ω D o)) H2) v y → Q v H2) → te σ' H' Q)
    (k : ∀ p vs H', Same H H' → H p = none → H' p = some (.lst vs) → DpAll X.K (hid (p :: ads ω) H') vs ys → Q (.ref p) H') :
    tLc wi (gName j) tYes te [j] σ H Q := by
  refine hw _ fun J H1 s1 w => fun D hD => ?_
  have rl1 := rl.mono s1
  refine ⟨fun i m H2 => m = items.length - i ∧ i ≤ items.length ∧ Same H1 H2 ∧ ∃ vs, H2 D = some (.lst vs) ∧ DpAll X.K (hid (ads (FP.omD ω D (.lst ((ys.take i).map .im)))) H2) vs (ys.take i), ⟨items.length, by omega, Nat.zero_le _, same_new hD, [], upd_same, ?_⟩, ?_⟩
  · rw [List.take_zero]
    exact .nil
  rintro i m H2 ⟨em, hi, s2, vs, hv, dv⟩
  obtain ⟨go, stop, yld⟩ := w H2 s2
  by_cases hlt : i < items.length
  · refine .inr ⟨go i hlt, fun H3 => Same H1 H3 ∧ ∃ vs, H3 D = some (.lst vs) ∧ DpAll X.K (hid (ads (FP.omD ω D (.lst ((ys.take (i + 1)).map .im)))) H3) vs (ys.take (i + 1)), fun H3 ⟨s3, h3⟩ => ⟨items.length - (i + 1), by omega, rfl, hlt, s3, h3⟩, fun x H3 hy => ?_⟩
    obtain ⟨e3, d, ed, dx⟩ := yld i x H3 hlt hy
    subst e3
    have hys : i < ys.length := by omega
    have ey : ys[i]? = some ys[i] := List.getElem?_eq_getElem hys
    show wipe (((wipe σ [j])).set j (some x)) [j] = wipe σ [j] ∧ _
    have ew : wipe σ [j] = σ.set j none := rfl
    refine ⟨?_, ?_⟩
    · show (((σ.set j none).set j (some x)).set j none) = σ.set j none
      rw [List.set_set, List.set_set]
    show te (((wipe σ [j])).set j (some x)) H3 _
    rw [ew, List.set_set]
    have rl3 := (rl1.omD hD s2 hv dv)
    have rl4 := rl3.set (i := j) (x := .im d) (v := x) (dpm (hid_in hD s2) dx)
    refine he i d ys[i] ed ey D _ _ _ rl4 _ fun v H4 s4 d4 => ⟨vs, s4 D _ hv, ?_, same_upd_new hD (s2.trans s4), vs ++ [v], upd_same, ?_⟩
    · rw [dpa_len dv, List.length_take]
      refine Nat.lt_of_le_of_lt (Nat.min_le_left _ _) (Nat.lt_of_lt_of_le hlt (Nat.le_trans hz ?_))
      rw [sizeLine_eq]
      decide
    · rw [List.take_add_one, ey]
      exact dpa_app (dpam hid_upd (dpam (hid_same s4) dv)) (.cons (dpm hid_upd d4) .nil)
  · have e : i = items.length := by omega
    subst e
    refine .inl ⟨stop, ?_⟩
    rw [List.take_of_length_le (by omega)] at dv
    exact k D vs H2 (s1.trans s2) (s1.free hD) hv (dpam (hid_more fun b h => ads_omD.mpr (List.mem_cons.mp h)) dv)
/-- [elt for tg in iter] -/
def tBlk (X : Cx) (scope : Scope) (elt : Expr) : TE := fun σ H Q => ∀ (s : Shared) (H0 : Hp) (C : Addr) (cl : List (Str × Addr)) (fp : List Addr), wpe (X.blk s H0 scope (compEnvC scope cl C X.env) fp) elt σ H Q
theorem pe_blk {scope : Scope} {elt : Expr} (s : Shared) (H0 : Hp) (C : Addr) (cl : List (Str × Addr)) (fp : List Addr) : PE (X.blk s H0 scope (compEnvC scope cl C X.env) fp) elt (tBlk X scope elt) := ⟨fun pins s' σ H Q I h => pe_w.run pins s' σ H Q I (h s H0 C cl fp)⟩
theorem pn_lc {elt : Expr} {scope : Scope} {y : Str} {j : Nat} {items ys : List PyData} (hc : X.calm = true) (hN : X.N.Nodup) (hw : PWs X δ ω tg iter items) (hl : ys.length = items.length) (ok : BlkOk X.N X.env.scope scope [(y, j)])
    (hg : ∀ (s : Shared) (H : Hp) (C : Addr) (cl : List (Str × Addr)) (fp : List Addr), PG (X.blk s H scope (compEnvC scope cl C X.env) fp) tg (gName j))
    (he : ∀ (i : Nat) (d y : PyData), items[i]? = some d → ys[i]? = some y → ∀ D o (s : Shared) (H : Hp) (C : Addr) (cl : List (Str × Addr)) (fp : List Addr), PD (X.blk s H scope (compEnvC scope cl C X.env) fp) (δ.set j (some (.im d))) (omD ω D o) elt y)
    (hz : items.length ≤ 10000) (hs : ∀ x, foldedSetIterable iter X.env x = pure x := by intro _; rfl) : PN X δ ω (.ListComp elt [⟨tg, iter, [], 0⟩] scope pos) ys := fun σ H rl Q k => by
  obtain ⟨wi, h1, h2⟩ := hw
  refine we (pe_lc (own := [(y, j)]) hc hN h1 ok hg (fun _ _ _ _ _ => pts_nil) (fun s H0 C cl fp => pe_blk s H0 C cl fp) hs) ?_
  exact lc_data rl (fun R kk => h2 σ H rl R kk) hl hz (fun i d y hd hy D o σ' H' rl' Q' k' s H0 C cl fp => he i d y hd hy D o s H0 C cl fp σ' H' rl' Q' k') k
end
end FP

namespace FP
open PySem PySem.Spec PyProof.Rows L2
/-! ### statements -/
abbrev osA (ω : Om) : List Addr := ω.os.map (·.1)
structure Stp (T : List (Addr × Str)) (ω ω' : Om) (H H' : Hp) : Prop where
  keep : ∀ b o, H b = some o → b ∉ osA ω → Pt T o → H' b = some o
  new : ∀ a, a ∈ osA ω' → a ∈ osA ω ∨ ∀ o, H a = some o → ¬ Pt T o
  ps : ω'.ps = ω.ps
  tab : LamX.Tabs T H → LamX.Tabs T H'
theorem Stp.of {T : List (Addr × Str)} {ω : Om} {H H' : Hp} (s : Same H H') : Stp T ω ω H H' := ⟨fun b o h _ _ => s b o h, fun a h => .inl h, rfl, fun t => t.ext s⟩
theorem Stp.refl {T : List (Addr × Str)} {ω : Om} {H : Hp} : Stp T ω ω H H := .of (Same.refl H)
theorem Stp.trans {T : List (Addr × Str)} {ω ω1 ω2 : Om} {H H1 H2 : Hp} (a : Stp T ω ω1 H H1) (b : Stp T ω1 ω2 H1 H2) : Stp T ω ω2 H H2 := by
  refine ⟨fun c o h n p => ?_, fun c h => ?_, b.ps.trans a.ps, fun t => b.tab (a.tab t)⟩
  · refine b.keep c o (a.keep c o h n p) (fun z => ?_) p
    rcases a.new c z with q | q
    · exact n q
    · exact q o h p
  · rcases b.new c h with q | q
    · exact a.new c q
    · by_cases hc : c ∈ osA ω
      · exact .inl hc
      · exact .inr fun o h p => q o (a.keep c o h hc p) p
/-- what was seen is seen behind a step -/
theorem Stp.seen {T : List (Addr × Str)} {ω ω' : Om} {H H' : Hp} (s : Stp T ω ω' H H') : Ke T (hid (ads ω) H) (hid (ads ω') H') := fun b o h p => by
  obtain ⟨n, e⟩ := hid_out h
  have n2 : b ∉ osA ω := fun z => n (List.mem_append_right _ z)
  refine hid_of (fun z => ?_) (s.keep b o e n2 p)
  rcases List.mem_append.mp z with q | q
  · rw [s.ps] at q
    exact n (List.mem_append_left _ q)
  · rcases s.new b q with q | q
    · exact n2 q
    · exact q o e p
inductive Out where
  | nx (δ : De) (ω : Om)
  | rt (r : Sd) (ω : Om)
  | ex (C : Addr) (ω : Om)
  | bk (δ : De) (ω : Om)
  | ct (δ : De) (ω : Om)
structure Kt (X : Cx) (W : WX) (T : List (Addr × Str)) (ω : Om) (H : Hp) (D : Ends) (R : Out → Prop) : Prop where
  nx : ∀ δ' ω' σ' H', R (.nx δ' ω') → Stp T ω ω' H H' → Rl X.K H' σ' δ' ω' → D.nx σ' H'
  rt : ∀ r ω' v H', R (.rt r ω') → Stp T ω ω' H H' → Ro X.K H' ω' → SdV X.K (hid (ads ω') H') r v → D.rt v H'
  ex : ∀ C ω' σ' H', R (.ex C ω') → Stp T ω ω' H H' → Ro X.K H' ω' → W (.ref C) none σ' H'
  bk : ∀ δ' ω' σ' H', R (.bk δ' ω') → Stp T ω ω' H H' → Rl X.K H' σ' δ' ω' → D.bk σ' H'
  ct : ∀ δ' ω' σ' H', R (.ct δ' ω') → Stp T ω ω' H H' → Rl X.K H' σ' δ' ω' → D.ct σ' H'
theorem Kt.step {X : Cx} {W : WX} {T : List (Addr × Str)} {ω ω1 : Om} {H H1 : Hp} {D : Ends} {R : Out → Prop} (k : Kt X W T ω H D R) (s : Stp T ω ω1 H H1) : Kt X W T ω1 H1 D R :=
  ⟨fun δ' ω' σ' H' r q l => k.nx δ' ω' σ' H' r (s.trans q) l, fun r ω' v H' h q l z => k.rt r ω' v H' h (s.trans q) l z, fun C ω' σ' H' h q l => k.ex C ω' σ' H' h (s.trans q) l, fun δ' ω' σ' H' r q l => k.bk δ' ω' σ' H' r (s.trans q) l, fun δ' ω' σ' H' r q l => k.ct δ' ω' σ' H' r (s.trans q) l⟩
def S1 (X : Cx) (W : WX) (T : List (Addr × Str)) (st : Stmt) (δ : De) (ω : Om) (R : Out → Prop) : Prop := ∀ σ H D, Rl X.K H σ δ ω → LamX.Tabs T H → Kt X W T ω H D R → wps X st D σ H
def SD (X : Cx) (W : WX) (T : List (Addr × Str)) (ss : List Stmt) (δ : De) (ω : Om) (R : Out → Prop) : Prop := ∀ σ H D, Rl X.K H σ δ ω → LamX.Tabs T H → Kt X W T ω H D R → wpss X ss D σ H
/-- an expression that may write, or raise -/
def EX (X : Cx) (W : WX) (T : List (Addr × Str)) (e : Expr) (δ : De) (ω : Om) (R : Out → Prop) : Prop := ∀ σ H, Rl X.K H σ δ ω → LamX.Tabs T H → ∀ Q : VK,
  (∀ r ω' v H', R (.rt r ω') → Stp T ω ω' H H' → Rl X.K H' σ δ ω' → SdV X.K (hid (ads ω') H') r v → Q v H') → (∀ C ω' σ' H', R (.ex C ω') → Stp T ω ω' H H' → Ro X.K H' ω' → W (.ref C) none σ' H') → wpe X e σ H Q
/-- then the rest -/
def Nxt (X : Cx) (W : WX) (T : List (Addr × Str)) (ss : List Stmt) (R : Out → Prop) : Out → Prop
  | .nx δ ω => SD X W T ss δ ω R
  | o => R o
/-- the value goes to what follows -/
def Val1 (V : Sd → Om → Prop) (R : Out → Prop) : Out → Prop
  | .rt r ω => V r ω
  | .ex C ω => R (.ex C ω)
  | _ => False
section
variable {X : Cx} {W : WX} {T : List (Addr × Str)} {δ : De} {ω : Om} {a b c e tg iter : Expr} {es r : List Expr} {d da db dc dz : PyData} {ds : List PyData} {pos p : Pos} {k : Nat} {x : Str} {R : Out → Prop} {st : Stmt} {ss sa sb : List Stmt}
theorem sd_nil (h : R (.nx δ ω)) : SD X W T [] δ ω R := fun σ H D rl t k => wss pss_nil (k.nx δ ω σ H h .refl rl)
theorem sd_cons (h : S1 X W T st δ ω (Nxt X W T ss R)) : SD X W T (st :: ss) δ ω R := fun σ H D rl t k =>
  wss (pss_cons ps_w pss_w) (h σ H _ rl t ⟨fun δ' ω' σ' H' z q l => z σ' H' D l (q.tab t) (k.step q), k.rt, k.ex, k.bk, k.ct⟩)
theorem PD.ex (h : PD X δ ω e d) (hR : R (.rt (.im d) ω)) : EX X W T e δ ω R := fun σ H rl t Q q _ => h σ H rl Q fun v H' s dv => q _ ω v H' hR (.of s) (rl.mono s) dv
theorem s1_set (i : Nat) {x : Str} {pos' : Pos} (he : EX X W T e δ ω (Val1 (fun r ω' => R (.nx (δ.set i (some r)) ω')) R)) (hN : X.N.Nodup) (hi : X.N[i]? = some x := by rfl) (hx : Loc X.env.scope x := by first | exact Or.inl rfl | exact Or.inr rfl) (hs : swapsWith e (some (.Name x pos')) pos.line X.env = pure false := by rfl)
    (hf : X.fn x = true ∨ X.env.scope.names.lookup x = some .local := by first | exact .inl rfl | exact .inr rfl | assumption) : S1 X W T (.Assign [.Name x pos'] e pos) δ ω R := fun σ H D rl t k =>
  ws (ps_set hN hi hx pe_w hs hf) (he σ H rl t _ (fun r ω' v H' z q l dv => k.nx _ ω' _ H' z q (l.set dv)) (fun C ω' σ' H' z q l => k.ex C ω' σ' H' z q l))
theorem sd_set (i : Nat) {x : Str} {pos' : Pos} (he : PD X δ ω e d) (hk : SD X W T ss (δ.set i (some (.im d))) ω R) (hN : X.N.Nodup) (hi : X.N[i]? = some x := by rfl) (hx : Loc X.env.scope x := by first | exact Or.inl rfl | exact Or.inr rfl) (hs : swapsWith e (some (.Name x pos')) pos.line X.env = pure false := by rfl)
    (hf : X.fn x = true ∨ X.env.scope.names.lookup x = some .local := by first | exact .inl rfl | exact .inr rfl | assumption) : SD X W T (.Assign [.Name x pos'] e pos :: ss) δ ω R :=
  sd_cons (s1_set i (he.ex (show Val1 _ _ _ from hk)) hN hi hx hs hf)
/-- a new list of one's own -/
theorem sd_own (i : Nat) {x : Str} {pos' : Pos} (he : PN X δ ω e ds) (hk : ∀ D, SD X W T ss (δ.set i (some (.ad D))) (omD ω D (.lst (ds.map .im))) R) (hN : X.N.Nodup) (hi : X.N[i]? = some x := by rfl) (hx : Loc X.env.scope x := by first | exact Or.inl rfl | exact Or.inr rfl) (hs : swapsWith e (some (.Name x pos')) pos.line X.env = pure false := by rfl)
    (hf : X.fn x = true ∨ X.env.scope.names.lookup x = some .local := by first | exact .inl rfl | exact .inr rfl | assumption) : SD X W T (.Assign [.Name x pos'] e pos :: ss) δ ω R :=
  sd_cons fun σ H D rl t k => ws (ps_set hN hi hx pe_w hs hf) (he σ H rl _ fun q vs H' s n hv dv => by
    have nq := new_out rl.ro.there n
    have rl2 : Rl X.K H' σ δ (omD ω q (.lst (ds.map .im))) := rl.omD n s hv (dpam (hid_more fun b h => List.mem_cons.mpr (ads_omD.mp h)) dv)
    exact k.nx _ _ _ H' (hk q) ⟨fun b o h _ _ => s b o h, fun a h => by
      rcases List.mem_cons.mp (show a ∈ q :: ω.os.map (·.1) from h) with z | z
      · exact .inr fun o ho => by
          rw [z, n] at ho
          cases ho
      · exact .inl z, rfl, fun t => t.ext s⟩ (rl2.set (x := .ad q) (v := .ref q) rfl))
/-- x = [elt for tg in iter], on one line, x a local -/
theorem sd_setLc (i : Nat) {x : Str} {py cpos : Pos} {elt : Expr} {scope : Scope} {y : Str} {j : Nat} {items ys : List PyData} (hc : X.calm = true) (hN : X.N.Nodup) (hw : PWs X δ ω tg iter items) (hl : ys.length = items.length) (ok : BlkOk X.N X.env.scope scope [(y, j)])
    (hg : ∀ (s : Shared) (H : Hp) (C : Addr) (cl : List (Str × Addr)) (fp : List Addr), PG (X.blk s H scope (compEnvC scope cl C X.env) fp) tg (gName j))
    (he : ∀ (i : Nat) (d y : PyData), items[i]? = some d → ys[i]? = some y → ∀ D o (s : Shared) (H : Hp) (C : Addr) (cl : List (Str × Addr)) (fp : List Addr), PD (X.blk s H scope (compEnvC scope cl C X.env) fp) (δ.set j (some (.im d))) (omD ω D o) elt y)
    (hz : items.length ≤ 10000) (hsw : swapsWith (.ListComp elt [⟨tg, iter, [], 0⟩] scope cpos) (some (.Name x py)) pos.line X.env = pure true) (hk : SD X W T ss (δ.set i (some (.im (.list ys)))) ω R)
    (hy : X.N[i]? = some x := by rfl) (hyl : X.env.scope.names.lookup x = some .local := by rfl) (hs : ∀ x, foldedSetIterable iter X.env x = pure x := by intro _; rfl) : SD X W T (.Assign [.Name x py] (.ListComp elt [⟨tg, iter, [], 0⟩] scope cpos) pos :: ss) δ ω R := by
  obtain ⟨wi, h1, h2⟩ := hw
  refine sd_cons fun σ H D rl t k => ws (ps_setLc (i := i) (own := [(y, j)]) hc hN hy hyl hsw h1 ok hg (fun _ _ _ _ _ => pts_nil) (fun s H0 C cl fp => pe_blk s H0 C cl fp) hs) ?_
  refine lc_data rl (fun R kk => h2 σ H rl R kk) hl hz (fun i d y hd hy D o σ' H' rl' Q' k' s H0 C cl fp => he i d y hd hy D o s H0 C cl fp σ' H' rl' Q' k') (fun p vs H' s n hv dv => ?_)
  exact k.nx _ ω _ H' hk (.of s) ((rl.mono s).set (x := .im (.list ys)) (v := .ref p) (.lst (SqL.of (hid_of (new_out rl.ro.there n) hv)) (dpam hid_cons dv)))
theorem sd_ret (he : PD X δ ω e d) (hR : R (.rt (.im d) ω)) : SD X W T (.Return (some e) pos :: ss) δ ω R :=
  sd_cons fun σ H D rl t k => ws (ps_ret pe_w) (he σ H rl _ fun v H' s dv => k.rt _ ω v H' hR (.of s) (rl.ro.mono s) dv)
theorem sd_retX (he : EX X W T e δ ω R) : SD X W T (.Return (some e) pos :: ss) δ ω R :=
  sd_cons fun σ H D rl t k => ws (ps_ret pe_w) (he σ H rl t _ (fun r ω' v H' z q l dv => k.rt r ω' v H' z q l.ro dv) (fun C ω' σ' H' z q l => k.ex C ω' σ' H' z q l))
/-- a list of one's own is handed back -/
theorem sd_retL (he : PL X δ ω e ds) (hR : R (.rt (.im (.list ds)) ⟨ω.ps, []⟩)) (hps : ∀ p vs H, Ro X.K H ω → SqL X.K H p vs → SqL X.K (hid ω.ps H) p vs) : SD X W T (.Return (some e) pos :: ss) δ ω R :=
  sd_cons fun σ H D rl t k => ws (ps_ret pe_w) (he σ H rl _ fun q vs H' s hv dv => k.rt _ ⟨ω.ps, []⟩ (.ref q) H' hR ⟨fun b o h _ _ => s b o h, fun a h => (List.not_mem_nil h).elim, rfl, fun t => t.ext s⟩ (Ro.nil (there_mono rl.ro.th s)) (by
    show Dp X.K (hid (ads ⟨ω.ps, []⟩) H') (.ref q) (.list ds)
    rw [ads_nil]
    exact .lst (hps q vs H' (rl.ro.mono s) hv) (dpam (hid_more fun b h => List.mem_append_left _ h) dv)))
theorem sd_expr (he : PD X δ ω e d) (hk : SD X W T ss δ ω R) (hs : swapsWith e none pos.line X.env = pure false := by rfl) : SD X W T (.Expr e pos :: ss) δ ω R :=
  sd_cons fun σ H D rl t k => ws (ps_expr pe_w hs) (he σ H rl _ fun v H' s dv => k.nx δ ω σ H' hk (.of s) (rl.mono s))
theorem sd_exprX (he : EX X W T e δ ω (Val1 (fun _ ω' => SD X W T ss δ ω' R) R)) (hs : swapsWith e none pos.line X.env = pure false := by rfl) : SD X W T (.Expr e pos :: ss) δ ω R :=
  sd_cons fun σ H D rl t k => ws (ps_expr pe_w hs) (he σ H rl t _ (fun r ω' v H' z q l dv => k.nx δ ω' σ H' z q l) (fun C ω' σ' H' z q l => k.ex C ω' σ' H' z q l))
theorem sd_setX (i : Nat) {x : Str} {pos' : Pos} (he : EX X W T e δ ω (Val1 (fun r ω' => SD X W T ss (δ.set i (some r)) ω' R) R)) (hN : X.N.Nodup) (hi : X.N[i]? = some x := by rfl) (hx : Loc X.env.scope x := by first | exact Or.inl rfl | exact Or.inr rfl) (hs : swapsWith e (some (.Name x pos')) pos.line X.env = pure false := by rfl)
    (hf : X.fn x = true ∨ X.env.scope.names.lookup x = some .local := by first | exact .inl rfl | exact .inr rfl | assumption) : SD X W T (.Assign [.Name x pos'] e pos :: ss) δ ω R :=
  sd_cons (s1_set i (fun σ H rl t Q q q2 => he σ H rl t Q (fun r ω' v H' z => q r ω' v H' z) (fun C ω' σ' H' z => q2 C ω' σ' H' z)) hN hi hx hs hf)
theorem sd_if {kk : Bool} (h : PTd X δ ω c kk) (h1 : kk = true → SD X W T sa δ ω (Nxt X W T ss R)) (h2 : kk = false → SD X W T sb δ ω (Nxt X W T ss R)) : SD X W T (.If c sa sb pos :: ss) δ ω R :=
  sd_cons fun σ H D rl t k => ws (ps_if pt_w pss_w pss_w) (h σ H rl _ fun H' s => by
    cases kk with
    | true => exact iteT (h1 rfl σ H' D (rl.mono s) (t.ext s) (k.step (.of s)))
    | false => exact iteF (h2 rfl σ H' D (rl.mono s) (t.ext s) (k.step (.of s))))
theorem sd_ifF (h : PTd X δ ω c false) (h2 : SD X W T ss δ ω R) : SD X W T (.If c sa [] pos :: ss) δ ω R := sd_if h (fun z => by cases z) fun _ => sd_nil h2
theorem sd_ifT (h : PTd X δ ω c true) (h1 : SD X W T sa δ ω (Nxt X W T ss R)) : SD X W T (.If c sa sb pos :: ss) δ ω R := sd_if h (fun _ => h1) fun z => by cases z
/-- both ways come together -/
def Jn (J : De → Om → Prop) (R : Out → Prop) : Out → Prop
  | .nx δ ω => J δ ω
  | o => R o
theorem SD.imp {R' : Out → Prop} (h : SD X W T ss δ ω R') (hi : ∀ o, R' o → R o) : SD X W T ss δ ω R := fun σ H D rl t k =>
  h σ H D rl t ⟨fun δ' ω' σ' H' z => k.nx δ' ω' σ' H' (hi _ z), fun r ω' v H' z => k.rt r ω' v H' (hi _ z), fun C ω' σ' H' z => k.ex C ω' σ' H' (hi _ z), fun δ' ω' σ' H' z => k.bk δ' ω' σ' H' (hi _ z), fun δ' ω' σ' H' z => k.ct δ' ω' σ' H' (hi _ z)⟩
theorem sd_ifJ {kk : Bool} (J : De → Om → Prop) (h : PTd X δ ω c kk) (h1 : kk = true → SD X W T sa δ ω (Jn J R)) (h2 : kk = false → SD X W T sb δ ω (Jn J R)) (hk : ∀ δ' ω', J δ' ω' → SD X W T ss δ' ω' R) : SD X W T (.If c sa sb pos :: ss) δ ω R := by
  have im : ∀ o, Jn J R o → Nxt X W T ss R o := fun o z => by
    cases o with
    | nx δ' ω' => exact hk δ' ω' z
    | _ => exact z
  exact sd_if h (fun e => (h1 e).imp im) (fun e => (h2 e).imp im)
/-- a, b, .. = a tuple -/
def setAll : De → List Nat → List PyData → De
  | δ, i :: is, d :: ds => setAll (δ.set i (some (.im d))) is ds
  | δ, _, _ => δ
def gAll : List Nat → TGs
  | [] => gNil
  | i :: is => gCons (gName i) (gAll is)
theorem gAll_ok {K : PySem.W.Frag} {H : Hp} {ω : Om} {Q : L2.St → Hp → Prop} : ∀ {is : List Nat} {ds : List PyData} {vs : List V} {σ : L2.St} {δ : De}, Rl K H σ δ ω → DpAll K (hid (ads ω) H) vs ds → is.length = ds.length → (∀ σ', Rl K H σ' (setAll δ is ds) ω → Q σ' H) → gAll is vs σ H Q
  | [], [], _, σ, δ, rl, .nil, _, k => ⟨rfl, k σ rl⟩
  | i :: is, d :: ds, v :: vs, σ, δ, rl, .cons h1 h2, hl, k => ⟨v, vs, rfl, gAll_ok (rl.set (x := .im d) h1) h2 (Nat.succ.inj hl) k⟩
theorem sd_unp (is : List Nat) {ts : List Expr} {n kk : Nat} {p' : Pos} (he : PD X δ ω e (.tuple ds)) (hg : PG X (.Tuple ts kk p') (gTup X.K n (gAll is))) (hn : ds.length = n) (hi : is.length = n) (hk : SD X W T ss (setAll δ is ds) ω R)
    (hs : swapsWithSole [.Tuple ts kk p'] e pos.line X.env = pure false := by rfl) (hw : swappedStores [.Tuple ts kk p'] e X.env = pure none := by rfl) : SD X W T (.Assign [.Tuple ts kk p'] e pos :: ss) δ ω R :=
  sd_cons fun σ H D rl t k => ws (ps_asg pe_w hg hs hw) (he σ H rl _ fun v H' s dv => by
    cases dv with
    | tup h1 h2 => exact ⟨_, _, rfl, same_sqt hid_sub h1, by rw [dpa_len h2]; exact hn, gAll_ok (rl.mono s) h2 (hi.trans hn.symm) fun σ' l => k.nx _ ω σ' H' hk (.of s) l⟩)
/-- x.append(e), x the list of one's own that was made last -/
theorem sd_app (i : Nat) {x : Str} {p1 apos cpos : Pos} {D : Addr} {xs : List PyData} (he : PD X δ (omD ω D (.lst (xs.map .im))) e d) (hk : SD X W T ss δ (omD ω D (.lst ((xs ++ [d]).map .im))) R) (hz : xs.length < 10000)
    (hd : δ[i]? = some (some (.ad D)) := by rfl) (hN : X.N[i]? = some x := by rfl) (hv : Vis X.env.scope x := by first | exact Or.inl rfl | exact Or.inr (Or.inl rfl) | exact Or.inr (Or.inr rfl))
    (h1 : (x == ("__debug__" : Str)) = false := by decide) (h2 : (x == ("__classdict__" : Str)) = false := by decide)
    (hs : swapsWith (.Call (.Attribute (.Name x p1) "append" apos) [e] [] cpos) none pos.line X.env = pure false := by rfl)
    (hbase : attributeBase (.Name x p1) "append" X.env (eval (.Name x p1) X.env) = eval (.Name x p1) X.env := by rfl)
    (hfew : ((backTo cpos (starEach [e] X.env)).all (fun x => !x.1) && (backToKw cpos (keywordEach [] X.env)).all (fun x => x.1.isSome)
      && decide (([e] : List Expr).length + ([] : List Keyword).length + (if ([] : List Keyword).isEmpty then 0 else 1) < 30)) = true := by rfl)
    (hline : (apos.endLine == cpos.line) = true := by rfl) (hst : starEach [e] X.env = (false, eval e X.env) :: starEach [] X.env := by rfl) :
    SD X W T (.Expr (.Call (.Attribute (.Name x p1) "append" apos) [e] [] cpos) pos :: ss) δ (omD ω D (.lst (xs.map .im))) R :=
  sd_cons fun σ H Dd rl t k => by
    obtain ⟨v, e1, e2⟩ := rl.sl i _ hd
    have e2 : v = .ref D := e2
    subst e2
    obtain ⟨vs, e3, e4⟩ := rl.ro.ob D _ List.mem_cons_self
    refine ws (ps_expr (pe_bm PySem.F.plainAttrs_list PySem.F.slot_list_append PySem.F.type_list_append mt_append (pe_var hN hv h1 h2) (pa_cons pe_w pa_nil hst) hbase hfew hline hst) hs) ⟨_, e1, .inl ⟨rfl, vs, SqL.of e3⟩, ?_⟩
    refine he σ H rl _ fun y H1 s1 d1 => ⟨D, vs, y, rfl, rfl, s1 D _ e3, ?_, ?_⟩
    · rw [dpa_len (dpa_im e4)]
      exact Nat.lt_of_lt_of_le hz (by rw [sizeLine_eq]; decide)
    · have rl1 := rl.mono s1
      have hh : Same (hid (ads (omD ω D (.lst (xs.map .im)))) H1) (hid (ads (omD ω D (.lst ((xs ++ [d]).map .im)))) (upd H1 D (.lst (vs ++ [y])))) := hid_upd
      refine k.nx δ _ σ _ hk ⟨fun b o h n _ => ?_, fun a h => .inl h, rfl, fun t => ?_⟩ ⟨rl1.len, fun j r h => ?_, ?_, rl1.ro.nd, fun a h z => ?_⟩
      · have nb : b ≠ D := fun z => n (by rw [z]; exact List.mem_cons_self)
        rw [upd_ne nb]
        exact s1 b o h
      · have t1 := t.ext s1
        intro q hq
        obtain ⟨ps, a1, a2, a3⟩ := t1 q hq
        have e5 : H1 D = some (.lst vs) := s1 D _ e3
        refine ⟨ps, by rw [upd_ne (ne_of a1 e5 (by intro z; cases z))]; exact a1, a2, fun p' cv hc => ?_⟩
        obtain ⟨c0, b1, b2⟩ := a3 p' cv hc
        refine ⟨c0, b1, by rw [upd_ne (ne_of b2 e5 (by intro z; unfold LamX.CodeO at z; cases z))]; exact b2⟩
      · obtain ⟨v, h1, h2⟩ := rl1.sl j r h
        exact ⟨v, h1, sdv_mono hh h2⟩
      · intro a o h
        rcases List.mem_cons.mp h with q | q
        · cases q
          exact ⟨vs ++ [y], upd_same, im_dpa (dpa_app (dpam hh (dpam (hid_same s1) (dpa_im e4))) (.cons (dpm hh d1) .nil))⟩
        · have na : a ≠ D := fun z => by
            have nd := rl1.ro.nd
            have nd2 : (D :: ω.os.map (·.1)).Nodup := nd
            exact (List.nodup_cons.mp nd2).1 (List.mem_map.mpr ⟨(a, o), q, z⟩)
          have g := rl1.ro.ob a o (List.mem_cons_of_mem _ q)
          exact odv_keep (fun w => sdv_mono hh w) (fun u _ g1 => by rw [upd_ne na]; exact g1) g
      · have hn := rl1.ro.th a h
        by_cases za : a = D
        · rw [za, upd_same] at z
          cases z
        · rw [upd_ne za] at z
          exact hn z
/-- what follows a turn -/
def Turn1 (inv : Nat → De → Om → Prop) (i : Nat) (B R : Out → Prop) : Out → Prop
  | .nx δ ω => inv (i + 1) δ ω
  | .ct δ ω => inv (i + 1) δ ω
  | .bk δ ω => B (.nx δ ω)
  | o => R o
theorem sd_for (j : Nat) {items : List PyData} (inv : Nat → De → Om → Prop) (hw : PWk X δ ω tg iter items) (h0 : inv 0 δ ω)
    (hb : ∀ i d δ' ω', items[i]? = some d → inv i δ' ω' → SD X W T sa (δ'.set j (some (.im d))) ω' (Turn1 inv i (Nxt X W T ss R) R))
    (hd : ∀ δ' ω', inv items.length δ' ω' → SD X W T ss δ' ω' R) (hg : PG X tg (gName j)) (hp : PassesOwn (model X.prog X.w) X.A X.env X.xe) (hc : X.calm = true) (hs : ∀ x, foldedSetIterable iter X.env x = pure x := by intro _; rfl) : SD X W T (.For tg iter sa [] pos :: ss) δ ω R := by
  obtain ⟨wi, h1, h2⟩ := hw
  refine sd_cons fun σ H D rl t k => ws (ps_for hp hc h1 hg pss_w hs) (h2 σ H rl _ fun J H1 s1 w => ?_)
  refine ⟨fun i m σ' H' => ∃ δ' ω', m = items.length - i ∧ i ≤ items.length ∧ inv i δ' ω' ∧ Stp T ω ω' H1 H' ∧ Rl X.K H' σ' δ' ω', ⟨items.length, δ, ω, by omega, Nat.zero_le _, h0, .refl, rl.mono s1⟩, ?_⟩
  rintro i m σ' H' ⟨δ', ω', em, hi, iv, st, rl'⟩
  obtain ⟨go, stop, yld⟩ := w T H' (fun b o z p => (hid_out (st.seen b o z p)).2)
  have k1 := k.step (Stp.of s1 : Stp T ω ω H H1)
  by_cases hlt : i < items.length
  · refine .inr ⟨go i hlt, fun σ2 H2 => ∃ δ2 ω2, inv (i + 1) δ2 ω2 ∧ Stp T ω ω2 H1 H2 ∧ Rl X.K H2 σ2 δ2 ω2, fun σ2 H2 ⟨δ2, ω2, a1, a2, a3⟩ => ⟨items.length - (i + 1), by omega, δ2, ω2, rfl, hlt, a1, a2, a3⟩, fun x H2 hy => ?_⟩
    obtain ⟨e2, d, ed, dx⟩ := yld i x H2 hlt hy
    subst e2
    refine hb i d δ' ω' ed iv _ _ _ (rl'.set (x := .im d) (dp_ke st.seen d x dx)) (st.tab (t.ext s1)) ?_
    have k2 := k1.step st
    exact ⟨fun δ2 ω2 σ2 H2 z q l => ⟨δ2, ω2, z, st.trans q, l⟩, fun r ω2 v H2 z q l dv => k2.rt r ω2 v H2 z q l dv, fun C ω2 σ2 H2 z q l => k2.ex C ω2 σ2 H2 z q l, fun δ2 ω2 σ2 H2 z q l => k2.nx δ2 ω2 σ2 H2 z q l, fun δ2 ω2 σ2 H2 z q l => ⟨δ2, ω2, z, st.trans q, l⟩⟩
  · have e : i = items.length := by omega
    subst e
    exact .inl ⟨stop, (k1.step st).nx δ' ω' σ' H' (hd δ' ω' iv) .refl rl'⟩
/-- a call that may raise -/
theorem ex_call {fr : List PyData → Rs → Prop} {rr : Rs} (G : DefOk X.prog X.w X.K X.mg X.base k x fr) (hr : Room k X.A) (tk : L2N.Takes X W) (ha : PDs X δ ω (a :: es) ds) (hf : fr ds rr) (hR : match rr with | .ok d => R (.rt (.im d) ω) | .er C => R (.ex C ω)) (hg : Gl X x := by rfl)
    (hdb : (x == ("__debug__" : Str)) = false := by decide) (he : starEach (a :: es) X.env = (false, eval a X.env) :: starEach es X.env := by rfl) (hpl : (backTo pos (starEach es X.env)).any (·.1) = false := by rfl) : EX X W T (.Call (.Name x p) (a :: es) [] pos) δ ω R := fun σ H rl t Q q q2 => by
  obtain ⟨f, fd, ps, F, m, kp, b⟩ := G.ex
  refine we (pe_callS (E := WE W) F hr hg m kp b (fun σ => L2N.passAt tk σ) pa_w hdb he hpl) (ha σ H rl _ fun vs H1 s1 d1 => ?_)
  refine ⟨ads ω, ds, rr, there_mono rl.ro.there s1, d1, hf, ?_⟩
  cases rr with
  | ok d => exact fun v H' s' d' => q _ ω v H' hR (.of (s1.trans s')) (rl.mono (s1.trans s')) d'
  | er C => exact fun H' s' => q2 C ω σ H' hR (.of (s1.trans s')) (rl.ro.mono (s1.trans s'))
/-! ### a def -/
def startD (N : List Str) (ds : List PyData) : De := ds.map (fun d => some (.im d)) ++ List.replicate (N.length - ds.length) none
theorem start_rl {K : PySem.W.Frag} {H : Hp} {ps : List Addr} {N : List Str} {vs : List V} (h : DpAll K (hid ps H) vs ds) (hp : ∀ a ∈ ps, H a ≠ none) : Rl K H (L2.start N vs) (startD N ds) ⟨ps, []⟩ := by
  have hl := dpa_len h
  refine ⟨?_, fun i r hi => ?_, Ro.nil hp⟩
  · unfold L2.start startD
    rw [List.length_append, List.length_append, List.length_map, List.length_map, List.length_replicate, List.length_replicate, hl]
  · rw [ads_nil]
    unfold startD at hi
    by_cases hlt : i < ds.length
    · rw [List.getElem?_append_left (by rw [List.length_map]; exact hlt), List.getElem?_map, List.getElem?_eq_getElem hlt] at hi
      cases hi
      obtain ⟨v, h1, h2⟩ := dpa_get h (List.getElem?_eq_getElem hlt)
      refine ⟨v, ?_, h2⟩
      unfold L2.start
      rw [List.getElem?_append_left (by rw [List.length_map, hl]; exact hlt), List.getElem?_map, h1]
      rfl
    · rw [List.getElem?_append_right (by rw [List.length_map]; omega)] at hi
      have := List.getElem?_eq_some_iff.mp hi
      obtain ⟨h1, h2⟩ := this
      rw [List.getElem_replicate] at h2
      cases h2
def Fin (r : Rs) : Out → Prop
  | .rt (.im d) _ => r = .ok d
  | .nx _ _ => r = .ok .none
  | .ex C _ => r = .er C
  | _ => False
abbrev WOf (E : XK) : WX := fun cls d _ H => E cls d H
theorem def_ok {P : Program} {w : World} {K : PySem.W.Frag} {mg : Str → Option Value} {base : Heap} {x qual : Str} {params : Arguments} {body : List Stmt} {scope : Scope} {kws : List (Str × V)} {f : Addr} {fd : FuncData} {N ps : List Str} {k : Nat} {fr : List PyData → Rs → Prop}
    (F : FunD K x qual params body scope [] kws f fd) (hm : mg x = some (.ref f)) (S : FnScope N ps scope) (hb : ∀ (kV doc pm : Value) (an : Option Addr) (cdv ct : Value) (us : List Value), us.length = ps.length → bindArgs (PySem.W.fnOf x qual params body scope .none kV doc pm an cdv ct) ⟨us, []⟩ = pure (ps.zip us))
    (len : ∀ ds r, fr ds r → ds.length = ps.length)
    (hbody : ∀ (cdv : Value) (A : Around) (outer : List Env) (s : Shared) (H : Hp) (E : XK) (qs : List Addr) (ds : List PyData) (r : Rs), Room k (A.deeper (envOfC qual scope s.heap.objs.size f cdv)) → fr ds r →
      SD (cxOf (L2N.CX P w) P w K mg base N qual scope f cdv A outer s H E) (WOf E) [] body (startD N ds) ⟨qs, []⟩ (Fin r)) : DefOk P w K mg base (k + 1) x fr := by
  refine ⟨f, fd, ps, F.ok S (fun vs H Q E h => ?_) (fun cdv A outer s H vs Q E hr h => ?_), hm, F.kp, F.bindsN hb⟩
  · obtain ⟨qs, ds, r, _, h2, h3, _⟩ := h
    rw [dpa_len h2]
    exact len ds r h3
  · obtain ⟨qs, ds, r, h1, h2, h3, h4⟩ := h
    refine ⟨_, pss_w, hbody cdv A outer s H E qs ds r hr h3 _ _ _ (start_rl h2 h1) (fun _ z => nomatch z) ?_⟩
    have same : ∀ {ω' : Om} {H' : Hp}, Stp [] ⟨qs, []⟩ ω' H H' → Same H H' := fun st b o e => st.keep b o e (fun z => nomatch z) (.inl rfl)
    refine ⟨fun δ' ω' σ' H' z st l => ?_, fun r' ω' v H' z st l dv => ?_, fun C ω' σ' H' z st l => ?_, fun _ _ _ _ z => False.elim z, fun _ _ _ _ z => False.elim z⟩
    · have z : r = .ok .none := z
      subst z
      exact h4 .non H' (same st) .non
    · cases r' with
      | im d =>
        have z : r = .ok d := z
        subst z
        exact h4 v H' (same st) (dpm (hid_more fun b hb => List.mem_append_left _ (by rw [st.ps]; exact hb)) dv)
      | ad a => exact False.elim z
    · have z : r = .er C := z
      subst z
      exact h4 H' (same st)
end
end FP

namespace FP
open PySem PySem.Spec PyProof.Rows L2
/-- a tuple times a number below 2: itself by 1, else an empty one -/
def fewSpec (l : Addr) (o : Obj) (k : Int) : PySem.Spec := fun _ R s =>
  s.heap.get? l = some o ∧ (k = 1 → R (.ok (.ret (.ref l))) s) ∧
    (k ≠ 1 → R (.ok (.ret (.ref s.heap.objs.size))) { s with heap := s.heap.push { cls := .type "tuple", data := .seq #[] } })
theorem times_few {l : Addr} {its : Array Value} {n : Nat} {dd : Option Addr} {sl : Array (Option Value)} {k : Int} {t : Tok}
    (ne : its.isEmpty = false) (small : k ≤ 1) (low : -1000 ≤ k) :
    Meets (Builtin.«tuple.__mul__» ⟨[.ref l, .int k t], []⟩) (fewSpec l ⟨.type "tuple", dd, .seq its n, sl⟩ k) := by
  have inIx : ¬ ((decide (k < -(2 ^ 63)) || decide (k ≥ 2 ^ 63)) = true) := by
    rw [Bool.or_eq_true, decide_eq_true_iff, decide_eq_true_iff]
    omega
  have ix := AutoSeq1.idx_int
  refine .of_wp fun prog w A R ⟨hp, g, d, tk, os⟩ ⟨hl, same, new⟩ => ?_
  wp_walk using wpAny_loadPart' hl
  rw [if_neg inIx]
  wp_walk using wpAny_loadPart' hl
  by_cases e : k = 1
  · rw [if_pos (by rw [e, Bool.or_eq_true]; exact .inr rfl)]
    wp_walk using wpAny_loadPart' hl
    exact ⟨_, rfl, same e⟩
  · rw [if_neg (by rw [ne, Bool.false_or, beq_iff_eq]; exact e), if_pos (by rw [Bool.or_eq_true, decide_eq_true_iff]; omega)]
    wp_walk using wpAny_loadPart' hl
    exact ⟨_, rfl, new e⟩
/-- .. which is what the program's sign for it asks -/
theorem eval_few {prog : Program} {w : World} {A : Around} {Q E : Value → Shared → Prop} {s : Shared} {l : Addr} {its : Array Value} {n : Nat}
    {dd : Option Addr} {sl : Array (Option Value)} {k : Int} {t : Tok} (at_ : s.heap.get? l = some ⟨.type "tuple", dd, .seq its n, sl⟩)
    (ne : its.isEmpty = false) (small : k ≤ 1) (low : -1000 ≤ k) (same : k = 1 → Q (.ref l) s)
    (new : k ≠ 1 → Q (.ref s.heap.objs.size) { s with heap := s.heap.push { cls := .type "tuple", data := .seq #[] } }) :
    wpAny (model prog w) A (binaryOp .Mult (.ref l) (.int k t)) Q E s := by
  have isTup : s.TypeIs (.ref l) "tuple" := ⟨_, at_, rfl⟩
  have isInt := fun z : Shared => typeIs_int z k t
  have own : wpAny (model prog w) A (call (.builtin "tuple.__mul__") [.ref l, .int k t]) Q E s :=
    call_meets F.slot_tuple_mul isTup F.entry_tuple_mul (F.args_tuple_mul_2 _ _) (times_few ne small low) ⟨at_, same, new⟩
  have first := int_rmul_tuple k t l its n dd sl
  exact wpAny_binaryOp_repeat_ref (by decide) isTup isInt noFill_tuple_mul F.fills_int_mul F.slot_int_rmul repeat_tuple F.slot_int_index.lookup
    (call_meets F.slot_int_rmul (isInt s) F.entry_int_rmul (F.args_int_rmul_2 _ _) first ⟨at_, rfl, isTup, own⟩)

def rRepA (K : PySem.W.Frag) : R2 := fun x y H Q => ∃ l k xs, x = .ref l ∧ y = .int k ∧ SqT K H l xs ∧ xs ≠ [] ∧ -1000 ≤ k ∧ k ≤ 1000 ∧ xs.length ≤ 1000 ∧ (k = 1 → Q (.ref l) H) ∧ (k ≠ 1 → ∀ p, H p = none → Q (.ref p) (upd H p (.tup (List.replicate k.toNat xs).flatten)))
section
variable {X : Cx}
theorem op_repA : OpR X (binaryOp .Mult) (rRepA X.K) := by
  rintro pins s σ H x y v u Q I rx ry ⟨l, k, xs, rfl, rfl, tup, some, low, high, len, same, new⟩
  by_cases small : k ≤ 1
  case neg => exact op_repT pins s σ H _ _ v u Q I rx ry ⟨l, k, xs, rfl, rfl, tup, some, by omega, high, len, new (by omega)⟩
  cases rx
  rcases ry with ⟨t, rfl⟩
  rcases I.tuple tup with ⟨its, r, ⟨⟨c, dd, da, sl⟩, at_, isT, n, isS⟩, _⟩
  cases show c = _ from isT
  cases show da = _ from isS
  refine eval_few at_ ?_ small low (fun e => ⟨.ref l, H, I, rfl, same e⟩) fun e => ?_
  · match its, xs, r with
    | a :: b, _, _ => rfl
    | [], [], _ => exact absurd rfl some
  have none := new e
  rw [show k.toNat = 0 by omega] at none
  have I' := I.laid (t' := s.toks) (o := .tup []) (fun b o q => Heap.get?_push_of_some _ q) (Nat.le_refl _) ⟨Nat.zero_le _, [], .nil, IsTup.new _ _⟩
  exact ⟨.ref s.heap.objs.size, _, I', rfl, none _ (I.hok.fresh (Nat.le_refl _))⟩
/-- a text times an int -/
def rRepS : R2 := fun x y H Q => ∃ z k, x = .str z ∧ y = .int k ∧ -1000 ≤ k ∧ k ≤ 1000 ∧ z.length ≤ 1000 ∧ Q (.str ⟨(List.replicate k.toNat z.cps.toList).flatten.toArray⟩) H
theorem rep_foldl (a : Array Nat) : ∀ (m : Nat) (b : Array Nat), (List.foldl (fun x1 x2 => x1 ++ x2) b (List.replicate m a)) = b ++ (List.replicate m a.toList).flatten.toArray
  | 0, b => by simp
  | m + 1, b => by
    rw [List.replicate_succ, List.replicate_succ, List.foldl_cons, rep_foldl a m, List.flatten_cons]
    apply Array.ext'
    simp
theorem op_repS : OpR X (binaryOp .Mult) rRepS := by
  intro pins s σ H x y v u Q I rx ry h
  obtain ⟨z, k, rfl, rfl, h1, h2, hz, q⟩ := h
  obtain ⟨t, rfl⟩ := rx
  obtain ⟨t', rfl⟩ := ry
  have c0 : (decide (k < -(2 ^ 63 : Int)) || decide (k ≥ 2 ^ 63)) = false := by
    rw [decide_eq_false (by omega), decide_eq_false (by omega)] <;> rfl
  have hm : z.length * k.toNat ≤ 1000 * 1000 := Nat.mul_le_mul hz (by omega)
  refine PySem.P.mul_str c0 (fun h _ => ?_) (fun _ _ => ?_) ?_
  · have a1 : (1000 : Int) ≤ (2 ^ 63 - 1) / k := by
      rw [Int.le_ediv_iff_mul_le (by omega)]
      omega
    omega
  · show decide (z.length * k.toNat > sizeLine) = false
    rw [sizeLine_eq]
    exact decide_eq_false (by omega)
  · by_cases hk : k < 1
    · rw [if_pos hk]
      have e0 : k.toNat = 0 := by omega
      rw [e0] at q
      exact ⟨by decide, .str _, H, I.tok _, ⟨_, rfl⟩, q⟩
    · rw [if_neg hk]
      by_cases hc : (k == 1 || z.length == 0) = true
      · rw [if_pos hc]
        have ez : (⟨(List.replicate k.toNat z.cps.toList).flatten.toArray⟩ : Str) = z := by
          rcases (Bool.or_eq_true _ _).mp hc with e | e
          · have e1 : k = 1 := beq_iff_eq.mp e
            subst e1
            show (⟨(List.replicate 1 z.cps.toList).flatten.toArray⟩ : Str) = z
            simp
          · have e1 : z.cps.toList = [] := by
              have e2 : z.cps.size = 0 := beq_iff_eq.mp e
              apply List.eq_nil_of_length_eq_zero
              rw [Array.length_toList]
              exact e2
            have e3 : z = ⟨#[]⟩ := by
              obtain ⟨c⟩ := z
              have : c = #[] := Array.toList_inj.mp (by rw [e1])
              rw [this]
            rw [e3]
            have e4 : (List.replicate k.toNat ([] : List Nat)).flatten = [] := by simp
            show (⟨(List.replicate k.toNat ([] : List Nat)).flatten.toArray⟩ : Str) = ⟨#[]⟩
            rw [e4]
        rw [ez] at q
        exact ⟨.str z, H, I, ⟨_, rfl⟩, q⟩
      · rw [if_neg hc, rep_foldl, Array.empty_append]
        refine ⟨?_, .str _, H, I.tok _, ⟨_, rfl⟩, q⟩
        show (List.replicate k.toNat z.cps.toList).flatten.toArray.size ≤ sizeLine
        rw [List.size_toArray, PyProof.Rows.lm_len_rep_flat, sizeLine_eq, Array.length_toList]
        have hm2 : k.toNat * z.cps.size ≤ 1000 * 1000 := Nat.mul_le_mul (by omega) hz
        omega
end
/-! ### sequences by data -/
/-- a list that stands by itself -/
def PLt (X : Cx) (δ : De) (ω : Om) (e : Expr) (ds : List PyData) : Prop :=
  ∀ σ H, Rl X.K H σ δ ω → ∀ Q : VK, (∀ p vs H', Same H H' → H' p = some (.lst vs) → DpAll X.K (hid (ads ω) H') vs ds → Q (.ref p) H') → wpe X e σ H Q
section
variable {X : Cx} {δ : De} {ω : Om} {a b c e : Expr} {es : List Expr} {d da db dc dz : PyData} {ds dt : List PyData} {pos p : Pos}
theorem PLt.pl (h : PLt X δ ω e ds) : PL X δ ω e ds := fun σ H r Q k => h σ H r Q fun p vs H' s h1 h2 => k p vs H' s (SqL.of h1) h2
theorem PN.plt (h : PN X δ ω e ds) : PLt X δ ω e ds := fun σ H r Q k => h σ H r Q fun p vs H' s _ h1 h2 => k p vs H' s h1 (dpam hid_cons h2)
theorem plt_var (i : Nat) {x : Str} {p : Addr} {xs : List PyData} (hm : (p, Od.lst (xs.map .im)) ∈ ω.os) (hd : δ[i]? = some (some (.ad p)) := by rfl) (hN : X.N[i]? = some x := by rfl) (hv : Vis X.env.scope x := by first | exact Or.inl rfl | exact Or.inr (Or.inl rfl) | exact Or.inr (Or.inr rfl))
    (h1 : (x == ("__debug__" : Str)) = false := by decide) (h2 : (x == ("__classdict__" : Str)) = false := by decide) : PLt X δ ω (.Name x pos) xs := fun σ H r Q k => by
  obtain ⟨v, e1, e2⟩ := r.sl i _ hd
  obtain ⟨vs, e3, e4⟩ := r.ro.ob _ _ hm
  have e2 : v = .ref p := e2
  subst e2
  exact we (pe_var hN hv h1 h2) ⟨_, e1, k p vs H (Same.refl H) e3 (dpa_im e4)⟩
theorem flat_one {α : Type} (n : Nat) (x : α) : (List.replicate n [x]).flatten = List.replicate n x := by
  induction n with
  | zero => rfl
  | succ n ih => rw [List.replicate_succ, List.flatten_cons, ih, List.replicate_succ] <;> rfl
theorem rd_repT {K : PySem.W.Frag} {k : Int} (hne : ds ≠ []) (h1 : -1000 ≤ k) (h2 : k ≤ 1000) (hz : ds.length ≤ 1000) : RD K (rRepA K) (.tuple ds) (.int k) (.tuple (List.replicate k.toNat ds).flatten) := fun ps x y H t hx hy Q q => by
  cases hy
  cases hx with
  | tup h3 h4 =>
    rename_i l vs
    have hl := dpa_len h4
    refine ⟨l, k, vs, rfl, rfl, same_sqt hid_sub h3, fun z => hne ?_, h1, h2, by omega, fun e => ?_, fun e p hp => ?_⟩
    · subst z
      exact List.eq_nil_of_length_eq_zero (by rw [← hl]; rfl)
    · have e1 : k.toNat = 1 := by omega
      rw [e1] at q
      have e2 : (List.replicate 1 ds).flatten = ds := by simp
      rw [e2] at q
      exact q _ H (Same.refl H) (.tup h3 h4)
    · exact q _ _ (same_new hp) (.tup (SqT.of (hid_of (new_out t hp) upd_same)) (dpam (hid_same (same_new hp)) (dpa_rep h4 _)))
theorem pd_repT {k : Int} (ha : PD X δ ω a (.tuple ds)) (hb : PD X δ ω b (.int k)) (hne : ds ≠ []) (h1 : -1000 ≤ k) (h2 : k ≤ 1000) (hz : ds.length ≤ 1000) : PD X δ ω (.BinOp a .Mult b pos) (.tuple (List.replicate k.toNat ds).flatten) := pd_op op_repA (rd_repT hne h1 h2 hz) ha hb
/-- (x,) * k -/
theorem pd_rep1 {k : Int} (ha : PD X δ ω a (.tuple [d])) (hb : PD X δ ω b (.int k)) (h1 : -1000 ≤ k) (h2 : k ≤ 1000) : PD X δ ω (.BinOp a .Mult b pos) (.tuple (List.replicate k.toNat d)) :=
  (pd_repT ha hb (by simp) h1 h2 (by simp)).eq (by rw [flat_one])
theorem rd_catT {K : PySem.W.Frag} (hz : ds.length + dt.length ≤ 10000) : RD K (rCatA K) (.tuple ds) (.tuple dt) (.tuple (ds ++ dt)) := fun ps x y H t hx hy Q q => by
  cases hx with
  | tup h3 h4 =>
    cases hy with
    | tup h5 h6 =>
      rename_i l vs m us
      have hl := dpa_len h4
      have hm := dpa_len h6
      refine ⟨l, m, vs, us, rfl, rfl, same_sqt hid_sub h3, same_sqt hid_sub h5, by rw [hl, hm, sizeLine_eq]; omega, fun z => ?_, fun _ z => ?_, fun _ _ p hp => ?_⟩
      · subst z
        cases h4
        exact q _ H (Same.refl H) (.tup h5 h6)
      · subst z
        cases h6
        rw [List.append_nil] at q
        exact q _ H (Same.refl H) (.tup h3 h4)
      · exact q _ _ (same_new hp) (.tup (SqT.of (hid_of (new_out t hp) upd_same)) (dpam (hid_same (same_new hp)) (dpa_app h4 h6)))
theorem pd_catT (ha : PD X δ ω a (.tuple ds)) (hb : PD X δ ω b (.tuple dt)) (hz : ds.length + dt.length ≤ 10000) : PD X δ ω (.BinOp a .Add b pos) (.tuple (ds ++ dt)) := pd_op op_catA (rd_catT hz) ha hb
theorem rd_repS {K : PySem.W.Frag} {z : Str} {k : Int} (h1 : -1000 ≤ k) (h2 : k ≤ 1000) (hz : z.length ≤ 1000) : RD K rRepS (.str z) (.int k) (.str ⟨(List.replicate k.toNat z.cps.toList).flatten.toArray⟩) := fun ps x y H t hx hy Q q => by
  cases hx
  cases hy
  exact ⟨z, k, rfl, rfl, h1, h2, hz, q _ H (Same.refl H) (.str _)⟩
theorem pd_repS {z : Str} {k : Int} (ha : PD X δ ω a (.str z)) (hb : PD X δ ω b (.int k)) (h1 : -1000 ≤ k) (h2 : k ≤ 1000) (hz : z.length ≤ 1000) : PD X δ ω (.BinOp a .Mult b pos) (.str ⟨(List.replicate k.toNat z.cps.toList).flatten.toArray⟩) := pd_op op_repS (rd_repS h1 h2 hz) ha hb
theorem pd_catS {y z : Str} (ha : PD X δ ω a (.str y)) (hb : PD X δ ω b (.str z)) (hz : y.length + z.length ≤ 100000) : PD X δ ω (.BinOp a .Add b pos) (.str (y ++ z)) := pd_op op_add_str (fun ps x w H t hx hy Q q => by
  cases hx
  cases hy
  exact ⟨y, z, rfl, rfl, Nat.le_trans hz (by rw [sizeLine_eq]; decide), q _ H (Same.refl H) (.str _)⟩) ha hb
theorem pn_cat (ha : PLt X δ ω a ds) (hb : PLt X δ ω b dt) (hz : ds.length + dt.length ≤ 10000) : PN X δ ω (.BinOp a .Add b pos) (ds ++ dt) := fun σ H rl Q k =>
  we (pe_op op_cat pe_w pe_w) (ha σ H rl _ fun q vs H1 s1 h1 d1 => hb σ H1 (rl.mono s1) _ fun r us H2 s2 h2 d2 =>
    ⟨q, r, vs, us, rfl, rfl, s2 q _ h1, h2, by rw [dpa_len d1, dpa_len d2, sizeLine_eq]; omega, fun p hp => k p _ _ ((s1.trans s2).trans (same_new hp)) ((s1.trans s2).free hp) upd_same (dpam (hid_new hp (same_new hp)) (dpa_app (dpam (hid_same s2) d1) d2))⟩)
theorem pn_rep {k : Int} (ha : PLt X δ ω a ds) (hb : PD X δ ω b (.int k)) (h1 : -1000 ≤ k) (h2 : k ≤ 1000) (hz : ds.length ≤ 1000) : PN X δ ω (.BinOp a .Mult b pos) (List.replicate k.toNat ds).flatten := fun σ H rl Q q =>
  we (pe_op op_rep pe_w pe_w) (ha σ H rl _ fun l vs H1 s1 h3 d1 => hb σ H1 (rl.mono s1) _ fun y H2 s2 d2 => by
    cases d2
    refine ⟨l, k, vs, rfl, rfl, s2 l _ h3, by omega, by omega, ?_, fun p hp => q p _ _ ((s1.trans s2).trans (same_new hp)) ((s1.trans s2).free hp) upd_same (dpam (hid_new hp (same_new hp)) (dpam (hid_same s2) (dpa_rep d1 _)))⟩
    have a1 : vs.length * k.toNat ≤ 1000 * 1000 := Nat.mul_le_mul (by rw [dpa_len d1]; exact hz) (by omega)
    rw [sizeLine_eq]
    omega)
theorem pn_rep1 {k : Int} (ha : PLt X δ ω a [d]) (hb : PD X δ ω b (.int k)) (h1 : -1000 ≤ k) (h2 : k ≤ 1000) : PN X δ ω (.BinOp a .Mult b pos) (List.replicate k.toNat d) := by
  have h := pn_rep (pos := pos) ha hb h1 h2 (by simp)
  rw [flat_one] at h
  exact h
/-! ### slices -/
def cutD (xs : List PyData) (lo hi : Option Int) : List PyData := (xs.drop (HT.sIx xs.length 0 lo)).take (HT.sIx xs.length xs.length hi - HT.sIx xs.length 0 lo)
theorem cut_dp {K : PySem.W.Frag} {H : Hp} {vs : List V} (h : DpAll K H vs ds) (lo hi : Option Int) : DpAll K H (cutV vs lo hi) (cutD ds lo hi) := by
  unfold cutV cutD
  rw [dpa_len h]
  exact dpa_take _ (dpa_drop _ h)
/-- a part of a slice -/
def PO1 (X : Cx) (δ : De) (ω : Om) : Option Expr → Option Int → Prop
  | none, o => o = none
  | some e, o => ∃ i, o = some i ∧ PD X δ ω e (.int i)
def wpo (X : Cx) : Option Expr → TO
  | none => tNoPart
  | some e => tPart (wpe X e)
theorem po_w {o : Option Expr} : PO X o (wpo X o) := by
  cases o with
  | none => exact po_none
  | some e => exact po_some pe_w
theorem po_run {o : Option Expr} {i : Option Int} (h : PO1 X δ ω o i) : ∀ σ H, Rl X.K H σ δ ω → ∀ Q : Option Int → Hp → Prop, (∀ H', Same H H' → Q i H') → wpo X o σ H Q := fun σ H rl Q k => by
  cases o with
  | none =>
    have e : i = none := h
    subst e
    exact k H (Same.refl H)
  | some e =>
    obtain ⟨j, e1, h1⟩ := h
    subst e1
    exact h1 σ H rl _ fun v H1 s1 d1 => by
      cases d1
      exact ⟨j, rfl, k H1 s1⟩
theorem pd_slT {lo hi : Option Expr} {i j : Option Int} {p2 : Pos} (ha : PD X δ ω a (.tuple ds)) (hl : PO1 X δ ω lo i) (hh : PO1 X δ ω hi j) : PD X δ ω (.Subscript a (.Slice lo hi none p2) pos) (.tuple (cutD ds i j)) := fun σ H rl Q k =>
  we (pe_slice sl_tupA pe_w po_w po_w) (ha σ H rl _ fun v H1 s1 d1 => po_run hl σ H1 (rl.mono s1) _ fun H2 s2 => po_run hh σ H2 (rl.mono (s1.trans s2)) _ fun H3 s3 => by
    have s13 := (s1.trans s2).trans s3
    have d3 := dpm (hid_same (s2.trans s3)) d1
    cases d3 with
    | tup h1 h2 =>
      rename_i l vs
      refine ⟨l, vs, rfl, same_sqt hid_sub h1, fun z => ?_, fun _ p hp => k _ _ (s13.trans (same_new hp)) (.tup (SqT.of (hid_of (new_out (there_mono rl.ro.there s13) hp) upd_same)) (dpam (hid_same (same_new hp)) (cut_dp h2 i j)))⟩
      have e : cutD ds i j = ds := by
        unfold cutD
        rw [← dpa_len h2, z.1, z.2, List.drop_zero, Nat.sub_zero, dpa_len h2, List.take_length]
      rw [e] at k
      exact k _ H3 s13 (.tup h1 h2))
theorem pn_slL {lo hi : Option Expr} {i j : Option Int} {p2 : Pos} (ha : PL X δ ω a ds) (hl : PO1 X δ ω lo i) (hh : PO1 X δ ω hi j) : PN X δ ω (.Subscript a (.Slice lo hi none p2) pos) (cutD ds i j) := fun σ H rl Q k =>
  we (pe_slice sl_list pe_w po_w po_w) (ha σ H rl _ fun l vs H1 s1 h1 d1 => po_run hl σ H1 (rl.mono s1) _ fun H2 s2 => po_run hh σ H2 (rl.mono (s1.trans s2)) _ fun H3 s3 =>
    ⟨l, vs, rfl, (s2.trans s3).seq h1, fun p hp => k p _ _ (((s1.trans s2).trans s3).trans (same_new hp)) (((s1.trans s2).trans s3).free hp) upd_same (dpam (hid_new hp (same_new hp)) (cut_dp (dpam (hid_same (s2.trans s3)) d1) i j))⟩)
/-! ### join -/
theorem dpa_strs {K : PySem.W.Frag} {H : Hp} : ∀ {ys : List Str} {vs : List V}, DpAll K H vs (ys.map .str) → vs = ys.map V.str
  | [], _, h => by
    cases h
    rfl
  | b :: bs, _, h => by
    cases h with
    | cons x y =>
      cases x
      rw [List.map_cons, dpa_strs y]
theorem pd_join {z : Str} {ys : List Str} {apos : Pos} (ha : PD X δ ω a (.str z)) (hb : PL X δ ω b (ys.map .str)) (hz : (ys.map (·.length)).sum + ys.length * z.length ≤ 16777216) (hs : starEach [b] X.env = [(false, eval b X.env)] := by rfl)
    (hbase : attributeBase a "join" X.env (eval a X.env) = eval a X.env := by rfl) (hline : (apos.endLine == pos.line) = true := by rfl) : PD X δ ω (.Call (.Attribute a "join" apos) [b] [] pos) (.str (Txt.join z ys)) := fun σ H rl Q k =>
  we (pe_join pe_w pe_w hs hbase hline) (ha σ H rl _ fun v H1 s1 d1 => by
    cases d1
    refine ⟨⟨_, rfl⟩, hb σ H1 (rl.mono s1) _ fun l vs H2 s2 h2 d2 => ?_⟩
    have e := dpa_strs d2
    subst e
    exact ⟨z, l, ys, rfl, rfl, .inl h2, hz, k _ H2 (s1.trans s2) (.str _)⟩)
end
end FP

namespace FP
open PySem PySem.Spec PyProof.Rows L2
/-! ### the law -/
def spL (K : PySem.W.Frag) (T : List (Addr × Str)) : Sp := fun vs H Q _ => ∃ (a : Addr) (ns : List Int), vs = [.ref a] ∧ SqL K H a (ns.map V.int) ∧ ns.length ≤ 63 ∧ (∀ z ∈ ns, Builtin.Int.intBits z ≤ 1048576) ∧ LamX.Tabs T H ∧ ∀ H', Q (.bl true) H'
theorem dpa_ints {K : PySem.W.Frag} {H : Hp} : ∀ ns : List Int, DpAll K H (ns.map V.int) (ns.map .int)
  | [] => .nil
  | n :: ns => .cons (.int n) (dpa_ints ns)
def FinT : Out → Prop
  | .rt (.im d) _ => d = .bool true
  | _ => False
theorem law_ok {P : Program} {w : World} {K : PySem.W.Frag} {mg : Str → Option Value} {base : Heap} {x qual y : Str} {params : Arguments} {body : List Stmt} {scope : Scope} {dV kV doc pm cdv ct oc : Value} {an od : Option Addr} {osl : Array (Option Value)} {f : Addr} {N : List Str} {k : Nat} {T : List (Addr × Str)}
    (lk : K.lookup f = some ⟨oc, od, .func (PySem.W.fnOf x qual params body scope dV kV doc pm an cdv ct), osl⟩) (hcd : PySem.W.codeIn K cdv qual = true) (S : FnScope N [y] scope)
    (hbody : ∀ (A : Around) (outer : List Env) (s : Shared) (H : Hp) (E : XK) (ns : List Int), Room k (A.deeper (envOfC qual scope s.heap.objs.size f cdv)) → ns.length ≤ 63 → (∀ z ∈ ns, Builtin.Int.intBits z ≤ 1048576) →
      SD (cxOf (L2N.CX P w) P w K mg base N qual scope f cdv A outer s H E) (WOf E) T body (startD N [.list (ns.map .int)]) ⟨[], []⟩ FinT) :
    FnOk P w K mg base (L2N.CX P w) (k + 1) f (PySem.W.fnOf x qual params body scope dV kV doc pm an cdv ct) [y] (spL K T) := by
  refine fn_of lk hcd S (fun vs H Q E h => ?_) (fun A outer s H vs Q E hr h => ?_)
  · obtain ⟨a, ns, rfl, _⟩ := h
    rfl
  · obtain ⟨a, ns, rfl, h1, h2, h3, h4, h5⟩ := h
    refine ⟨_, pss_w, hbody A outer s H E ns hr h2 h3 _ _ _ (start_rl (vs := [.ref a]) (.cons (.lst (by rw [hid_nil]; exact h1) (dpa_ints ns)) .nil) (fun _ z => nomatch z)) h4 ?_⟩
    refine ⟨fun _ _ _ _ z => False.elim z, fun r' ω' v H' z st l dv => ?_, fun _ _ _ _ z => False.elim z, fun _ _ _ _ z => False.elim z, fun _ _ _ _ z => False.elim z⟩
    cases r' with
    | im d =>
      have z : d = .bool true := z
      subst z
      cases dv
      exact h5 H'
    | ad a => exact False.elim z

/-! ### told: a lambda handed to a def that calls it -/
def TT0 : (XK → Hp → VK → Prop) → Hp → VK → Prop := fun tl H Q => tl (fun _ _ _ => False) H Q
theorem told0 {X : Cx} {Ng : List Str} {x a q : Str} {sg : Scope} {g : Addr} {cdg : Value} {p1 p2 p3 p8 : Pos} {hd : ExceptHandler} {hs : List ExceptHandler} (h0 : ∀ f : Addr, (L2.start Ng [V.ref f])[0]? = some (some (V.ref f))) :
    LamX.GivesTo X Ng x sg g cdg [.Try [.Return (some (.Call (.Name a p1) [] [] p2)) p3] (hd :: hs) [] [] p8] a q TT0 := by
  intro f c' s H Q tl act hc h
  refine ⟨_, pss_one (ps_try_thru0 (X := (cxOf C8.CX0 X.prog X.w X.K X.mg X.base Ng x sg g cdg X.A X.stack s H C8.E0).nox) (pss_one (ps_ret (pos := p3) (act (fun _ _ _ _ => False) [] (fun _ _ => False) (fun _ _ _ => False) p1 p2 LamX.takes0 (fun _ _ _ _ z => z))))), ?_⟩
  exact ⟨h0 f, hc, h⟩
/-- what the told rule asks of the maker's def -/
structure LamT (X : Cx) (T : List (Addr × Str)) : Prop where
  ex : ∃ c P, LamX.TabB X.base X.mg c P ∧ X.env.code = .ref c ∧ (P, X.env.qual ++ "<lambda>") ∈ T ∧ ∀ p ∈ T, p.1 = P → p.2 = X.env.qual ++ "<lambda>"
/-- the def that calls what it gets -/
structure Told (K : PySem.W.Frag) (mg : Str → Option Value) (x : Str) (st : Stmt) : Prop where
  ex : ∃ g fd, FunD K x x (defArgs st) (defBody st) (defScope st) [] [] g fd ∧ mg x = some (.ref g)
theorem extN_ke {T : List (Addr × Str)} (hT : T ≠ []) {H H' : Hp} (e : LamX.ExtN H H') : Ke T H H' := fun b o h p => e b o h (p.resolve_left hT)
theorem rl_ext {K : PySem.W.Frag} {T : List (Addr × Str)} {H H' : Hp} {σ : L2.St} {δ : De} {ω : Om} (e : LamX.ExtN H H') (hps : ω.ps = []) (rl : Rl K H σ δ ω) : Rl K H' σ δ ω := by
  have hh : LamX.ExtN (hid (ads ω) H) (hid (ads ω) H') := fun b o z n => hid_of (hid_out z).1 (e b o (hid_out z).2 n)
  have hk : Ke [(0, Str.ofString "")] (hid (ads ω) H) (hid (ads ω) H') := fun b o z p => hh b o z (p.resolve_left (by simp))
  have hsd : ∀ {r : Sd} {v : V}, SdV K (hid (ads ω) H) r v → SdV K (hid (ads ω) H') r v := fun {r v} z => by
    cases r with
    | im d => exact dp_ke hk d v z
    | ad a => exact z
  refine ⟨rl.len, fun i r h => ?_, fun a o h => ?_, rl.ro.nd, fun a h => ?_⟩
  · obtain ⟨v, h1, h2⟩ := rl.sl i r h
    exact ⟨v, h1, hsd h2⟩
  · have g := rl.ro.ob a o h
    exact odv_keep (fun w => hsd w) (fun u nt g1 => e a _ g1 nt) g
  · rw [hps] at h
    cases h
section
variable {X : Cx} {W : WX} {T : List (Addr × Str)} {δ : De} {ω : Om} {d : PyData} {pos p : Pos} {k : Nat} {R : Out → Prop}
theorem ex_told0 {x a : Str} {st : Stmt} {Ng : List Str} {p1 p2 p3 p8 lpos : Pos} {hd : ExceptHandler} {hs : List ExceptHandler} {params : Arguments} {body : Expr} {scope : Scope} (G : Told X.K X.mg x st) (L : LamT X T) (hT : T ≠ []) (hps : ω.ps = []) (hr : Room (k + 2) X.A)
    (hst : defBody st = [.Try [.Return (some (.Call (.Name a p1) [] [] p2)) p3] (hd :: hs) [] [] p8]) (S : FnScope Ng [a] (defScope st)) (hNg : Ng[0]? = some a) (hva : Vis (defScope st) a) (h0 : ∀ f : Addr, (L2.start Ng [V.ref f])[0]? = some (some (V.ref f)))
    (hbn : ∀ (kV doc pm : Value) (an : Option Addr) (cdv ct : Value) (us : List Value), us.length = [a].length → bindArgs (PySem.W.fnOf x x (defArgs st) (defBody st) (defScope st) .none kV doc pm an cdv ct) ⟨us, []⟩ = pure ([a].zip us))
    (hL : LamX.lamSB X.env.scope scope = true) (hdef : defaultsOf params X.env = ([], [])) (hbind : ∀ (q : Str) (cl : List (Str × Addr)) (pm cv ctv : Value), bindArgs (PySem.W.kla_fn "<lambda>" q params body scope cl pm cv ctv) ⟨[], []⟩ = pure [])
    (hb : ∀ (A : Around) (outer : List Env) (s : Shared) (H : Hp) (E : XK) (f c' : Addr), Room k (A.deeper (LamX.lamEnv X scope s.heap.objs.size f c')) → PD (LamX.lamCx X A outer s H E scope f c') δ ω body d) (hR : R (.rt (.im d) ω))
    (hg : Gl X x := by rfl) (hdb : (x == ("__debug__" : Str)) = false := by decide) (hd1 : (a == ("__debug__" : Str)) = false := by decide) (hcd1 : (a == ("__classdict__" : Str)) = false := by decide) : EX X W T (.Call (.Name x p) [.Lambda params body scope lpos] [] pos) δ ω R := fun σ H rl t Q q _ => by
  obtain ⟨g, fd, F, hm⟩ := G.ex
  obtain ⟨c, P, TB, hcode, hmT, hu⟩ := L.ex
  obtain ⟨oc, od, dV, kV, doc, pm, an, cdv, ct, osl, rfl, lk, hcd, hD, hK⟩ := F.ex
  have edV : dV = .none := by
    rcases hD with ⟨_, e⟩ | ⟨e, _⟩
    · exact e
    · exact absurd rfl e
  subst edV
  have hG : LamX.GivesTo X Ng x (defScope st) g cdv (defBody st) a (X.env.qual ++ "<lambda>") TT0 := by
    rw [hst]
    exact told0 h0
  refine we (LamX.pe_lamcall (T := T) (TT := TT0) (t := fun E σ H Q => ∀ (A : Around) (outer : List Env) (s : Shared) (H0 : Hp) (f c' : Addr), Room k (A.deeper (LamX.lamEnv X scope s.heap.objs.size f c')) → wpe (LamX.lamCx X A outer s H0 E scope f c') body σ H Q)
    hg hm F.kp lk hcd (F.bindsN hbn) S hNg hva hG TB hcode hmT hu hr (LamX.lamS_by hL) hdef hbind (fun A outer s H0 E f c' hr' => ⟨fun pins s' σ' H' Q' I h => pe_w.run pins s' σ' H' Q' I (h A outer s H0 f c' hr')⟩) hdb hd1 hcd1) ?_
  refine ⟨t, fun H1 eN T1 => ?_⟩
  show ∀ (A : Around) (outer : List Env) (s : Shared) (H0 : Hp) (f c' : Addr), Room k (A.deeper (LamX.lamEnv X scope s.heap.objs.size f c')) → wpe (LamX.lamCx X A outer s H0 (fun _ _ _ => False) scope f c') body σ H1 Q
  intro A outer s H0 f c' hr'
  have rl1 : Rl X.K H1 σ δ ω := rl_ext (T := T) eN hps rl
  refine hb A outer s H0 _ f c' hr' σ H1 rl1 Q fun v H2 s2 d2 => q _ ω v H2 hR ⟨fun b o h _ p => s2 b o (eN b o h (p.resolve_left hT)), fun a h => .inl h, rfl, fun _ => T1.ext s2⟩ (rl1.mono s2) d2
end
end FP

namespace FP
open PySem PySem.Spec PyProof.Rows L2
/-! ### raise -/
structure ExcF (K : PySem.W.Frag) (mg : Str → Option Value) (x : Str) (C : Addr) : Prop where
  xP : PySem.W.excIn K C He.veBase "ValueError.__new__" = true
  gP : mg x = some (.ref C)
  kP : PySem.W.keepIn K (.ref C) = true
  bP : PySem.W.subIn K (.ref C) (.type "BaseException") = some true
  tP : PySem.W.typeIn K (.ref C) = some (.type "type")
section
variable {X : Cx} {W : WX} {T : List (Addr × Str)} {δ : De} {ω : Om} {pos p : Pos} {R : Out → Prop} {ss : List Stmt}
theorem sd_raise {x m : Str} {C : Addr} {j : Nat} {p2 pos2 : Pos} (F : ExcF X.K X.mg x C) (tk : L2N.Takes X W) (hR : R (.ex C ω)) (hc : X.calm = true) (hg : Gl X x := by rfl) (hdb : (x == ("__debug__" : Str)) = false := by decide) :
    SD X W T (.Raise (some (.Call (.Name x p) [.Constant (.str m) j p2] [] pos)) none pos2 :: ss) δ ω R :=
  sd_cons fun σ H D rl t k => ws (L2N.ps_raise hc tk (L2N.pmk_own PySem.F.excBase_ValueError F.xP F.gP F.kP (raises_own F.bP F.tP) hg hdb)) (k.ex C ω σ H hR .refl rl.ro)
/-- a call as a statement: it may raise -/
theorem sd_callX {a : Expr} {es : List Expr} {x : Str} {k : Nat} {ds : List PyData} {fr : List PyData → Rs → Prop} {rr : Rs} {pos2 : Pos} (G : DefOk X.prog X.w X.K X.mg X.base k x fr) (hr : Room k X.A) (tk : L2N.Takes X W) (ha : PDs X δ ω (a :: es) ds) (hf : fr ds rr)
    (h1 : ∀ d, rr = .ok d → SD X W T ss δ ω R) (h2 : ∀ C, rr = .er C → R (.ex C ω)) (hg : Gl X x := by rfl)
    (hdb : (x == ("__debug__" : Str)) = false := by decide) (he : starEach (a :: es) X.env = (false, eval a X.env) :: starEach es X.env := by rfl) (hpl : (backTo pos (starEach es X.env)).any (·.1) = false := by rfl)
    (hs : swapsWith (.Call (.Name x p) (a :: es) [] pos) none pos2.line X.env = pure false := by rfl) : SD X W T (.Expr (.Call (.Name x p) (a :: es) [] pos) pos2 :: ss) δ ω R :=
  sd_exprX (ex_call G hr tk ha hf (by
    cases rr with
    | ok d => exact h1 d rfl
    | er C => exact h2 C rfl) hg hdb he hpl) hs
end
end FP

namespace FP
open PySem PySem.Spec PyProof.Rows L2
/-! ### data that may be compared -/
def Shp (n : Nat) (d : PyData) : Prop := d.canLay0 = true ∧ d.depth ≤ n
theorem shp_all {n : Nat} : ∀ {ds : List PyData}, (∀ x ∈ ds, Shp n x) → PyData.canLayAll0 ds = true ∧ PyData.depthAll ds ≤ n
  | [], _ => ⟨rfl, Nat.zero_le _⟩
  | x :: xs, h => by
    obtain ⟨a, b⟩ := shp_all (ds := xs) fun y hy => h y (List.mem_cons_of_mem _ hy)
    obtain ⟨c, d⟩ := h x List.mem_cons_self
    constructor
    · show (x.canLay0 && PyData.canLayAll0 xs) = true
      rw [c, a]
      rfl
    · show max x.depth (PyData.depthAll xs) ≤ n
      omega
theorem Shp.tup {n : Nat} {ds : List PyData} (h : ∀ x ∈ ds, Shp n x) : Shp (n + 1) (.tuple ds) := ⟨(shp_all h).1, by
  show PyData.depthAll ds + 1 ≤ n + 1
  have := (shp_all h).2
  omega⟩
theorem Shp.lst {n : Nat} {ds : List PyData} (h : ∀ x ∈ ds, Shp n x) : Shp (n + 1) (.list ds) := ⟨(shp_all h).1, by
  show PyData.depthAll ds + 1 ≤ n + 1
  have := (shp_all h).2
  omega⟩
theorem Shp.int {n : Nat} (i : Int) : Shp n (.int i) := ⟨rfl, Nat.zero_le _⟩
theorem Shp.non {n : Nat} : Shp n .none := ⟨rfl, Nat.zero_le _⟩
theorem Shp.bl {n : Nat} (b : Bool) : Shp n (.bool b) := ⟨rfl, Nat.zero_le _⟩
theorem Shp.str {n : Nat} {z : Str} (h : PyData.strOk z = true) : Shp n (.str z) := ⟨h, Nat.zero_le _⟩
theorem Shp.ok {n : Nat} {d : PyData} (h : Shp n d) (hn : n ≤ 64 := by decide) : SeqAt.shaped d = true := by
  unfold SeqAt.shaped
  rw [h.1, decide_eq_true (Nat.le_trans h.2 hn)]
  rfl
theorem Shp.refl {n : Nat} {d : PyData} (h : Shp n d) : PyData.eqv d d = true := SeqAt.eqv_refl d h.1
end FP

namespace FP
open PySem PySem.Spec PyProof.Rows L2
/-! ### expressions that make lambdas -/
def PX (X : Cx) (T : List (Addr × Str)) (δ : De) (ω : Om) (e : Expr) (d : PyData) : Prop := ∀ σ H, Rl X.K H σ δ ω → LamX.Tabs T H → ∀ Q : VK, (∀ v H', Stp T ω ω H H' → Rl X.K H' σ δ ω → Dp X.K (hid (ads ω) H') v d → Q v H') → wpe X e σ H Q
def PXt (X : Cx) (T : List (Addr × Str)) (δ : De) (ω : Om) (e : Expr) (k : Bool) : Prop := ∀ σ H, Rl X.K H σ δ ω → LamX.Tabs T H → ∀ Q : Bool → Hp → Prop, (∀ H', Stp T ω ω H H' → Rl X.K H' σ δ ω → Q k H') → wpt X e σ H Q
def PXw (X : Cx) (T : List (Addr × Str)) (δ : De) (ω : Om) (e : Expr) (k : Bool) : Prop := ∀ σ H, Rl X.K H σ δ ω → LamX.Tabs T H → ∀ Q : Bool → Hp → Prop, (∀ H', Stp T ω ω H H' → Rl X.K H' σ δ ω → Q k H') → wpw X e σ H Q
def PXs (X : Cx) (T : List (Addr × Str)) (δ : De) (ω : Om) (es : List Expr) (ds : List PyData) : Prop := ∀ σ H, Rl X.K H σ δ ω → LamX.Tabs T H → ∀ Q : List V → Hp → Prop, (∀ vs H', Stp T ω ω H H' → Rl X.K H' σ δ ω → DpAll X.K (hid (ads ω) H') vs ds → Q vs H') → wpa X es σ H Q
section
variable {X : Cx} {W : WX} {T : List (Addr × Str)} {δ : De} {ω : Om} {a b c e : Expr} {es r : List Expr} {d da db dz : PyData} {ds : List PyData} {pos p : Pos} {k x y : Bool} {R : Out → Prop} {ss sa sb : List Stmt}
theorem PD.px (h : PD X δ ω e d) : PX X T δ ω e d := fun σ H rl t Q q => h σ H rl Q fun v H' s dv => q v H' (.of s) (rl.mono s) dv
theorem PTd.xt (h : PTd X δ ω e k) : PXt X T δ ω e k := fun σ H rl t Q q => h σ H rl Q fun H' s => q H' (.of s) (rl.mono s)
theorem PXw.xt (h : PXw X T δ ω e k) : PXt X T δ ω e k := fun σ H rl t Q q => wt (PW.pt pw_w) (h σ H rl t Q q)
theorem xt_cmp {op : CmpOp} {r : R2} (ho : OpR X (compareOp op) r) (hr : RD X.K r da db (.bool k)) (ha : PX X T δ ω a da) (hb : PX X T δ ω b db) (hm : behindInMarks op b = false) : PXt X T δ ω (.Compare a [op] [b] pos) k := fun σ H rl t Q q =>
  wt (pt_cmpR ho pe_w pe_w hm) (ha σ H rl t _ fun x H1 s1 l1 d1 => hb σ H1 l1 (s1.tab t) _ fun y H2 s2 l2 d2 =>
    hr _ x y H2 l2.ro.there (dp_ke s2.seen da x d1) d2 _ fun z H3 s3 d3 => by
      cases d3
      exact ⟨_, rfl, q H3 ((s1.trans s2).trans (.of s3)) (l2.mono s3)⟩)
theorem xt_not (h : PXt X T δ ω e k) : PXt X T δ ω (.UnaryOp .Not e pos) (!k) := fun σ H rl t Q q => wt (pt_not pt_w) (h σ H rl t _ fun H1 s1 l1 => q H1 s1 l1)
theorem xw_or1 (h : PXt X T δ ω a k) : PXw X T δ ω (.BoolOp .Or [a] pos) k := fun σ H rl t Q q => ww (pw_or1 pt_w) (h σ H rl t Q q)
theorem xw_and1 (h : PXt X T δ ω a k) : PXw X T δ ω (.BoolOp .And [a] pos) k := fun σ H rl t Q q => ww (pw_and1 pt_w) (h σ H rl t Q q)
theorem xw_or (h : PXt X T δ ω a x) (h2 : x = false → PXw X T δ ω (.BoolOp .Or (b :: r) pos) y) : PXw X T δ ω (.BoolOp .Or (a :: b :: r) pos) (x || y) := fun σ H rl t Q q =>
  ww (pw_or pt_w pw_w) (h σ H rl t _ fun H1 s1 l1 => by
    cases x with
    | true => exact iteT (q H1 s1 l1)
    | false => exact iteF (h2 rfl σ H1 l1 (s1.tab t) Q fun H2 s2 l2 => q H2 (s1.trans s2) l2))
theorem xw_and (h : PXt X T δ ω a x) (h2 : x = true → PXw X T δ ω (.BoolOp .And (b :: r) pos) y) : PXw X T δ ω (.BoolOp .And (a :: b :: r) pos) (x && y) := fun σ H rl t Q q =>
  ww (pw_and pt_w pw_w) (h σ H rl t _ fun H1 s1 l1 => by
    cases x with
    | true => exact iteT (h2 rfl σ H1 l1 (s1.tab t) Q fun H2 s2 l2 => q H2 (s1.trans s2) l2)
    | false => exact iteF (q H1 s1 l1))
theorem sd_setx (i : Nat) {x : Str} {pos' : Pos} (he : PX X T δ ω e d) (hk : SD X W T ss (δ.set i (some (.im d))) ω R) (hN : X.N.Nodup) (hi : X.N[i]? = some x := by rfl) (hx : Loc X.env.scope x := by first | exact Or.inl rfl | exact Or.inr rfl) (hs : swapsWith e (some (.Name x pos')) pos.line X.env = pure false := by rfl)
    (hf : X.fn x = true ∨ X.env.scope.names.lookup x = some .local := by first | exact .inl rfl | exact .inr rfl | assumption) : SD X W T (.Assign [.Name x pos'] e pos :: ss) δ ω R :=
  sd_cons (s1_set i (fun σ H rl t Q q _ => he σ H rl t Q fun v H' s l dv => q (.im d) ω v H' hk s l dv) hN hi hx hs hf)
theorem sd_ifx {kk : Bool} (h : PXt X T δ ω c kk) (h1 : kk = true → SD X W T sa δ ω (Nxt X W T ss R)) (h2 : kk = false → SD X W T sb δ ω (Nxt X W T ss R)) : SD X W T (.If c sa sb pos :: ss) δ ω R :=
  sd_cons fun σ H D rl t k => ws (ps_if pt_w pss_w pss_w) (h σ H rl t _ fun H' s l => by
    cases kk with
    | true => exact iteT (h1 rfl σ H' D l (s.tab t) (k.step s))
    | false => exact iteF (h2 rfl σ H' D l (s.tab t) (k.step s)))
theorem sd_ifxF (h : PXt X T δ ω c false) (h2 : SD X W T ss δ ω R) : SD X W T (.If c sa [] pos :: ss) δ ω R := sd_ifx h (fun z => by cases z) fun _ => sd_nil h2
theorem pxs_nil : PXs X T δ ω [] [] := fun σ H rl t Q k => wa pa_nil (k [] H .refl rl .nil)
theorem pxs_cons (ha : PX X T δ ω e d) (hr : PXs X T δ ω es ds) (hs : starEach (e :: es) X.env = (false, eval e X.env) :: starEach es X.env := by rfl) : PXs X T δ ω (e :: es) (d :: ds) := fun σ H rl t Q k =>
  wa (pa_cons pe_w pa_w hs) (ha σ H rl t _ fun v H1 s1 l1 d1 => hr σ H1 l1 (s1.tab t) _ fun vs H2 s2 l2 d2 => k (v :: vs) H2 (s1.trans s2) l2 (.cons (dp_ke s2.seen d v d1) d2))
end
section
variable {X : Cx} {T : List (Addr × Str)} {δ : De} {ω : Om} {d : PyData} {pos p : Pos} {k : Nat}
theorem px_told0 {x a : Str} {st : Stmt} {Ng : List Str} {p1 p2 p3 p8 lpos : Pos} {hd : ExceptHandler} {hs : List ExceptHandler} {params : Arguments} {body : Expr} {scope : Scope} (G : Told X.K X.mg x st) (L : LamT X T) (hT : T ≠ []) (hps : ω.ps = []) (hr : Room (k + 2) X.A)
    (hst : defBody st = [.Try [.Return (some (.Call (.Name a p1) [] [] p2)) p3] (hd :: hs) [] [] p8]) (S : FnScope Ng [a] (defScope st)) (hNg : Ng[0]? = some a) (hva : Vis (defScope st) a) (h0 : ∀ f : Addr, (L2.start Ng [V.ref f])[0]? = some (some (V.ref f)))
    (hbn : ∀ (kV doc pm : Value) (an : Option Addr) (cdv ct : Value) (us : List Value), us.length = [a].length → bindArgs (PySem.W.fnOf x x (defArgs st) (defBody st) (defScope st) .none kV doc pm an cdv ct) ⟨us, []⟩ = pure ([a].zip us))
    (hb : ∀ (A : Around) (outer : List Env) (s : Shared) (H : Hp) (E : XK) (f c' : Addr), Room k (A.deeper (LamX.lamEnv X scope s.heap.objs.size f c')) → PD (LamX.lamCx X A outer s H E scope f c') δ ω body d)
    (hL : LamX.LamS X.env.scope scope) (hdef : defaultsOf params X.env = ([], []) := by rfl) (hbind : ∀ (q : Str) (cl : List (Str × Addr)) (pm cv ctv : Value), bindArgs (PySem.W.kla_fn "<lambda>" q params body scope cl pm cv ctv) ⟨[], []⟩ = pure [] := by intros; rfl)
    (hg : Gl X x := by rfl) (hdb : (x == ("__debug__" : Str)) = false := by decide) (hd1 : (a == ("__debug__" : Str)) = false := by decide) (hcd1 : (a == ("__classdict__" : Str)) = false := by decide) : PX X T δ ω (.Call (.Name x p) [.Lambda params body scope lpos] [] pos) d := fun σ H rl t Q q => by
  obtain ⟨g, fd, F, hm⟩ := G.ex
  obtain ⟨c, P, TB, hcode, hmT, hu⟩ := L.ex
  obtain ⟨oc, od, dV, kV, doc, pm, an, cdv, ct, osl, rfl, lk, hcd, hD, hK⟩ := F.ex
  have edV : dV = .none := by
    rcases hD with ⟨_, e⟩ | ⟨e, _⟩
    · exact e
    · exact absurd rfl e
  subst edV
  have hG : LamX.GivesTo X Ng x (defScope st) g cdv (defBody st) a (X.env.qual ++ "<lambda>") TT0 := by
    rw [hst]
    exact told0 h0
  refine we (LamX.pe_lamcall (T := T) (TT := TT0) (t := fun E σ H Q => ∀ (A : Around) (outer : List Env) (s : Shared) (H0 : Hp) (f c' : Addr), Room k (A.deeper (LamX.lamEnv X scope s.heap.objs.size f c')) → wpe (LamX.lamCx X A outer s H0 E scope f c') body σ H Q)
    hg hm F.kp lk hcd (F.bindsN hbn) S hNg hva hG TB hcode hmT hu hr hL hdef hbind (fun A outer s H0 E f c' hr' => ⟨fun pins s' σ' H' Q' I h => pe_w.run pins s' σ' H' Q' I (h A outer s H0 f c' hr')⟩) hdb hd1 hcd1) ?_
  refine ⟨t, fun H1 eN T1 => ?_⟩
  show ∀ (A : Around) (outer : List Env) (s : Shared) (H0 : Hp) (f c' : Addr), Room k (A.deeper (LamX.lamEnv X scope s.heap.objs.size f c')) → wpe (LamX.lamCx X A outer s H0 (fun _ _ _ => False) scope f c') body σ H1 Q
  intro A outer s H0 f c' hr'
  have rl1 : Rl X.K H1 σ δ ω := rl_ext (T := T) eN hps rl
  refine hb A outer s H0 _ f c' hr' σ H1 rl1 Q fun v H2 s2 d2 => q v H2 ⟨fun b o h _ p => s2 b o (eN b o h (p.resolve_left hT)), fun a h => .inl h, rfl, fun _ => T1.ext s2⟩ (rl1.mono s2) d2
end
end FP

namespace FP
open PySem PySem.Spec PyProof.Rows L2
/-! ### the law's end -/
theorem law_at {l : PySem.W.OpenLaw} {w : World} {K : PySem.W.Frag} {mg : Str → Option Value} {h : Heap} {fa : List He.Fa} {fn : List He.DefD} {ts : List He.Tab} {ex : PySem.W.Frag → Bool} {params : Arguments} {body : List Stmt} {scope : Scope} {f : Addr} {N : List Str} {k : Nat} {x : Str}
    (KX : K.In h) (G : h.Ns mainGlobals mg) (hfa : mg "law" = some (.ref f)) (c : He.SaysX fa fn ts [("law", none)] ex w h K) (hd : (⟨("law", none), "law", "law", params, body, scope, [], []⟩ : He.DefD) ∈ fn) (hg : He.Fa.glo "law" ∈ fa) (S : FnScope N [x] scope)
    (hb : ∀ (kV doc pm : Value) (an : Option Addr) (cdv ct : Value) (us : List Value), us.length = [x].length → bindArgs (PySem.W.fnOf "law" "law" params body scope .none kV doc pm an cdv ct) ⟨us, []⟩ = pure ([x].zip us))
    (hbody : ∀ (base : Heap), K.In base → base.Ns mainGlobals mg → ∀ (T : List (Addr × Str)) (cdv : Value) (A : Around) (outer : List Env) (s : Shared) (H : Hp) (E : XK) (ns : List Int), T ≠ [] → LamT (cxOf (L2N.CX l.prog w) l.prog w K mg base N "law" scope f cdv A outer s H E) T →
      Room k (A.deeper (envOfC "law" scope s.heap.objs.size f cdv)) → ns.length ≤ 63 → (∀ z ∈ ns, Builtin.Int.intBits z ≤ 1048576) →
      SD (cxOf (L2N.CX l.prog w) l.prog w K mg base N "law" scope f cdv A outer s H E) (WOf E) T body (startD N [.list (ns.map .int)]) ⟨[], []⟩ FinT) :
    LamX.LawAtS l w K (L2N.CX l.prog w) (k + 1) 63 x mg f h := by
  have cd := c.t.d
  obtain ⟨fd, F⟩ := cd.defs hd
  have e := hfa.symm.trans (He.glo_ok KX G (cd.facts hg))
  cases e
  obtain ⟨oc, od, dV, kV, doc, pm, an, cdv, ct, osl, rfl, lk, hcd, hD, hK⟩ := F.ex
  have edV : dV = .none := by
    rcases hD with ⟨_, e⟩ | ⟨e, _⟩
    · exact e
    · exact absurd rfl e
  subst edV
  obtain ⟨cc, rfl⟩ := He.codeIn_ref hcd
  have ec : He.codeOf K ("law", none) = cc := He.codeOf_eq lk rfl
  have mem : (("law", none) : He.Defn) ∈ ([("law", none)] : List He.Defn) := List.mem_singleton.mpr rfl
  have hbA := FunD.bindsA (ps := [x]) F hb
  refine ⟨_, [He.cT K ("law", none)], spL K [((He.cT K ("law", none)).2, (Str.ofString "law" ++ ".<locals>.") ++ "<lambda>")], fun p hp => ?_, fun p hp => ?_, fun p hp => ?_, fun s u => hbA s [u] rfl, fun H a ns h1 h2 h3 h4 => ?_, fun base hB hN hTB => ?_⟩
  · rw [List.mem_singleton.mp hp]
    exact c.empty _ mem
  · rw [List.mem_singleton.mp hp]
    exact c.out _ mem
  · rw [List.mem_singleton.mp hp]
    exact PySem.W.codeHd_of_K KX (c.hd _ mem)
  · refine ⟨a, ns, rfl, h4, h1, h2, fun p hp => ?_, fun _ => rfl⟩
    rw [List.mem_singleton.mp hp]
    exact LamX.TabS.nil (h3 _ (List.mem_singleton.mpr rfl))
  · refine law_ok lk hcd S fun A outer s H E ns hr h1 h2 => hbody base hB hN _ (.ref cc) A outer s H E ns (by simp) ⟨cc, (He.cT K ("law", none)).2, ?_, rfl, List.mem_singleton.mpr rfl, fun p hp _ => by rw [List.mem_singleton.mp hp]; rfl⟩ hr h1 h2
    have z := hTB _ (List.mem_singleton.mpr rfl)
    have e1 : (He.cT K ("law", none)).1 = cc := ec
    rw [← e1]
    exact z
theorem cx_none {P : Program} {w : World} {H : Hp} {s : Shared} {e : Value} {s' : Shared} (h : L2N.CX P w [] H s (fun _ _ _ => False) e s') : False := by
  obtain ⟨_, _, _, _, _, _, _, _, _, _, _, _, z⟩ := h
  exact z.elim
theorem exc_of {K : PySem.W.Frag} {mg : Str → Option Value} {h : Heap} (KX : K.In h) (G : h.Ns mainGlobals mg) {x : Str} (c1 : (He.Fa.glo x).ok K = true) (c2 : (He.Fa.exc x).ok K = true) : ExcF K mg x (He.ga K x) := by
  obtain ⟨a, b, c, d⟩ := He.exc_ok c2
  exact ⟨a, He.glo_ok KX G c1, b, c, d⟩
theorem gld_int {K : PySem.W.Frag} {mg : Str → Option Value} {h : Heap} (KX : K.In h) (G : h.Ns mainGlobals mg) {x : Str} {i : Int} (c : (He.Fa.int x i).ok K = true) : GlD K mg x (.int i) := by
  obtain ⟨t, e⟩ := He.int_ok KX G c
  exact ⟨.int i, _, e, ⟨t, rfl⟩, fun _ => .int i⟩
end FP

namespace FP
open PySem PySem.Spec PyProof.Rows L2 HotX L2H
/-! ### while an exception is handled: a list is walked to its end -/
section
variable {prog : Program} {w : World} {A : Around} {E : Value → Shared → Prop} {s : Shared}
theorem next_end_hot {it l p : Addr} {i : Nat} {items : Array Value} {Q : Option Value → Shared → Prop} (hot : HotAt A p s.heap) (hp : p ≠ it) (hi : s.heap.IsListIter it l i) (hl : s.heap.IsList l items) (hx : items[i]? = none)
    (hQ : ∀ h', (∀ b o, b ≠ it → s.heap.get? b = some o → h'.get? b = some o) → Q none { s with heap := h' }) : wpAny (model prog w) A (pyNext (.ref it)) Q E s := by
  obtain ⟨oi, gi, ci, di⟩ := id hi
  obtain ⟨ol, gl, _, nl, dl⟩ := hl
  obtain ⟨hh, oe, ve, ge, de, ce⟩ := hot
  unfold pyNext
  refine wpAny_bind (wpAny_attempt (wpAny_callSpecial?_slot (name := Str.ofString "__next__") hi.typeIs slot_listiter_next (wpAny_call_entry slot_listiter_next hi.typeIs entry_listiter_next ?_ (args_listiter_next _))))
  show wpAny _ _ (field (.ref it) 0 >>= _) _ _ s
  refine wpAny_bind (wpAny_field gi di (x := .ref l) rfl ?_)
  show wpAny _ _ (if (Value.ref l == Value.none) = true then _ else _) _ _ s
  rw [if_neg (c := (Value.ref l == Value.none) = true) Bool.false_ne_true]
  show wpAny _ _ (field (.ref it) 1 >>= _) _ _ s
  refine wpAny_bind (wpAny_field gi di (x := .int i 0) rfl ?_)
  show wpAny _ _ (seqItems? (.ref l) >>= _) _ _ _
  refine wpAny_bind (wpAny_seqItems gl dl ?_)
  simp only [Int.toNat_natCast, hx]
  refine wpAny_bind (wpAny_rule (wpAny_bind (wpAny_setField gi di (by simp) ?_)))
  show wpAny _ _ (newExc (.type "StopIteration") [] >>= fun e => raiseNew e) _ _ _
  have ge1 : (s.heap.update it (Obj.mapFields (·.setIfInBounds 0 Value.none))).get? p = some oe := (Heap.get?_update_other _ _ (Ne.symm hp)).trans ge
  have old : ∀ b o, b ≠ it → s.heap.get? b = some o → (s.heap.update it (Obj.mapFields (·.setIfInBounds 0 Value.none))).get? b = some o := fun b o n z => (Heap.get?_update_other _ _ (Ne.symm n)).trans z
  refine wpAny_bind ?_
  simp only [newExc, newTuple]
  refine wpAny_bind (wpAny_newObj_type (wpAny_bind (m := firstArgMember _ _) (wpAny_of_eq (a := Value.none) (by first | rfl | (simp only [firstArgMember]; rfl)) (wpAny_newObj_type ?_ (by size_fits)))) (by size_fits))
  refine raiseNew_hot ⟨hh, oe, ve, Heap.get?_push_of_some _ (Heap.get?_push_of_some _ ge1), de, ce⟩ (Nat.ne_of_lt (Heap.lt_size (Heap.get?_push_of_some _ ge1))) (Heap.get?_push_size _ rfl) rfl (by first | (simp; done) | (simp; omega) | (simp only [Array.size_append]; simp; omega)) ?_
  refine wpAny_bind (wpAny_isInstance (T := "StopIteration") (b := true) ⟨_, Heap.get?_update_self _ (Heap.get?_push_size _ rfl) rfl, rfl⟩ isSubtype_stop (wpAny_pure (hQ _ fun b o n z => ?_)))
  rw [Heap.get?_update_other _ _ (Nat.ne_of_gt (Heap.lt_size (Heap.get?_push_of_some _ (old b o n z))))]
  exact Heap.get?_push_of_some _ (Heap.get?_push_of_some _ (old b o n z))
end
end FP

namespace FP
open PySem PySem.Spec PyProof.Rows L2 HotX L2H
/-- a list that is walked while p is handled -/
theorem walk_hot {prog : Program} {w : World} {A : Around} {it l p : Addr} {items : Array Value} (hl : l ≠ it) (hp : p ≠ it) :
    WalksS prog w A it [it, l, p] [it] (fun a b => b = a) items.size (fun i v => items[i]? = some v) (fun i s => s.heap.IsListIter it l i ∧ s.heap.IsList l items ∧ HotAt A p s.heap) where
  sub := fun b hb => by
    rw [List.mem_singleton.mp hb]
    exact List.mem_cons_self
  grefl := fun _ => rfl
  gtrans := fun _ _ _ a b => b.trans a
  frame := fun i s h' tk st _ k => by
    obtain ⟨s1, s2, hh, oe, ve, ge, de, ce⟩ := st
    exact ⟨s1.at fun o e => k it (by simp) o e, s2.at fun o e => k l (by simp) o e, hh, oe, ve, k p (by simp) _ ge, de, ce⟩
  item := fun i s Q E hi st q => by
    obtain ⟨s1, s2, hh, oe, ve, ge, de, ce⟩ := st
    refine wpAny_pyNext_list_item s1 s2 (x := items[i]) (by simp [hi]) fun h' t sb => q _ _ (by simp [hi]) ⟨t, s2.extBut sb.extBut hl, hh, oe, ve, (sb.2 p hp).trans ge, de, ce⟩ ⟨fun b o hb e => (sb.2 b fun z => hb (by simp [z])).trans e, rfl, rfl, rfl, Nat.le_refl _⟩
  done := fun s Q E st q => by
    obtain ⟨s1, s2, h⟩ := st
    exact next_end_hot h hp s1 s2 (by simp) fun h' k => q _ ⟨fun b o hb e => k b o (fun z => hb (by simp [z])) e, rfl, rfl, rfl, Nat.le_refl _⟩
  self := fun _ _ _ _ st h => wpAny_pyIter_listiter st.1 h
theorem preSum_take {f : Nat → Int} {ns : List Int} (h : ∀ i, i < ns.length → f i = ns.getD i 0) : ∀ j, j ≤ ns.length → preSum f j = (ns.take j).sum
  | 0, _ => by simp [preSum]
  | j + 1, hj => by
    have e : ns.take (j + 1) = ns.take j ++ [ns.getD j 0] := by
      rw [List.take_add_one]
      simp [List.getElem?_eq_getElem (show j < ns.length by omega)]
    rw [preSum, preSum_take h j (by omega), h j (by omega), e, List.sum_append]
    simp
/-- sum(xs) of a list of whole numbers, while an exception is handled -/
theorem cr_sumH {X : Cx} (hc : HotC X) : CallR X (.builtin "sum") (rSum X.K) := by
  intro pins s σ H vs us Q I r h
  obtain ⟨a, ns, rfl, hs, q⟩ := h
  obtain ⟨its, rv, hl, _⟩ := I.list hs
  obtain ⟨p, hh, oe, ve, ge, de, ce⟩ := hc.at I
  rw [Vals.ref1 r]
  have lt : a < s.heap.objs.size := by
    obtain ⟨_, e, _⟩ := hl.isList
    exact Heap.lt_size e
  have ltp : p < s.heap.objs.size := Heap.lt_size ge
  have len : its.length = ns.length := by
    rw [← rv.length, List.length_map]
  refine call_sum_walkAnyS (wpAny_pyIter_list hl.isList ?_)
  refine ⟨_, _, _, _, _, _, _, fun i => ns.getD i 0, rfl, walk_hot (l := a) (p := p) (items := its.toArray) (Nat.ne_of_lt lt) (Nat.ne_of_lt ltp), ⟨⟨_, Heap.get?_push_size _ rfl, rfl, rfl⟩, hl.isList.push _, hh, oe, ve, Heap.get?_push_of_some _ ge, de, ce⟩, fun b hb => ?_, fun i v hv => ?_, fun s' t' m => ?_⟩
  · rw [Heap.size_push]
    rcases List.mem_cons.mp hb with z | hb
    · rw [z]
      exact Nat.lt_succ_self _
    · rcases List.mem_cons.mp hb with z | hb
      · rw [z]
        exact Nat.lt_succ_of_lt lt
      · rw [List.mem_singleton.mp hb]
        exact Nat.lt_succ_of_lt ltp
  · have hi : i < ns.length := by
      have := (Array.getElem?_eq_some_iff.mp hv).1
      simp at this
      omega
    have e1 : (ns.map V.int)[i]? = some (V.int (ns.getD i 0)) := by
      rw [List.getElem?_map, List.getElem?_eq_getElem hi, List.getD_eq_getElem?_getD, List.getElem?_eq_getElem hi]
      rfl
    obtain ⟨u, hu, ru⟩ := rv.get e1
    have e2 : some v = some u := by
      rw [← hv, ← hu]
      simp
    cases e2
    exact ru
  · have e := preSum_take (f := fun i => ns.getD i 0) (ns := ns) (fun _ _ => rfl) ns.length (Nat.le_refl _)
    have e2 : its.toArray.size = ns.length := by simp [len]
    rw [e2, e, List.take_length]
    obtain ⟨m1, m2, m3, m4, m5⟩ := m
    obtain ⟨h', g', d', k', o'⟩ := s'
    cases m2
    cases m3
    cases m4
    exact ⟨.int _, H, I.kept (h' := h') (t' := k') fun b o z => m1 b o (fun n => by
      rw [List.mem_singleton.mp n] at z
      exact absurd (Heap.lt_size z) (Nat.lt_irrefl _)) (Heap.get?_push_of_some _ z), ⟨_, rfl⟩, q⟩
end FP

namespace FP
open PySem PySem.Spec PyProof.Rows L2 HotX L2H
/-- [elt for name in a list], while an exception is handled; what comes out lies on no heap -/
def tLh (K : PySem.W.Frag) (j : Nat) (tl te : TE) : TE := fun σ H Q => tl σ H fun v G => ∃ (a : Addr) (xs ys : List V), v = .ref a ∧ SqL K G a xs ∧ ys.length = xs.length ∧ xs.length ≤ 1000 ∧
  (∀ (i : Nat) (x y : V), xs[i]? = some x → ys[i]? = some y → ∀ G1, Same G G1 → ∀ R : VK, (∀ G2, Same G1 G2 → R y G2) → te (σ.set j (some x)) G1 R) ∧
  ∀ D G1, G D = none → Same G G1 → G1 D = some (.lst ys) → Q (.ref D) G1
section
variable {X : Cx}
theorem pe_lcH {elt l : Expr} {scope : Scope} {y : Str} {py pos : Pos} {j : Nat} {tl te : TE} (hc : HotC X) (hN : X.N.Nodup) (hl : PE X l tl) (ok : BlkOk X.N X.env.scope scope [(y, j)])
    (hg : ∀ (s : Shared) (H : Hp) (C : Addr) (cl : List (Str × Addr)) (fp : List Addr), PG (X.blk s H scope (compEnvC scope cl C X.env) fp) (.Name y py) (gName j))
    (he : ∀ (s : Shared) (H : Hp) (C : Addr) (cl : List (Str × Addr)) (fp : List Addr), PE (X.blk s H scope (compEnvC scope cl C X.env) fp) elt te)
    (hs : ∀ x, foldedSetIterable l X.env x = pure x := by intro _; rfl) : PE X (.ListComp elt [⟨.Name y py, l, [], 0⟩] scope pos) (tLh X.K j tl te) := by
  refine ⟨fun pins s0 σ H Q I h => ?_⟩
  have clo : ∀ z ∈ scope.names, z.2 = .free → ∃ c, X.env.cells.lookup z.1 = some c := fun z hz e => I.ok.has _ ((ok.free z hz e).elim .inl .inr)
  rw [eval_ListComp]
  refine wpAny_comprehension_free (use := none) rfl hs (closure_ok clo) ok.kind (fun z hz e => by rw [ok.uniq z hz, e]) (thn (hl.run pins s0 σ H _ I h) fun lv sa hx => ?_)
  obtain ⟨v, G, Ia, rv, a, xs, ys, ev, hsq, hlen, hsm, hstep, hend⟩ := hx
  subst ev
  obtain rfl : lv = Value.ref a := rv
  obtain ⟨its, rits, pl, _⟩ := Ia.list hsq
  obtain ⟨pp, hot1, hpn⟩ := hc
  have PP := Ia.pin pp (List.mem_append_left _ hpn)
  obtain ⟨hh, ve, de, ce⟩ := hot1
  -- the iterator, then the new list
  refine wpAny_pyIter_list pl.isList (wpAny_newObj_type (newEnv_comp ?_) (by show 0 ≤ sizeLine; decide))
  generalize eI : sa.heap.objs.size = it
  have fI : FpOk X pins G it := Ia.fpOk (Nat.le_of_eq eI) (Ia.hok.fresh (Nat.le_of_eq eI))
  generalize eb : ({ sa with heap := sa.heap.push { cls := .type "list_iterator", data := .fields #[.ref a, .int 0 0] } } : Shared) = sb
  have hb : sb.heap = sa.heap.push { cls := .type "list_iterator", data := .fields #[.ref a, .int 0 0] } := by rw [← eb]
  have Ib : Inv X pins σ G sb := by
    rw [← eb]
    exact Ia.kept (t' := sa.toks) fun b o e => Heap.get?_push_of_some _ e
  have turn0 : sb.heap.IsListIter it a 0 := by
    rw [hb, ← eI]
    exact ⟨_, Heap.get?_push_size _ rfl, rfl, rfl⟩
  have szI : it < sb.heap.objs.size := by
    obtain ⟨_, e, _⟩ := turn0
    exact Heap.lt_size e
  generalize eD : sb.heap.objs.size = D
  have nD : G D = none := Ib.hok.fresh (Nat.le_of_eq eD)
  have ItD : it ≠ D := by
    rw [← eD]
    exact Nat.ne_of_lt szI
  generalize ec : ({ sb with heap := sb.heap.push { cls := .type "list", data := .seq ([] : List Value).toArray } } : Shared) = sc
  have hcH : sc.heap = sb.heap.push { cls := .type "list", data := .seq ([] : List Value).toArray } := by rw [← ec]
  have Ic : Inv X pins σ (upd G D (.lst [])) sc := by
    rw [← ec]
    refine Ib.laid (t' := sb.toks) (fun b o e => Heap.get?_push_of_some _ e) (Nat.le_of_eq eD) ⟨Nat.zero_le _, [], 0, .nil, ?_⟩
    rw [← eD]
    exact Heap.get?_push_size _ rfl
  have fIc : FpOk X pins (upd G D (.lst [])) it := ⟨by rw [upd_ne ItD]; exact fI.1, fI.2⟩
  have szc : it < sc.heap.objs.size := by
    rw [hcH, Heap.size_push]
    exact Nat.lt_succ_of_lt szI
  have all1 : ∀ b ∈ [it], FpOk X pins (upd G D (.lst [])) b ∧ b < sc.heap.objs.size := fun b hb1 => by
    rw [List.mem_singleton.mp hb1]
    exact ⟨fIc, szc⟩
  have Id := block_start Ic ok hN all1
  have pg := hg sc (upd G D (.lst [])) sc.heap.objs.size (cellsFrom (sc.heap.objs.size + 1) scope.names (cloFrom X.env.cells scope.names [])) [it]
  have pe := he sc (upd G D (.lst [])) sc.heap.objs.size (cellsFrom (sc.heap.objs.size + 1) scope.names (cloFrom X.env.cells scope.names [])) [it]
  have PPc := Ic.pin pp (List.mem_append_left _ hpn)
  have nPit : pp.1 ≠ it := fI.2.2.2.2.2 pp (List.mem_append_left _ hpn)
  have nPstk : pp.1 ∉ frs X.stack := fun z => (List.mem_cons.mp (Ic.stkSub pp.1 z)).elim PPc.2.2.1 PPc.2.2.2.1
  show codeAny _ _ (.compStart (.ListComp elt [⟨.Name y py, l, [], 0⟩] scope pos) 0 (.ref it) (.ref D) (compEnvC scope (cellsFrom (sc.heap.objs.size + 1) scope.names (cloFrom X.env.cells scope.names [])) sc.heap.objs.size X.env)) (compPost (model X.prog X.w) X.A X.xe none _ (.ref D) sc.heap.objs.size) { sc with heap := pushCells (sc.heap.push { cls := .type "dict", data := .dict #[] }) scope.names }
  generalize eE : compEnvC scope (cellsFrom (sc.heap.objs.size + 1) scope.names (cloFrom X.env.cells scope.names [])) sc.heap.objs.size X.env = ce1 at Id pg pe ⊢
  have eL : ce1.locals = sc.heap.objs.size := by
    subst eE
    rfl
  generalize ed : ({ sc with heap := pushCells (sc.heap.push { cls := .type "dict", data := .dict #[] }) scope.names } : Shared) = sd at Id ⊢
  have turnD : sd.heap.IsListIter it a 0 := turn0.at fun o e => by
    rw [← ed]
    refine pushCells_keeps _ _ _ _ (Heap.get?_push_of_some _ ?_)
    rw [hcH]
    exact Heap.get?_push_of_some _ e
  -- what holds at the i-th turn
  have hotIn : ∀ {σ' : L2.St} {H' : Hp} {s' : Shared} {pins' : List (Addr × Obj)}, Inv (X.blk sc (upd G D (.lst [])) scope ce1 [it]) pins' σ' H' s' → HotAt X.A pp.1 s'.heap := fun {σ' H' s' pins'} J =>
    ⟨hh, pp.2, ve, J.base.keep pp.1 pp.2 PPc.1 PPc.2.1 nPstk (fun z => nPit (List.mem_singleton.mp z)), de, ce⟩
  have free1 : ∀ {σ' : L2.St} {H' : Hp} {s' : Shared}, Inv (X.blk sc (upd G D (.lst [])) scope ce1 [it]) [] σ' H' s' → H' it = none → FpOk (X.blk sc (upd G D (.lst [])) scope ce1 [it]) [] H' it := fun {σ' H' s'} J n =>
    ⟨n, (J.ok.exf it List.mem_cons_self).1, J.ok.exfs it List.mem_cons_self, .inl List.mem_cons_self, (J.ok.exf it List.mem_cons_self).2, fun q hq => nomatch (show q ∈ ([] : List (Addr × Obj)) from hq)⟩
  have sqIn : ∀ {H' : Hp}, (∀ b o, b ≠ D → G b = some o → H' b = some o) → SqL X.K H' a xs := fun {H'} k => by
    have s1 : Same G (upd H' D (.lst [])) := fun b o e => by
      by_cases z : b = D
      · rw [z, nD] at e
        cases e
      · rw [upd_ne z]
        exact k b o z e
    rcases hsq with (g | ⟨o, g⟩) | g
    · exact .inl (.inl (k a _ (fun z => by rw [z, nD] at g; cases g) g))
    · exact .inl (.inr ⟨o, k a _ (fun z => by rw [z, nD] at g; cases g) g⟩)
    · exact .inr g
  have loop : codeAny (model X.prog X.w) X.A (.compLoop (.ListComp elt [⟨.Name y py, l, [], 0⟩] scope pos) 0 (.ref it) (.ref D) ce1) (compPost (model X.prog X.w) X.A X.xe none (EP X pins σ Q) (.ref D) sc.heap.objs.size) sd := by
    refine compLoop_any (fun m s' => ∃ i H', m = xs.length - i ∧ i ≤ xs.length ∧ Inv (X.blk sc (upd G D (.lst [])) scope ce1 [it]) [] (wipe σ [j]) H' s' ∧ s'.heap.IsListIter it a i ∧ H' it = none ∧ H' D = some (.lst (ys.take i)) ∧ ∀ b o, b ≠ D → G b = some o → H' b = some o) ?_ xs.length
      ⟨0, _, by omega, Nat.zero_le _, Id, turnD, fIc.1, by rw [List.take_zero]; exact upd_same, fun b o n e => by rw [upd_ne n]; exact e⟩
    rintro m s5 ⟨i, H5, em, hi, I5, t5, n5, d5, k5⟩
    obtain ⟨its5, r5, pl5, _⟩ := I5.list (sqIn k5)
    have F5 := free1 I5 n5
    by_cases hlt : i < xs.length
    · have ex : xs[i]? = some xs[i] := List.getElem?_eq_getElem hlt
      have ey : ys[i]? = some ys[i] := List.getElem?_eq_getElem (by omega)
      obtain ⟨u, hu, ru⟩ := r5.get ex
      refine wpAny_pyNext_list_item t5 pl5.isList (x := u) (by simpa using hu) fun h6 t6 sb6 => ?_
      have I6 : Inv (X.blk sc (upd G D (.lst [])) scope ce1 [it]) [] (wipe σ [j]) H5 { s5 with heap := h6 } := I5.turned (t' := s5.toks) (fun b o n e => (sb6.2 b n).trans e) F5.1 F5.2.1 F5.2.2.2.1 F5.2.2.2.2.1 F5.2.2.2.2.2
      obtain ⟨o6, e6, c6, q6⟩ := id t6
      refine go_of (s := { s5 with heap := h6 }) e6 c6 q6 (by decide) ?_
      have I7 := I6.pinned (fp := [it]) (fun b hb1 => by rw [List.mem_singleton.mp hb1]; exact free1 I6 n5) (fun b hb1 => by
        rw [List.mem_singleton.mp hb1]
        exact ⟨o6, e6, fun v z => by rw [q6] at z; cases z⟩)
      refine thnF (pg.run _ _ _ H5 xs[i] u (fun σ8 H8 => σ8 = σ.set j (some xs[i]) ∧ H8 = H5) I7 ru ⟨by show ((σ.set j none).set j (some xs[i])) = _; rw [List.set_set], rfl⟩) fun _ s8 w8 => ?_
      obtain ⟨σ8, H8, I8, w8, w9⟩ := w8
      subst w8
      subst w9
      refine wpAny_tests_nil ?_
      simp only [if_true]
      -- the element; D hidden away
      have s1 : ∃ G1, Same G G1 ∧ True := ⟨G, Same.refl G, trivial⟩
      refine thnF (pe.run _ s8 _ H8 (fun z H9 => z = ys[i] ∧ H9 D = some (.lst (ys.take i)) ∧ ∀ b o, H8 b = some o → H9 b = some o) I8 ?_) fun uz s9 w => ?_
      · refine hstep i xs[i] ys[i] ex ey H8 (fun b o e => k5 b o (fun z => by rw [z, nD] at e; cases e) e) _ fun G2 s2 => ⟨rfl, s2 D _ d5, fun b o e => s2 b o e⟩
      · obtain ⟨z, H9, I9, r9, z9, d9, k9⟩ := w
        subst z9
        refine app_ok (X := X.blk sc (upd G D (.lst [])) scope ce1 [it]) I9 d9 (by rw [List.length_take]; exact Nat.lt_of_le_of_lt (Nat.min_le_left _ _) (Nat.lt_of_lt_of_le hlt (Nat.le_trans hsm (by rw [sizeLine_eq]; decide)))) r9 fun s11 I11 => ?_
        have P11 := I11.pin (it, o6) (List.mem_append_right _ (List.mem_append_right _ (mem_pinsAt List.mem_cons_self e6)))
        refine ⟨xs.length - (i + 1), by omega, i + 1, _, rfl, hlt, (I11.unpinned (pins := [])).weak (by show (σ.set j none).length = (σ.set j (some xs[i])).length; rw [List.length_set, List.length_set]) (fun q v e => ?_), ⟨o6, P11.1, c6, q6⟩, P11.2.1, ?_, fun b o n e => ?_⟩
        · have e : (σ.set j none)[q]? = some (some v) := e
          by_cases hq : j = q
          · subst hq
            by_cases hz : j < σ.length
            · rw [List.getElem?_set_self hz] at e
              cases e
            · rw [List.getElem?_eq_none (by rw [List.length_set]; omega)] at e
              cases e
          · rw [List.getElem?_set_ne hq] at e ⊢
            exact e
        · rw [upd_same, List.take_add_one, ey]
          rfl
        · rw [upd_ne n]
          exact k9 b o (k5 b o n e)
    · have ei : i = xs.length := by omega
      subst ei
      refine next_end_hot (hotIn I5) nPit t5 pl5.isList (by have := r5.length; simp; omega) fun h6 k6 => ?_
      have I6 : Inv (X.blk sc (upd G D (.lst [])) scope ce1 [it]) [] (wipe σ [j]) H5 { s5 with heap := h6 } := I5.turned (t' := s5.toks) (fun b o n e => k6 b o n e) F5.1 F5.2.1 F5.2.2.2.1 F5.2.2.2.2.1 F5.2.2.2.2.2
      have I7 : Inv X pins σ H5 { s5 with heap := h6 } := Ic.call' (ch := [it]) I6.os I6.base I6.hok I6.bare fun b hb1 => by
        rw [List.mem_singleton.mp hb1]
        exact ⟨fIc.2.2.2.1, fIc.2.1, fIc.2.2.2.2.1, fIc.2.2.2.2.2⟩
      have nC : H5 sc.heap.objs.size = none := by
        have z : H5 ce1.locals = none := I6.free
        rw [eL] at z
        exact z
      obtain ⟨mm, hn, _⟩ := I6.loc
      have hn : ({ s5 with heap := h6 } : Shared).heap.Ns ce1.locals mm := hn
      rw [eL] at hn
      obtain ⟨f0, f1, f2, f3, f4, f5⟩ := Ic.fpOk (H' := H5) (Nat.le_refl sc.heap.objs.size) nC
      refine ⟨mm, hn, fun h'' sb2 => ⟨.ref D, H5, I7.turned (t' := s5.toks) (fun b o n e => (sb2.2 b n).trans e) f0 f1 f3 f4 f5, rfl, ?_⟩⟩
      rw [← hlen, List.take_length] at d5
      exact hend D H5 nD (fun b o e => k5 b o (fun z => by rw [z, nD] at e; cases e) e) d5
  exact codeAny_compStart_list loop (wpAny_pyIter_listiter turnD loop)
end
end FP

namespace FP
open PySem PySem.Spec PyProof.Rows L2 HotX L2H
/-! ### isinstance of the exception that is handled -/
theorem call_isP {X : Cx} {q : Addr × Obj} {D : Addr} (hq : q ∈ X.pn) (C : ExcC X.K D) (z1 : q.2.cls = .ref D) (z2 : q.2.dict = none) (hf : ∃ vs, q.2.data = .fields vs) : CallR X (.builtin "isinstance") (rIsE X.K D q.1) := by
  intro pins s σ H xs us Q I r h
  obtain ⟨c, cv, b, rfl, hcv, e, k⟩ := h
  cases r with
  | cons r1 r2 =>
    cases r2 with
    | cons r3 r4 =>
      cases r4
      cases r1
      have e3 := hcv _ r3
      subst e3
      have got := (I.pin q (List.mem_append_left _ hq)).1
      obtain ⟨vs, hv⟩ := hf
      have J : PySem.W.InstAt s.heap q.1 q.2 D none := by
        obtain ⟨qa, oc, od, oda, osl⟩ := q
        dsimp only at z1 z2 hv got ⊢
        subst z1 z2 hv
        exact ⟨got, rfl, rfl, trivial⟩
      exact PySem.W.kia_one (PySem.W.handS_kitx_exc C.hg C.hk C.hs C.hd C.ha C.hn C.ht C.hm) I.kIn J e (fun z => nomatch z) fun t => ⟨.bl b, H, I.kept (t' := t) fun _ _ z => z, rfl, k⟩
/-- what the head says of a class whose instances are asked -/
def excB (K : PySem.W.Frag) (D : Addr) : Bool :=
  He.eqO (PySem.W.findIn K (.ref D) "__getattribute__") (some (some (.builtin "BaseException.__getattribute__"))) && (He.eqO (PySem.W.findIn K (.ref D) "__getattr__") (some none) && (decide (PySem.W.subIn K (.ref D) (.type "BaseException") = some true) && (PySem.W.hasDictIn K D &&
  (He.eqO (PySem.W.findIn K (.ref D) "__class__") (some (some (.builtin "object.__class__"))) && (He.eqO (PySem.W.specialIn K (.builtin "object.__class__") "__get__") (some (some (.builtin "getset_descriptor.__get__"))) && (decide (PySem.W.takesIn K (.builtin "object.__class__") = some true) && decide (PySem.W.mroIn K D (.type "object") = some true)))))))
theorem excB_ok {K : PySem.W.Frag} {D : Addr} (h : excB K D = true) : ExcC K D := by
  obtain ⟨h1, h⟩ := He.ba h
  obtain ⟨h2, h⟩ := He.ba h
  obtain ⟨h3, h⟩ := He.ba h
  obtain ⟨h4, h⟩ := He.ba h
  obtain ⟨h5, h⟩ := He.ba h
  obtain ⟨h6, h⟩ := He.ba h
  obtain ⟨h7, h⟩ := He.ba h
  exact ⟨He.eqO_ok h1, He.eqO_ok h2, of_decide_eq_true h3, h4, He.eqO_ok h5, He.eqO_ok h6, of_decide_eq_true h7, of_decide_eq_true h⟩
/-- what a word about exceptions of class D finds: the classes asked, the answers -/
def wordB (K : PySem.W.Frag) (D : Str) (cs : List (Str × Bool)) : Bool :=
  excB K (He.ga K D) && (cs.all (fun c => decide (PySem.W.kitOne K (.ref (He.ga K D)) (.ref (He.ga K c.1)) = some c.2)) && decide (PySem.W.kitOne K (.ref (He.ga K D)) (.type "ValueError") = some true))
theorem wordB_ok {K : PySem.W.Frag} {D : Str} {cs : List (Str × Bool)} (h : wordB K D cs = true) : ExcC K (He.ga K D) ∧ (∀ c ∈ cs, PySem.W.kitOne K (.ref (He.ga K D)) (.ref (He.ga K c.1)) = some c.2) ∧ PySem.W.kitOne K (.ref (He.ga K D)) (.type "ValueError") = some true := by
  obtain ⟨h1, h⟩ := He.ba h
  obtain ⟨h2, h3⟩ := He.ba h
  exact ⟨excB_ok h1, fun c hc => of_decide_eq_true (List.all_eq_true.mp h2 c hc), of_decide_eq_true h3⟩
/-- the pinned exception of class D -/
structure Pin (X : Cx) (q : Addr × Obj) (D : Addr) : Prop where
  m : q ∈ X.pn
  C : ExcC X.K D
  z1 : q.2.cls = .ref D
  z2 : q.2.dict = none
  hf : ∃ vs, q.2.data = .fields vs
section
variable {X : Cx} {δ : De} {ω : Om} {a b c e : Expr} {es : List Expr} {d : PyData} {ds : List PyData} {pos p p1 p2 : Pos} {q : Addr × Obj} {D : Addr} {k : Bool}
theorem pd_isP (i : Nat) {y x : Str} {cv : V} {u : Value} (Z : Pin X q D) (hn : PE X (.Name x p2) (tC cv)) (hu : ∀ v, RelV cv v → v = u) (hk : PySem.W.kitOne X.K (.ref D) u = some k) (hm : X.mg "isinstance" = none) (hd : δ[i]? = some (some (.ad q.1)) := by rfl) (hN : X.N[i]? = some y := by rfl)
    (hv : Vis X.env.scope y := by first | exact Or.inl rfl | exact Or.inr (Or.inl rfl) | exact Or.inr (Or.inr rfl)) (h1 : (y == ("__debug__" : Str)) = false := by decide) (h2 : (y == ("__classdict__" : Str)) = false := by decide) (hg : Gl X "isinstance" := by rfl)
    (he : starEach [.Name y p1, .Name x p2] X.env = (false, eval (.Name y p1) X.env) :: starEach [.Name x p2] X.env := by rfl) (he2 : starEach [.Name x p2] X.env = (false, eval (.Name x p2) X.env) :: starEach [] X.env := by rfl) (hpl : (backTo pos (starEach [.Name x p2] X.env)).any (·.1) = false := by rfl) :
    PD X δ ω (.Call (.Name "isinstance" p) [.Name y p1, .Name x p2] [] pos) (.bool k) := fun σ H rl Q r => by
  obtain ⟨v, e1, e2⟩ := rl.sl i _ hd
  have e2 : v = .ref q.1 := e2
  subst e2
  exact we (pe_callB (call_isP Z.m Z.C Z.z1 Z.z2 Z.hf) hg hm (by decide +kernel) (pa_cons (pe_var hN hv h1 h2) (pa_cons hn pa_nil he2) he) (he := he) (hpl := hpl)) ⟨_, e1, cv, u, k, rfl, hu, hk, r _ H (Same.refl H) (.bl _)⟩
theorem pd_intB (hm : X.mg "int" = none) (ha : PD X δ ω a (.bool k)) (hg : Gl X "int" := by rfl) (he : starEach [a] X.env = (false, eval a X.env) :: starEach [] X.env := by rfl) : PD X δ ω (.Call (.Name "int" p) [a] [] pos) (.int (if k then 1 else 0)) :=
  pd_callTy call_int1 (fun ps vs H _ h Q r => by
    cases h with
    | cons h1 h2 =>
      cases h2
      cases h1
      exact .inr ⟨k, rfl, r _ H (Same.refl H) (.int _)⟩) hm (by decide +kernel) (pds_cons ha pds_nil he) hg (by decide) (by decide) he (by rfl)
/-- sum([elt for y in l]), of truths, while an exception is handled -/
theorem pd_sumH {elt l : Expr} {scope : Scope} {y : Str} {py lpos : Pos} {j : Nat} {bs : List Bool} (hc : HotC X) (hN : X.N.Nodup) (hl : PL X δ ω l (bs.map .bool)) (hz : bs.length ≤ 1000) (ok : BlkOk X.N X.env.scope scope [(y, j)])
    (hg : ∀ (s : Shared) (H : Hp) (C : Addr) (cl : List (Str × Addr)) (fp : List Addr), PG (X.blk s H scope (compEnvC scope cl C X.env) fp) (.Name y py) (gName j))
    (he : ∀ (b : Bool) (s : Shared) (H : Hp) (C : Addr) (cl : List (Str × Addr)) (fp : List Addr), PD (X.blk s H scope (compEnvC scope cl C X.env) fp) (δ.set j (some (.im (.bool b)))) ω elt (.int (if b then 1 else 0)))
    (hm : X.mg "sum" = none) (hgs : Gl X "sum" := by rfl) (hs : ∀ x, foldedSetIterable l X.env x = pure x := by intro _; rfl)
    (hst : starEach [.ListComp elt [⟨.Name y py, l, [], 0⟩] scope lpos] X.env = (false, eval (.ListComp elt [⟨.Name y py, l, [], 0⟩] scope lpos) X.env) :: starEach [] X.env := by rfl) :
    PD X δ ω (.Call (.Name "sum" p) [.ListComp elt [⟨.Name y py, l, [], 0⟩] scope lpos] [] pos) (.int (bs.map fun b => if b then 1 else 0).sum) := fun σ H rl Q r =>
  we (pe_callB (cr_sumH hc) hgs hm boot_sum (pa_cons (pe_lcH (j := j) hc hN pe_w ok hg (fun s H0 C cl fp => pe_blk s H0 C cl fp) hs) pa_nil hst) (he := hst)) (hl σ H rl _ fun a vs G s1 h1 h2 => by
    have ev : vs = bs.map V.bl := dpa_bl h2
    subst ev
    refine ⟨a, _, bs.map fun b => V.int (if b then 1 else 0), rfl, h1, by simp, by simpa using hz, fun i x y ex ey G1 s2 R kk s H0 C cl fp => ?_, fun D G1 nD s2 hD => ?_⟩
    · obtain ⟨b, eb, rfl⟩ : ∃ b, bs[i]? = some b ∧ x = V.bl b := by
        rw [List.getElem?_map] at ex
        cases e : bs[i]? with
        | none =>
          rw [e] at ex
          cases ex
        | some b =>
          rw [e] at ex
          cases ex
          exact ⟨b, rfl, rfl⟩
      rw [List.getElem?_map, eb] at ey
      cases ey
      refine he b s H0 C cl fp _ G1 (((rl.mono s1).mono s2).set (x := .im (.bool b)) (.bl b)) R fun v G2 s3 dv => ?_
      cases dv
      exact kk G2 s3
    · refine ⟨D, bs.map fun b => if b then 1 else 0, rfl, SqL.of ?_, r _ G1 (s1.trans s2) (.int _)⟩
      rw [List.map_map]
      exact hD)
/-- l.index(True) of a list of truths -/
theorem pd_idxT {l : Expr} {apos : Pos} {bs : List Bool} {j m : Nat} (hl : PL X δ ω l (bs.map .bool)) (hj : bs[j]? = some true) (hn : ∀ i, i < j → bs[i]? = some false)
    (hbase : attributeBase l "index" X.env (eval l X.env) = eval l X.env := by rfl)
    (hfew : ((backTo pos (starEach [.Constant (.bool true) m p1] X.env)).all (fun x => !x.1) && (backToKw pos (keywordEach [] X.env)).all (fun x => x.1.isSome)
      && decide (([.Constant (.bool true) m p1] : List Expr).length + ([] : List Keyword).length + (if ([] : List Keyword).isEmpty then 0 else 1) < 30)) = true := by rfl)
    (hline : (apos.endLine == pos.line) = true := by rfl) (hs : starEach [.Constant (.bool true) m p1] X.env = (false, eval (.Constant (.bool true) m p1) X.env) :: starEach [] X.env := by rfl) :
    PD X δ ω (.Call (.Attribute l "index" apos) [.Constant (.bool true) m p1] [] pos) (.int (j : Nat)) := fun σ H rl Q r =>
  we (pe_bm PySem.F.plainAttrs_list PySem.F.slot_list_index (by first | rfl | kernel_rfl | decide +kernel) mt_index pe_w (pa_cons pe_bl pa_nil hs) hbase hfew hline hs) (hl σ H rl _ fun a vs G s1 h1 h2 => by
    have ev : vs = bs.map V.bl := dpa_bl h2
    subst ev
    refine ⟨.inl ⟨rfl, _, h1⟩, a, _, _, j, .bl true, rfl, rfl, h1, rfl, ?_, ?_, rfl, fun m z lt e => ?_, r _ G s1 (.int _)⟩
    · rw [List.all_map]
      exact List.all_eq_true.mpr fun _ _ => rfl
    · rw [List.getElem?_map, hj]
      rfl
    · rw [List.getElem?_map, hn m lt] at e
      cases e
      rfl)
end
end FP

namespace FP
open PySem PySem.Spec PyProof.Rows L2 HotX L2H
/-! ### a word about the exception that is handled -/
structure WordOk (P : Program) (w : World) (K : PySem.W.Frag) (mg : Str → Option Value) (base : Heap) (k : Nat) (wd : Str) (fw : Addr → PyData → Prop) : Prop where
  ex : ∃ g, mg wd = some (.ref g) ∧ PySem.W.keepIn K (.ref g) = true ∧ ∀ (A : Around) (outer : List Env) (s : Shared) (H : Hp) (q : Addr × Obj) (C : Addr) (d : PyData) (ps : List Addr) (Q : VK), fw C d → RoomH k A → Hot1 A q → PinOk outer H s q → q.2.cls = .ref C → q.2.dict = none →
    Env0 P w K mg base A outer s H → (∀ a ∈ ps, H a ≠ none) → (∀ v H', Same H H' → Dp K (hid ps H') v d → Q v H') → codeAny (model P w) A (.call (.ref g) ⟨[.ref q.1], []⟩) (CR C8.CX0 outer P w H s Q C8.E0) s
theorem start1 {K : PySem.W.Frag} {H : Hp} {ps : List Addr} {N : List Str} {a : Addr} {n : Nat} (hn : N.length = n + 1) (hp : ∀ a ∈ ps, H a ≠ none) : Rl K H (L2.start N [.ref a]) (some (.ad a) :: List.replicate n none) ⟨ps, []⟩ := by
  refine ⟨?_, fun i r h => ?_, Ro.nil hp⟩
  · unfold L2.start
    simp [hn]
  · cases i with
    | zero =>
      cases h
      exact ⟨.ref a, rfl, rfl⟩
    | succ i =>
      rw [List.getElem?_cons_succ, List.getElem?_replicate] at h
      split at h
      · cases h
      · cases h
/-- such a def, by its body -/
theorem word_ok {P : Program} {w : World} {K : PySem.W.Frag} {mg : Str → Option Value} {base : Heap} {x : Str} {params : Arguments} {body : List Stmt} {scope : Scope} {kws : List (Str × V)} {f : Addr} {fd : FuncData} {N : List Str} {y : Str} {k n : Nat} {fw : Addr → PyData → Prop}
    (F : FunD K x x params body scope [] kws f fd) (hm : mg x = some (.ref f)) (S : FnScope N [y] scope) (hn : N.length = n + 1)
    (hb : ∀ (kV doc pm : Value) (an : Option Addr) (cdv ct : Value) (us : List Value), us.length = [y].length → bindArgs (PySem.W.fnOf x x params body scope .none kV doc pm an cdv ct) ⟨us, []⟩ = pure ([y].zip us))
    (hbody : ∀ (cdv : Value) (A : Around) (outer : List Env) (s : Shared) (H : Hp) (q : Addr × Obj) (C : Addr) (d : PyData) (ps : List Addr), fw C d → Hot1 A q → q.2.cls = .ref C → q.2.dict = none → RoomH k (A.deeper (envOfC x scope s.heap.objs.size f cdv)) →
      SD (cxH C8.CX0 P w K mg base N x scope f cdv A outer s H C8.E0 q) (fun _ _ _ _ => False) [] body (some (.ad q.1) :: List.replicate n none) ⟨ps, []⟩ (Fin (.ok d))) : WordOk P w K mg base (k + 1) x fw := by
  have hbs := FunD.bindsN (ps := [y]) F hb
  have kp := F.kp
  obtain ⟨oc, od, dV, kV, doc, pm, an, cdv, ct, osl, rfl, lk, hcd, hD, hK⟩ := F.ex
  refine ⟨f, hm, kp, fun A outer s H q C d ps Q hf hr hot pin c1 c2 e0 hp hQ => ?_⟩
  have old : ∀ b o, base.get? b = some o → s.heap.get? b = some o := fun b o e => (e0.bs b o e).1
  have inK : K.In s.heap := e0.mod.kin.keeps old
  have bnd := hbs s [.ref q.1] inK rfl
  refine codeAny_call_function hr.depth (inK _ _ lk) rfl S.co S.gen rfl (PySem.W.codeRec_of inK hcd) (bnd _ _ _ _ (wpAny_newFunctionEnv_cells S.kind (fun z hz => ?_) fun env he s1 x1 => ?_))
  · rcases S.par z.1 (List.of_mem_zip hz).1 with t | t
    · exact .inl t
    · exact .inr ⟨t, PySem.W.cellsFrom_some _ _ _ (.inl t)⟩
  subst he
  refine ⟨(e0.mod.nolimit.keeps old).keeps x1.toInCall.keep, codeAny_func ?_⟩
  have I : Inv (cxH C8.CX0 P w K mg base N x scope f cdv A outer s H C8.E0 q) [] (L2.start N [.ref q.1]) H s1 := inv_startH (us := [.ref q.1]) S pin e0 rfl (.cons rfl .nil) x1
  have go := hbody cdv A outer s H q C d ps hf hot c1 c2 (hr.deeper _) (L2.start N [.ref q.1]) H { nx := fun _ H' => Q .non H', rt := Q } (start1 hn hp) (fun _ z => nomatch z) ?_
  · refine wpAny_mono (pss_w.run [] s1 _ H _ I go) (fun fl s2 hs => ?_) fun _ _ z => z
    cases fl with
    | ret u =>
      obtain ⟨v, σ', H', J, rv, z⟩ := hs
      exact ⟨v, H', J.os, J.bare, J.base, J.hok, rv, z⟩
    | next =>
      obtain ⟨σ', H', J, z⟩ := hs
      exact ⟨.non, H', J.os, J.bare, J.base, J.hok, rfl, z⟩
    | brk =>
      obtain ⟨_, _, _, z⟩ := hs
      exact z.elim
    | cont =>
      obtain ⟨_, _, _, z⟩ := hs
      exact z.elim
  · have same : ∀ {ω' : Om} {H' : Hp}, Stp [] ⟨ps, []⟩ ω' H H' → Same H H' := fun st b o e => st.keep b o e (fun z => nomatch z) (.inl rfl)
    refine ⟨fun δ' ω' σ' H' z st l => ?_, fun r' ω' v H' z st l dv => ?_, fun _ _ _ _ z => (nomatch z), fun _ _ _ _ z => False.elim z, fun _ _ _ _ z => False.elim z⟩
    · cases z
      exact hQ .non H' (same st) .non
    · cases r' with
      | im d' =>
        cases z
        exact hQ v H' (same st) (dpm (hid_more fun b hb => List.mem_append_left _ (by rw [st.ps]; exact hb)) dv)
      | ad a => exact False.elim z
/-- the word is called, in the suite -/
theorem pe_word {X : Cx} {q : Addr × Obj} {k i : Nat} {wd n : Str} {fw : Addr → PyData → Prop} {C : Addr} {d : PyData} {p5 p6 p7 : Pos} (G : WordOk X.prog X.w X.K X.mg X.base k wd fw) (hr : RoomH k X.A) (hot : Hot1 X.A q) (hq : q ∈ X.pn) (c1 : q.2.cls = .ref C) (c2 : q.2.dict = none) (hf : fw C d)
    (hg : Gl X wd) (hN : X.N[i]? = some n) (hv : Vis X.env.scope n) (hdb : (wd == ("__debug__" : Str)) = false := by decide) (h1 : (n == ("__debug__" : Str)) = false := by decide) (h2 : (n == ("__classdict__" : Str)) = false := by decide)
    (he : starEach [.Name n p6] X.env = (false, eval (.Name n p6) X.env) :: starEach [] X.env := by rfl) :
    PE X (.Call (.Name wd p5) [.Name n p6] [] p7) (fun σ H Q => σ[i]? = some (some (.ref q.1)) ∧ ∃ ps, (∀ a ∈ ps, H a ≠ none) ∧ ∀ v H', Same H H' → Dp X.K (hid ps H') v d → Q v H') := by
  obtain ⟨g, m, kp, run⟩ := G.ex
  refine ⟨fun pins s σ H Q I h => ?_⟩
  obtain ⟨hs, ps, hp, hQ⟩ := h
  have ha : PA X [.Name n p6] (tCons (fun σ H Q => ∃ v, σ[i]? = some (some v) ∧ Q v H) tNil) := pa_cons (pe_var hN hv h1 h2) pa_nil he
  refine wpAny_Call_Name_kw (ld_glob I hg m (PySem.W.callWith_K (h₀ := X.base) I.ok.mod.kin kp (thn (ha.run p7 pins s σ H (fun vs H1 => vs = [V.ref q.1] ∧ H1 = H) I ⟨_, hs, rfl, rfl⟩) fun us s1 w => ?_) he (by rfl)) hdb)
  obtain ⟨vs, H1, J, rv, ev, eH⟩ := w
  subst ev
  subst eH
  refine ⟨J.kIn, ?_⟩
  rw [Vals.ref1 rv]
  have P1 := J.pin q (List.mem_append_left _ hq)
  have pin : PinOk X.stack H1 s1 q := ⟨P1.1, P1.2.1, fun z => (List.mem_cons.mp (J.stkSub q.1 z)).elim P1.2.2.1 P1.2.2.2.1, P1.2.2.2.2⟩
  refine wpAny_call (codeAny_mono (run X.A X.stack s1 H1 q C d ps Q hf hr hot pin c1 c2 J.env0 hp hQ) fun r s2 z => ?_)
  cases r with
  | error e => exact False.elim z
  | ok fl =>
    cases fl with
    | ret u => exact J.after z
    | next => exact False.elim z
    | brk => exact False.elim z
    | cont => exact False.elim z
end FP

namespace FP
open PySem PySem.Spec PyProof.Rows L2 HotX L2H
/-! ### an expression that answers or raises -/
def PR (X : Cx) (W : WX) (δ : De) (ω : Om) (e : Expr) (r : Rs) : Prop := ∀ σ H, Rl X.K H σ δ ω → ∀ Q : VK, RsQ X.K (ads ω) H Q (fun cls d H' => W cls d σ H') r → wpe X e σ H Q
section
variable {X : Cx} {W : WX} {δ : De} {ω : Om} {a e : Expr} {es : List Expr} {d : PyData} {ds : List PyData} {pos p : Pos} {k : Nat} {x : Str}
theorem PD.pr (h : PD X δ ω e d) : PR X W δ ω e (.ok d) := fun σ H rl Q q => h σ H rl Q q
theorem pr_call {fr : List PyData → Rs → Prop} {rr : Rs} (G : DefOk X.prog X.w X.K X.mg X.base k x fr) (hr : Room k X.A) (tk : L2N.Takes X W) (ha : PDs X δ ω (a :: es) ds) (hf : fr ds rr) (hg : Gl X x := by rfl)
    (hdb : (x == ("__debug__" : Str)) = false := by decide) (he : starEach (a :: es) X.env = (false, eval a X.env) :: starEach es X.env := by rfl) (hpl : (backTo pos (starEach es X.env)).any (·.1) = false := by rfl) : PR X W δ ω (.Call (.Name x p) (a :: es) [] pos) rr := fun σ H rl Q q => by
  obtain ⟨f, fd, ps, F, m, kp, b⟩ := G.ex
  refine we (pe_callS (E := WE W) F hr hg m kp b (fun σ => L2N.passAt tk σ) pa_w hdb he hpl) (ha σ H rl _ fun vs H1 s1 d1 => ⟨ads ω, ds, rr, there_mono rl.ro.there s1, d1, hf, ?_⟩)
  cases rr with
  | ok d => exact fun v H' s' d' => q v H' (s1.trans s') d'
  | er C => exact fun H' s' => q H' (s1.trans s')
end
/-! ### a lambda whose exceptions have no context -/
abbrev lamN (X : Cx) (A : Around) (outer : List Env) (s : Shared) (H : Hp) (E : XK) (scope : Scope) (f c' : Addr) : Cx :=
  (LamX.lamCx X A outer s H E scope f c').tr [] (fun e t => wpAny (model X.prog X.w) (A.deeper (LamX.lamEnv X scope s.heap.objs.size f c')) (leaving (LamX.lamEnv X scope s.heap.objs.size f c') e) (fun _ t' => L2N.CX X.prog X.w outer H s E e t') (fun e' t' => L2N.CX X.prog X.w outer H s E e' t') t)
theorem lamN_takes {X : Cx} {A : Around} {outer : List Env} {s : Shared} {H : Hp} {E : XK} {scope : Scope} {f c' : Addr} : L2N.Takes (lamN X A outer s H E scope f c') (WOf E) := L2N.takes_of rfl rfl rfl rfl
/-- it is called, where what it lets out is taken -/
theorem pe_lamN {X Z : Cx} {pins : List (Addr × Obj)} {σ : L2.St} {H : Hp} {s : Shared} {f c' : Addr} {pm ctv : Value} {params : Arguments} {body : Expr} {scope : Scope} {k i : Nat} {a : Str} {W : WX} {p1 p2 : Pos}
    (hP : Z.prog = X.prog) (hw : Z.w = X.w) (hK : Z.K = X.K) (hm : Z.mg = X.mg) (hB : Z.base = X.base) (h0 : Z.s_0 = s) (hH : Z.H_0 = H) (hex : Z.ex = []) (hfs : Z.fs = frs X.stack)
    (I : Inv X pins σ H s) (L : LamX.LamS X.env.scope scope) (hf : s.heap.get? f = some (PySem.W.kla_obj "<lambda>" (X.env.qual ++ "<lambda>") params body scope (cloFrom X.env.cells scope.names []) pm c' ctv)) (hfn : H f = none) (hfr : f ∉ frs X.stack)
    (hbind : bindArgs (PySem.W.kla_fn "<lambda>" (X.env.qual ++ "<lambda>") params body scope (cloFrom X.env.cells scope.names []) pm (.ref c') ctv) ⟨[], []⟩ = pure []) (tk : L2N.Takes Z W) (hr : Room (k + 1) Z.A)
    (hN : Z.N[i]? = some a) (hv : Vis Z.env.scope a) (hd : (a == ("__debug__" : Str)) = false := by decide) (hcd : (a == ("__classdict__" : Str)) = false := by decide) :
    PE Z (.Call (.Name a p1) [] [] p2) (fun τ G Q => τ[i]? = some (some (.ref f)) ∧ G c' = some (LamX.CodeO c' (X.env.qual ++ "<lambda>")) ∧
      ∀ (A : Around) (outer : List Env) (t : Shared), Room k (A.deeper (LamX.lamEnv X scope t.heap.objs.size f c')) → wpe (lamN X A outer t G (WE W τ) scope f c') body σ G Q) := by
  obtain ⟨zp, zw, zk, zmg, zb, zA, zN, zs, zh, zenv, zo, zst, zex, zfn, zc, zpn, zxe⟩ := Z
  dsimp only at hP hw hK hm hB h0 hH hex
  subst hP hw hK hm hB h0 hH hex
  refine ⟨fun pinsZ sZ τ G Q IZ h => ?_⟩
  obtain ⟨t1, t2, t3⟩ := h
  refine wpAny_Call_Name_kw (thn ((pe_var (pos := p1) (i := i) hN hv hd hcd).run pinsZ sZ τ G (fun v G1 => v = .ref f ∧ G1 = G) IZ ⟨.ref f, t1, rfl, rfl⟩) fun u s1 w => ?_)
  obtain ⟨v, G1, J, rv, ev, eG⟩ := w
  subst ev
  subst eG
  obtain rfl : u = Value.ref f := rv
  have un : Un (frs X.stack) [] zh G1 zs.heap s1.heap := by
    rw [← hfs]
    exact J.base
  have gf := un.keep f _ hf hfn hfr (fun z => nomatch z)
  have rc : codeAny (model X.prog X.w) zA (.call (.ref f) ⟨[], []⟩) (CR (L2N.CX X.prog X.w) zst X.prog X.w G1 s1 Q (WE W τ)) s1 := by
    obtain ⟨⟨oc, vs, tt, g1, g2, g3⟩, _, _⟩ := J.hok c' _ t2
    refine PySem.W.kla_callFunE hr.depth gf rfl L.co L.gen rfl ⟨c', oc, vs, tt, rfl, g1, g2, g3⟩ ?_
    rw [hbind]
    refine wpAny_pure (wpAny_newFunctionEnv (fun y hy => (L.own y hy).2) (fun y hy => (nomatch hy)) (fun h2 n2 b2 => ⟨J.nolimit.fresh _ b2, ?_⟩) L.kind)
    show codeAny _ _ (.expr body (LamX.lamEnv X scope s1.heap.objs.size f c')) _ _
    have J2 := (LamX.lam_start2 (E := WE W τ) (scope := scope) (f := f) (c' := c') (tk := s1.toks + ([] : List (Str × Value)).length) I L J.env0 hr.hd un n2 (fun b o e => b2.extBut b o (Nat.ne_of_lt (Heap.lt_size e)) (Heap.get?_push_of_some _ e))).toTry (fun e t => wpAny (model X.prog X.w) (zA.deeper (LamX.lamEnv X scope s1.heap.objs.size f c')) (leaving (LamX.lamEnv X scope s1.heap.objs.size f c') e) (fun _ t' => L2N.CX X.prog X.w zst G1 s1 (WE W τ) e t') (fun e' t' => L2N.CX X.prog X.w zst G1 s1 (WE W τ) e' t') t)
    refine PySem.W.kla_codeExpr (wpAny_mono (pe_w.run [] _ σ G1 Q J2 (t3 zA zst s1 (hr.deeper _))) (fun v s3 z => ?_) fun e s3 z => z)
    obtain ⟨v1, G3, J3, r3, q3⟩ := z
    exact ⟨v1, G3, J3.os, J3.bare, J3.base, J3.hok, r3, q3⟩
  refine PySem.W.callWith_F0 ⟨_, _, _, _, gf⟩ (wpAny_call (codeAny_mono rc fun r s2 z => ?_))
  · cases r with
    | error e => exact L2N.passAt tk τ pinsZ G1 s1 e s2 J z
    | ok fl =>
      cases fl with
      | ret u => exact J.after z
      | next => exact False.elim z
      | brk => exact False.elim z
      | cont => exact False.elim z
end FP

namespace FP
open PySem PySem.Spec PyProof.Rows L2 HotX L2H
theorem takesF {X : Cx} : L2N.Takes X (fun _ _ _ _ => False) := fun _ _ x => by
  obtain ⟨_, _, _, _, _, _, _, _, _, _, _, _, _, _, _, _, z⟩ := x
  cases z
/-- told: what the lambda answers, or the word about what it raised -/
def ToldD (K : PySem.W.Frag) (CS : Addr) (fw : Addr → PyData → Prop) (d : PyData) : Rs → Prop
  | .ok d' => d' = d
  | .er C => fw C d ∧ PySem.W.exmOne K (.ref C) (.ref CS) = some true
section
variable {X : Cx} {T : List (Addr × Str)} {δ : De} {ω : Om} {d : PyData} {pos p : Pos} {k : Nat}
theorem px_told {x a e n wd : Str} {st : Stmt} {Ng : List Str} {CS : Addr} {fw : Addr → PyData → Prop} {r : Rs} {p1 p2 p3 p4 p5 p6 p7 p8 p9 p10 lpos : Pos} {params : Arguments} {body : Expr} {scope : Scope} (G : Told X.K X.mg x st) (L : LamT X T) (hT : T ≠ []) (hps : ω.ps = []) (hr : Room (k + 2) X.A)
    (WK : WordOk X.prog X.w X.K X.mg X.base (k + 1) wd fw)
    (hst : defBody st = [.Try [.Return (some (.Call (.Name a p1) [] [] p2)) p3] [.ExceptHandler (some (.Name e p4)) (some n) [.Return (some (.Call (.Name wd p5) [.Name n p6] [] p7)) p8] p9] [] [] p10]) (S : FnScope Ng [a] (defScope st)) (hNd : Ng.Nodup) (hNg : Ng[0]? = some a) (hva : Vis (defScope st) a)
    (hN1 : Ng[1]? = some n) (hkn : (defScope st).names.lookup n = some .local) (hge : (defScope st).names.lookup e = some .globalImplicit) (hgw : (defScope st).names.lookup wd = some .globalImplicit) (hme : X.mg e = some (.ref CS))
    (hbn : ∀ (kV doc pm : Value) (an : Option Addr) (cdv ct : Value) (us : List Value), us.length = [a].length → bindArgs (PySem.W.fnOf x x (defArgs st) (defBody st) (defScope st) .none kV doc pm an cdv ct) ⟨us, []⟩ = pure ([a].zip us))
    (hb : ∀ (A : Around) (outer : List Env) (s : Shared) (H : Hp) (E : XK) (f c' : Addr), Room k (A.deeper (LamX.lamEnv X scope s.heap.objs.size f c')) → PR (lamN X A outer s H E scope f c') (WOf E) δ ω body r)
    (hd : ToldD X.K CS fw d r) (hL : LamX.LamS X.env.scope scope) (hdef : defaultsOf params X.env = ([], []) := by rfl) (hbind : ∀ (q : Str) (cl : List (Str × Addr)) (pm cv ctv : Value), bindArgs (PySem.W.kla_fn "<lambda>" q params body scope cl pm cv ctv) ⟨[], []⟩ = pure [] := by intros; rfl)
    (hg : Gl X x := by rfl) (hdb : (x == ("__debug__" : Str)) = false := by decide) (hd1 : (a == ("__debug__" : Str)) = false := by decide) (hcd1 : (a == ("__classdict__" : Str)) = false := by decide) (hde : (e == ("__debug__" : Str)) = false := by decide) (hdw : (wd == ("__debug__" : Str)) = false := by decide)
    (hdn : (n == ("__debug__" : Str)) = false := by decide) (hcn : (n == ("__classdict__" : Str)) = false := by decide) : PX X T δ ω (.Call (.Name x p) [.Lambda params body scope lpos] [] pos) d := fun σ H rl tb Q q => by
  obtain ⟨g, fd, F, hm⟩ := G.ex
  obtain ⟨c, P, TB, hcode, hmT, hu⟩ := L.ex
  have hbs := FunD.bindsN (ps := [a]) F hbn
  have kp := F.kp
  obtain ⟨oc, od, dV, kV, doc, pm, an, cdv, ct, osl, rfl, lk, hcd, hD, hK⟩ := F.ex
  unfold wpe
  intro pins s I
  refine wpAny_Call_Name_kw (ld_glob I hg hm ?_ hdb)
  refine PySem.W.callWith_K (h₀ := X.base) I.ok.mod.kin kp ?_ (by rfl) (by rfl)
  show wpAny _ _ (spliced ((false, eval (.Lambda params body scope lpos) X.env) :: backTo pos (starEach [] X.env))) _ _ s
  refine Calls.spliced_cons (LamX.lam_make2 I TB hcode hmT hu tb hdef (hL.has I.ok) fun f c' pm' ctv H1 s' I1 eN T1 hf hfn hfr hco => Calls.spliced_nil ⟨I1.kIn, ?_⟩)
  have rl1 : Rl X.K H1 σ δ ω := rl_ext (T := T) eN hps rl
  have done : ∀ v H2, Same H1 H2 → Dp X.K (hid (ads ω) H2) v d → Q v H2 := fun v H2 s2 d2 => q v H2 ⟨fun b o h _ p => s2 b o (eN b o h (p.resolve_left hT)), fun a h => .inl h, rfl, fun _ => T1.ext s2⟩ (rl1.mono s2) d2
  refine wpAny_call (codeAny_mono (R := CR C8.CX0 X.stack X.prog X.w H1 s' Q C8.E0) (LamX.run_ofS (N := Ng) (ps := [a]) (us := [.ref f]) (vs := [.ref f]) lk hcd S hr I1.env0 (hbs s' [.ref f] I1.kIn rfl) (.cons rfl .nil) rfl fun hr' => ?_) fun rr s2 z => ?_)
  · rw [hst]
    -- the def's own context
    have tryW := L2N.ps_try_as (X := (cxOf C8.CX0 X.prog X.w X.K X.mg X.base Ng x (defScope st) g cdv X.A X.stack s' H1 C8.E0).nox) (x := e) (n := n) (c := .ref CS) (i := 1) (np := p4) (pos := p10) (pos' := p9) (b₀ := .Return (some (.Call (.Name wd p5) [.Name n p6] [] p7)) p8) (suite := [])
      (body := [.Return (some (.Call (.Name a p1) [] [] p2)) p3]) (Wout := fun _ _ _ _ => False)
      (tb := fun W D τ G => τ[0]? = some (some (.ref f)) ∧ G c' = some (LamX.CodeO c' (X.env.qual ++ "<lambda>")) ∧ ∀ (A : Around) (outer : List Env) (t : Shared), Room k (A.deeper (LamX.lamEnv X scope t.heap.objs.size f c')) → wpe (lamN X A outer t G (WE W τ) scope f c') body σ G D.rt)
      (ts := fun b cls dd D τ G => ∃ C, cls = .ref C ∧ dd = none ∧ fw C d ∧ τ[1]? = some (some (.ref b)) ∧ (∀ a ∈ ads ω, G a ≠ none) ∧ ∀ v G', Same G G' → Dp X.K (hid (ads ω) G') v d → D.rt v G')
      rfl rfl hNd hN1 hkn ⟨hge, hde, .inl hme⟩ takesF
      (fun W pn xe tk _ => pss_one (ps_ret (pe_lamN (X := X) (Z := ((cxOf C8.CX0 X.prog X.w X.K X.mg X.base Ng x (defScope st) g cdv X.A X.stack s' H1 C8.E0).nox).tr pn xe) rfl rfl rfl rfl rfl rfl rfl rfl rfl I1 hL hf hfn hfr (hbind _ _ _ _ _) tk hr' hNg hva hd1 hcd1)))
      (fun b oe cls dd pn hz hfd => ⟨fun pins2 s2 τ G D J h => ?_⟩)
    · refine ⟨_, (pss_one tryW).nox, ?_⟩
      refine ⟨rfl, hco, fun A outer t hr2 => ?_⟩
      refine hb A outer t H1 _ f c' hr2 σ H1 rl1 Q ?_
      cases r with
      | ok d' =>
        cases hd
        exact done
      | er C =>
        intro H2 s2
        exact ⟨true, hd.2, fun _ b nb => ⟨C, rfl, rfl, hd.1, by
          rw [List.getElem?_set_self]
          unfold L2.start
          have := (List.getElem?_eq_some_iff.mp hN1).1
          simp
          omega, there_mono rl1.ro.there s2, fun v G' s3 dv => done v G' (s2.trans s3) dv⟩, fun z => by cases z⟩
    · obtain ⟨C, rfl, rfl, hfw, h1, h2, h3⟩ := h
      obtain ⟨vs, hv⟩ := hfd
      have pw := pe_word (X := ((cxOf C8.CX0 X.prog X.w X.K X.mg X.base Ng x (defScope st) g cdv X.A X.stack s' H1 C8.E0).nox).suite b ((b, oe) :: pn)) (q := (b, oe)) (i := 1) (p5 := p5) (p6 := p6) (p7 := p7) WK ⟨(roomH_of hr').dp, (roomH_of hr').un⟩ ⟨rfl, vs, hv, hz.2.2 vs hv⟩ List.mem_cons_self hz.1 hz.2.1 hfw hgw hN1 (.inl hkn) hdw hdn hcn
      exact (pss_one (ps_ret (pos := p8) pw)).run pins2 s2 τ G D J ⟨h1, ads ω, h2, h3⟩
  · cases rr with
    | error e => exact False.elim z
    | ok fl =>
      cases fl with
      | ret u => exact I1.after z
      | next => exact False.elim z
      | brk => exact False.elim z
      | cont => exact False.elim z
end
end FP

namespace FP
open PySem PySem.Spec PyProof.Rows L2
section
variable {X : Cx} {W : WX} {T : List (Addr × Str)} {δ : De} {ω : Om} {a b c e : Expr} {es : List Expr} {d da db dz : PyData} {ds dt : List PyData} {pos p : Pos} {k : Bool} {x : Str} {R : Out → Prop} {ss : List Stmt}
theorem pd_neg {i : Int} (ha : PD X δ ω a (.int i)) : PD X δ ω (.UnaryOp .USub a pos) (.int (-i)) := fun σ H rl Q q =>
  we (pe_un un_neg pe_w) (ha σ H rl _ fun v H1 s1 d1 => by
    cases d1
    exact ⟨i, rfl, q _ H1 s1 (.int _)⟩)
/-- list of a tuple -/
theorem pn_listT (hm : X.mg "list" = none) (ha : PD X δ ω a (.tuple ds)) (hg : Gl X "list" := by rfl) (he : starEach [a] X.env = (false, eval a X.env) :: starEach [] X.env := by rfl) : PN X δ ω (.Call (.Name "list" p) [a] [] pos) ds := fun σ H rl Q k =>
  we (pe_callTy call_list_of hg hm (by decide +kernel) (pa_cons pe_w pa_nil he) (he := he)) (ha σ H rl _ fun v H1 s1 d1 => by
    cases d1 with
    | tup h1 h2 => exact ⟨_, _, rfl, .inr (same_sqt hid_sub h1), fun l hl => k l _ _ (s1.trans (same_new hl)) (s1.free hl) upd_same (dpam (hid_new hl (same_new hl)) h2)⟩)
/-- is not None -/
theorem rd_notN {K : PySem.W.Frag} (hd : da ≠ .none) : RD K (fun x y H Q => y = .non ∧ Q (.bl (!decide (x = .non))) H) da .none (.bool true) := fun ps x y H _ hx hy Q q => by
  cases hy
  refine ⟨rfl, ?_⟩
  have e : decide (x = .non) = false := decide_eq_false fun z => by
    subst z
    cases hx
    exact hd rfl
  rw [e]
  exact q _ H (Same.refl H) (.bl _)
theorem rd_notN0 {K : PySem.W.Frag} : RD K (fun x y H Q => y = .non ∧ Q (.bl (!decide (x = .non))) H) .none .none (.bool false) := fun ps x y H _ hx hy Q q => by
  cases hx
  cases hy
  exact ⟨rfl, q _ H (Same.refl H) (.bl _)⟩
/-- a list of one's own that is compared -/
theorem pt_neL (hu : X.A.units + 64 < cLine) (h1 : SeqAt.shaped (.list ds) = true) (h2 : SeqAt.shaped db = true) (ha : PL X δ ω a ds) (hb : PD X δ ω b db) : PTd X δ ω (.Compare a [.NotEq] [b] pos) (!PyData.eqv (.list ds) db) := fun σ H rl Q q =>
  wt (pt_cmpR (op_neD hu) pe_w pe_w (nomark _)) (ha σ H rl _ fun p vs H1 s1 h3 d1 => hb σ H1 (rl.mono s1) _ fun y H2 s2 d2 =>
    ⟨.list ds, db, .lst (s2.seq h3) (dpam hid_sub (dpam (hid_same s2) d1)), dpm hid_sub d2, h1, h2, _, rfl, q H2 (s1.trans s2)⟩)
/-- the two lists that were made last, the other way round -/
theorem ads_swap {ps : List Addr} {o1 o2 : Addr × Od} {os : List (Addr × Od)} {H : Hp} : hid (ads ⟨ps, o1 :: o2 :: os⟩) H = hid (ads ⟨ps, o2 :: o1 :: os⟩) H := by
  funext z
  have e : (z ∈ ads ⟨ps, o1 :: o2 :: os⟩) ↔ (z ∈ ads ⟨ps, o2 :: o1 :: os⟩) := by
    show z ∈ ps ++ o1.1 :: o2.1 :: os.map (·.1) ↔ z ∈ ps ++ o2.1 :: o1.1 :: os.map (·.1)
    simp only [List.mem_append, List.mem_cons]
    constructor <;> (rintro (h | h | h | h) <;> simp [h])
  unfold hid
  by_cases h : z ∈ ads ⟨ps, o1 :: o2 :: os⟩
  · rw [if_pos h, if_pos (e.mp h)]
  · rw [if_neg h, if_neg (fun g => h (e.mpr g))]
theorem sd_swap {ps : List Addr} {o1 o2 : Addr × Od} {os : List (Addr × Od)} (h : SD X W T ss δ ⟨ps, o2 :: o1 :: os⟩ R) : SD X W T ss δ ⟨ps, o1 :: o2 :: os⟩ R := fun σ H D rl t k => by
  have mem : ∀ z : Addr, z ∈ osA ⟨ps, o2 :: o1 :: os⟩ → z ∈ osA ⟨ps, o1 :: o2 :: os⟩ := fun z hz => by
    have hz : z ∈ o2.1 :: o1.1 :: os.map (·.1) := hz
    show z ∈ o1.1 :: o2.1 :: os.map (·.1)
    simp only [List.mem_cons] at hz ⊢
    rcases hz with h | h | h <;> simp [h]
  have mem2 : ∀ z : Addr, z ∈ osA ⟨ps, o1 :: o2 :: os⟩ → z ∈ osA ⟨ps, o2 :: o1 :: os⟩ := fun z hz => by
    have hz : z ∈ o1.1 :: o2.1 :: os.map (·.1) := hz
    show z ∈ o2.1 :: o1.1 :: os.map (·.1)
    simp only [List.mem_cons] at hz ⊢
    rcases hz with h | h | h <;> simp [h]
  have st0 : Stp T ⟨ps, o1 :: o2 :: os⟩ ⟨ps, o2 :: o1 :: os⟩ H H := ⟨fun b o e _ _ => e, fun z hz => .inl (mem z hz), rfl, fun t => t⟩
  refine h σ H D ⟨rl.len, fun i r hi => ?_, fun z o hz => ?_, ?_, rl.ro.th⟩ t (k.step st0)
  · obtain ⟨v, h1, h2⟩ := rl.sl i r hi
    rw [ads_swap] at h2
    exact ⟨v, h1, h2⟩
  · have g := rl.ro.ob z o (by
      have hz : (z, o) ∈ o2 :: o1 :: os := hz
      show (z, o) ∈ o1 :: o2 :: os
      simp only [List.mem_cons] at hz ⊢
      rcases hz with h | h | h <;> simp [h])
    rw [ads_swap] at g
    exact g
  · have nd : (o1.1 :: o2.1 :: os.map (·.1)).Nodup := rl.ro.nd
    show (o2.1 :: o1.1 :: os.map (·.1)).Nodup
    exact (List.Perm.swap o2.1 o1.1 _).nodup nd
/-! ### lists of what is told -/
theorem app_step {K : PySem.W.Frag} {H : Hp} {σ : L2.St} {D : Addr} {xs : List PyData} {vs : List V} {y : V} (rl : Rl K H σ δ (omD ω D (.lst (xs.map .im)))) (e3 : H D = some (.lst vs)) (e4 : Paired (SdV K (hid (ads (omD ω D (.lst (xs.map .im)))) H)) (xs.map .im) vs)
    (d1 : Dp K (hid (ads (omD ω D (.lst (xs.map .im)))) H) y d) : Stp T (omD ω D (.lst (xs.map .im))) (omD ω D (.lst ((xs ++ [d]).map .im))) H (upd H D (.lst (vs ++ [y]))) ∧ Rl K (upd H D (.lst (vs ++ [y]))) σ δ (omD ω D (.lst ((xs ++ [d]).map .im))) := by
  have hh : Same (hid (ads (omD ω D (.lst (xs.map .im)))) H) (hid (ads (omD ω D (.lst ((xs ++ [d]).map .im)))) (upd H D (.lst (vs ++ [y])))) := hid_upd
  refine ⟨⟨fun b o h n _ => ?_, fun a h => .inl h, rfl, fun t => ?_⟩, ⟨rl.len, fun j r h => ?_, fun z o h => ?_, rl.ro.nd, fun z h hz => ?_⟩⟩
  · have nb : b ≠ D := fun z => n (by rw [z]; exact List.mem_cons_self)
    rw [upd_ne nb]
    exact h
  · intro q hq
    obtain ⟨ps, a1, a2, a3⟩ := t q hq
    refine ⟨ps, by rw [upd_ne (ne_of a1 e3 (by intro z; cases z))]; exact a1, a2, fun p' cv hc => ?_⟩
    obtain ⟨c0, b1, b2⟩ := a3 p' cv hc
    exact ⟨c0, b1, by rw [upd_ne (ne_of b2 e3 (by intro z; unfold LamX.CodeO at z; cases z))]; exact b2⟩
  · obtain ⟨v, h1, h2⟩ := rl.sl j r h
    exact ⟨v, h1, sdv_mono hh h2⟩
  · rcases List.mem_cons.mp h with q | q
    · cases q
      exact ⟨vs ++ [y], upd_same, im_dpa (dpa_app (dpam hh (dpa_im e4)) (.cons (dpm hh d1) .nil))⟩
    · have nd2 : (D :: ω.os.map (·.1)).Nodup := rl.ro.nd
      have na : z ≠ D := fun zz => (List.nodup_cons.mp nd2).1 (List.mem_map.mpr ⟨(z, o), q, zz⟩)
      have g := rl.ro.ob z o (List.mem_cons_of_mem _ q)
      exact odv_keep (fun w => sdv_mono hh w) (fun u _ g1 => by rw [upd_ne na]; exact g1) g
  · have hn := rl.ro.th z h
    by_cases za : z = D
    · rw [za, upd_same] at hz
      cases hz
    · rw [upd_ne za] at hz
      exact hn hz
theorem sd_appx (i : Nat) {p1 apos cpos : Pos} {D : Addr} {xs : List PyData} (he : PX X T δ (omD ω D (.lst (xs.map .im))) e d) (hk : SD X W T ss δ (omD ω D (.lst ((xs ++ [d]).map .im))) R) (hz : xs.length < 10000)
    (hd : δ[i]? = some (some (.ad D)) := by rfl) (hN : X.N[i]? = some x := by rfl) (hv : Vis X.env.scope x := by first | exact Or.inl rfl | exact Or.inr (Or.inl rfl) | exact Or.inr (Or.inr rfl))
    (h1 : (x == ("__debug__" : Str)) = false := by decide) (h2 : (x == ("__classdict__" : Str)) = false := by decide)
    (hs : swapsWith (.Call (.Attribute (.Name x p1) "append" apos) [e] [] cpos) none pos.line X.env = pure false := by rfl)
    (hbase : attributeBase (.Name x p1) "append" X.env (eval (.Name x p1) X.env) = eval (.Name x p1) X.env := by rfl)
    (hfew : ((backTo cpos (starEach [e] X.env)).all (fun x => !x.1) && (backToKw cpos (keywordEach [] X.env)).all (fun x => x.1.isSome)
      && decide (([e] : List Expr).length + ([] : List Keyword).length + (if ([] : List Keyword).isEmpty then 0 else 1) < 30)) = true := by rfl)
    (hline : (apos.endLine == cpos.line) = true := by rfl) (hst : starEach [e] X.env = (false, eval e X.env) :: starEach [] X.env := by rfl) :
    SD X W T (.Expr (.Call (.Attribute (.Name x p1) "append" apos) [e] [] cpos) pos :: ss) δ (omD ω D (.lst (xs.map .im))) R :=
  sd_cons fun σ H Dd rl t k => by
    obtain ⟨v, e1, e2⟩ := rl.sl i _ hd
    have e2 : v = .ref D := e2
    subst e2
    obtain ⟨vs, e3, e4⟩ := rl.ro.ob D _ List.mem_cons_self
    refine ws (ps_expr (pe_bm PySem.F.plainAttrs_list PySem.F.slot_list_append PySem.F.type_list_append mt_append (pe_var hN hv h1 h2) (pa_cons pe_w pa_nil hst) hbase hfew hline hst) hs) ⟨_, e1, .inl ⟨rfl, vs, SqL.of e3⟩, he σ H rl t _ fun y H1 s1 l1 d1 => ?_⟩
    obtain ⟨us, f3, f4⟩ := l1.ro.ob D _ List.mem_cons_self
    obtain ⟨g1, g2⟩ := app_step (T := T) l1 f3 f4 d1
    exact ⟨D, us, y, rfl, rfl, f3, by rw [dpa_len (dpa_im f4)]; exact Nat.lt_of_lt_of_le hz (by rw [sizeLine_eq]; decide), k.nx δ _ σ _ hk (s1.trans g1) g2⟩
/-- x = [..], a new list of what is told -/
theorem sd_ownx (i : Nat) {pos' lpos : Pos} (he : PXs X T δ ω es ds) (hk : ∀ D, SD X W T ss (δ.set i (some (.ad D))) (omD ω D (.lst (ds.map .im))) R) (hz : ds.length ≤ 1000) (hN : X.N.Nodup) (hi : X.N[i]? = some x := by rfl) (hx : Loc X.env.scope x := by first | exact Or.inl rfl | exact Or.inr rfl)
    (hs : swapsWith (.List es lpos) (some (.Name x pos')) pos.line X.env = pure false := by rfl) (hf : X.fn x = true ∨ X.env.scope.names.lookup x = some .local := by first | exact .inl rfl | exact .inr rfl | assumption) : SD X W T (.Assign [.Name x pos'] (.List es lpos) pos :: ss) δ ω R :=
  sd_cons fun σ H D rl t k => ws (ps_set hN hi hx (pe_lst pa_w) hs hf) (he σ H rl t _ fun vs H1 s1 l1 d1 => ⟨Nat.le_of_lt (small1000 (by rw [dpa_len d1]; exact hz)), fun q hq => by
    have l2 : Rl X.K (upd H1 q (.lst vs)) σ δ (omD ω q (.lst (ds.map .im))) := l1.omD hq (same_new hq) upd_same (dpam (hid_in hq (same_new hq)) d1)
    refine k.nx _ _ _ _ (hk q) (s1.trans ⟨fun b o h _ _ => same_new hq b o h, fun z h => ?_, rfl, fun t => t.ext (same_new hq)⟩) (l2.set (x := .ad q) (v := .ref q) rfl)
    rcases List.mem_cons.mp (show z ∈ q :: ω.os.map (·.1) from h) with w | w
    · exact .inr fun o ho => by
        rw [w, hq] at ho
        cases ho
    · exact .inl w⟩)
end
end FP

namespace FP
open PySem PySem.Spec PyProof.Rows L2
section
variable {X : Cx} {W : WX} {T : List (Addr × Str)} {δ : De} {ω : Om} {iter : Expr} {pos : Pos} {R : Out → Prop} {ss sa : List Stmt}
/-- for a, b, .. in ..: tuples -/
theorem sd_forU (is : List Nat) {n kk : Nat} {ts : List Expr} {p' : Pos} {items : List (List PyData)} (inv : Nat → De → Om → Prop) (hw : PWk X δ ω (.Tuple ts kk p') iter (items.map .tuple)) (h0 : inv 0 δ ω)
    (hb : ∀ i ds δ' ω', items[i]? = some ds → inv i δ' ω' → SD X W T sa (setAll δ' is ds) ω' (Turn1 inv i (Nxt X W T ss R) R))
    (hd : ∀ δ' ω', inv items.length δ' ω' → SD X W T ss δ' ω' R) (hn : ∀ ds ∈ items, ds.length = n) (hi : is.length = n) (hg : PG X (.Tuple ts kk p') (gTup X.K n (gAll is))) (hp : PassesOwn (model X.prog X.w) X.A X.env X.xe) (hc : X.calm = true) (hs : ∀ x, foldedSetIterable iter X.env x = pure x := by intro _; rfl) : SD X W T (.For (.Tuple ts kk p') iter sa [] pos :: ss) δ ω R := by
  obtain ⟨wi, h1, h2⟩ := hw
  refine sd_cons fun σ H D rl t k => ws (ps_for hp hc h1 hg pss_w hs) (h2 σ H rl _ fun J H1 s1 w => ?_)
  refine ⟨fun i m σ' H' => ∃ δ' ω', m = items.length - i ∧ i ≤ items.length ∧ inv i δ' ω' ∧ Stp T ω ω' H1 H' ∧ Rl X.K H' σ' δ' ω', ⟨items.length, δ, ω, by omega, Nat.zero_le _, h0, .refl, rl.mono s1⟩, ?_⟩
  rintro i m σ' H' ⟨δ', ω', em, hi2, iv, st, rl'⟩
  obtain ⟨go, stop, yld⟩ := w T H' (fun b o z p => (hid_out (st.seen b o z p)).2)
  rw [List.length_map] at go stop yld
  have k1 := k.step (Stp.of s1 : Stp T ω ω H H1)
  by_cases hlt : i < items.length
  · refine .inr ⟨go i hlt, fun σ2 H2 => ∃ δ2 ω2, inv (i + 1) δ2 ω2 ∧ Stp T ω ω2 H1 H2 ∧ Rl X.K H2 σ2 δ2 ω2, fun σ2 H2 ⟨δ2, ω2, a1, a2, a3⟩ => ⟨items.length - (i + 1), by omega, δ2, ω2, rfl, hlt, a1, a2, a3⟩, fun x H2 hy => ?_⟩
    obtain ⟨e2, d, ed, dx⟩ := yld i x H2 hlt hy
    subst e2
    have eds : items[i]? = some items[i] := List.getElem?_eq_getElem hlt
    rw [List.getElem?_map, eds] at ed
    cases ed
    have dx2 := dp_ke st.seen _ x dx
    have k2 := k1.step st
    cases dx2 with
    | tup g1 g2 =>
      refine ⟨_, _, rfl, same_sqt hid_sub g1, by rw [dpa_len g2]; exact hn _ (List.getElem_mem hlt), gAll_ok rl' g2 (hi.trans (hn _ (List.getElem_mem hlt)).symm) fun σ3 l3 => ?_⟩
      refine hb i _ δ' ω' eds iv _ _ _ l3 (st.tab (t.ext s1)) ?_
      exact ⟨fun δ2 ω2 σ2 H2 z q l => ⟨δ2, ω2, z, st.trans q, l⟩, fun r ω2 v H2 z q l dv => k2.rt r ω2 v H2 z q l dv, fun C ω2 σ2 H2 z q l => k2.ex C ω2 σ2 H2 z q l, fun δ2 ω2 σ2 H2 z q l => k2.nx δ2 ω2 σ2 H2 z q l, fun δ2 ω2 σ2 H2 z q l => ⟨δ2, ω2, z, st.trans q, l⟩⟩
  · have e : i = items.length := by omega
    subst e
    exact .inl ⟨stop, (k1.step st).nx δ' ω' σ' H' (hd δ' ω' iv) .refl rl'⟩
end
end FP

namespace FP
open PySem PySem.Spec PyProof.Rows L2
/-! ### match: a tuple of data, patterns of a word and names -/
@[irreducible] def wpm (X : Cx) (cs : List MatchCase) (x : V) (first : Bool) : TS := fun D σ H => ∀ pins s u, Inv X pins σ H s → RelV x u → wpAny (model X.prog X.w) X.A (matchCases cs X.env u first) (SP X pins D) X.xe s
/-- the cases, asked of data -/
def MC (X : Cx) (W : WX) (T : List (Addr × Str)) (cs : List MatchCase) (d : PyData) (δ : De) (ω : Om) (R : Out → Prop) : Prop :=
  ∀ (first : Bool) (x : V) σ H D, Rl X.K H σ δ ω → LamX.Tabs T H → Dp X.K (hid (ads ω) H) x d → Kt X W T ω H D R → wpm X cs x first D σ H
/-- patterns that are names alone -/
def capN : List Pattern → Option (List Str)
  | [] => some []
  | .MatchAs none (some n) _ :: ps => (capN ps).map (n :: ·)
  | _ => none
theorem each_caps {M : Model} {A : Around} {E : Value → Shared → Prop} {env : Env} : ∀ {ps : List Pattern} {ns : List Str} {us : List Value} {s : Shared} {Q : Option (List (Str × Value)) → Shared → Prop}, capN ps = some ns → us.length = ns.length → Q (some (ns.zip us)) s → wpAny M A (matchEach ps env us) Q E s
  | [], ns, us, s, Q, h, hl, q => by
    cases h
    exact wpAny_matchEach_nil q
  | p :: ps, ns, us, s, Q, h, hl, q => by
    unfold capN at h
    split at h
    · rename_i h2
      cases h2
    · rename_i n pp ps' heq
      cases heq
      cases e : capN ps with
      | none =>
        rw [e] at h
        cases h
      | some ns' =>
        rw [e] at h
        cases h
        match us, hl with
        | u :: us', hl => exact wpAny_matchEach_cons (wpAny_matchPattern_Capture (each_caps e (Nat.succ.inj hl) q))
    · cases h
section
variable {X : Cx} {W : WX} {T : List (Addr × Str)} {δ : De} {ω : Om} {e : Expr} {d : PyData} {ds : List PyData} {pos p1 p2 p3 : Pos} {R : Out → Prop} {ss body : List Stmt} {cs : List MatchCase} {ps : List Pattern} {z : Str} {k : Nat}
theorem sd_match (he : PD X δ ω e d) (hm : MC X W T cs d δ ω (Nxt X W T ss R)) : SD X W T (.Match e cs pos :: ss) δ ω R := by
  refine sd_cons fun σ H D rl t kt => ?_
  have h1 := he σ H rl (fun v H1 => wpm X cs v true D σ H1) fun v H1 s1 d1 => hm true v σ H1 D (rl.mono s1) (t.ext s1) d1 (kt.step (.of s1))
  unfold wps
  intro pins s I
  refine wpAny_Match (wpAny_mono (pe_w.run pins s σ H _ I h1) (fun u s1 w => ?_) fun _ _ x => x)
  obtain ⟨v, H1, J, rv, q⟩ := w
  unfold wpm at q
  exact q pins s1 u J rv
theorem mc_nil (h : R (.nx δ ω)) : MC X W T [] d δ ω R := fun first x σ H D rl t dx kt => by
  unfold wpm
  exact fun pins s u I r => wpAny_matchCases_nil ⟨σ, H, I, kt.nx δ ω σ H h .refl rl⟩
/-- another number of things -/
theorem mc_len (hn : ds.length ≠ ps.length) (hz : ds.length ≤ 100000) (hr : MC X W T cs (.tuple ds) δ ω R) (hstar : ps.findIdx? (·.isStar) = none := by rfl) (hwild : (ps.all fun p => p.isWildcard || (p.isStar && p.names.isEmpty)) = false := by rfl) :
    MC X W T (⟨.MatchSequence ps p1, none, body⟩ :: cs) (.tuple ds) δ ω R := fun first x σ H D rl t dx kt => by
  have h2 := hr false x σ H D rl t dx kt
  unfold wpm at h2 ⊢
  intro pins s u I r
  cases dx with
  | tup g1 g2 =>
    obtain rfl : u = Value.ref _ := r
    obtain ⟨its, rv, it, _⟩ := I.tuple (same_sqt hid_sub g1)
    have len : its.length = ds.length := by rw [← rv.length, dpa_len g2]
    exact wpAny_matchCases_cons (matchSeq_tuple_miss it (by rw [List.size_toArray, len]; omega) (by rw [List.size_toArray, len]; exact hn) (h2 pins _ _ (I.kept (t' := s.toks + 1 + 1) fun _ _ z => z) rfl) hstar hwild)
theorem seq_word {E : Value → Shared → Prop} {pins : List (Addr × Obj)} {σ : L2.St} {H : Hp} {s : Shared} {a : Addr} {vs : List V} {y : Str} {Q : Option (List (Str × Value)) → Shared → Prop} (hc : X.calm = true) (I : Inv X pins σ H s) (g : SqT X.K H a (.str y :: vs)) (hl : vs.length = ps.length) (hz : vs.length < 100000)
    (hq : ∀ us s1, Inv X pins σ H s1 → Vals vs us → if y = z then wpAny (model X.prog X.w) X.A (matchEach ps X.env us) (fun r s2 => Q r s2) X.xe s1 else Q none s1) (hstar : (.MatchValue (.Constant (.str z) k p2) p3 :: ps : List Pattern).findIdx? (·.isStar) = none) :
    wpAny (model X.prog X.w) X.A (matchPattern (.MatchSequence (.MatchValue (.Constant (.str z) k p2) p3 :: ps) p1) X.env (.ref a)) Q X.xe s := by
  obtain ⟨its, rv, it, _⟩ := I.tuple g
  have len : its.length = (vs.length + 1) := by rw [← rv.length]; rfl
  cases rv with
  | cons r0 rr =>
    rename_i u0 us
    have lus : us.length = vs.length := by rw [← rr.length]
    refine matchSeq_tuple_hit it (by rw [List.size_toArray]; simp only [List.length_cons]; omega) (by rw [List.size_toArray]; simp only [List.length_cons]; omega) ?_ hstar rfl
    have J : Inv X pins σ H { s with toks := s.toks + 1 + 1 } := I.kept (t' := s.toks + 1 + 1) fun _ _ z => z
    have e1 : (u0 :: us).toArray.size = (.MatchValue (.Constant (.str z) k p2) p3 :: ps : List Pattern).length := by
      rw [List.size_toArray]
      simp only [List.length_cons]
      omega
    rw [← e1]
    refine unpackItems_tuple (I.ok.hd hc) (s := { s with toks := s.toks + 1 + 1 }) it fun h' ext => ?_
    have J2 : Inv X pins σ H { s with heap := h', toks := s.toks + 1 + 1 } := I.kept (t' := s.toks + 1 + 1) fun b o e => ext b o (Nat.ne_of_lt (Heap.lt_size e)) e
    show wpAny _ _ (matchEach (.MatchValue (.Constant (.str z) k p2) p3 :: ps) X.env (u0 :: us)) _ _ _
    refine wpAny_matchEach_cons (wpAny_matchPattern_Value (wpAny_mono ((pe_str (X := X) (x := z) (j := k) (pos := p2)).run pins _ σ H (fun v H1 => v = .str z ∧ H1 = H) J2 ⟨rfl, rfl⟩) (fun u s3 w => ?_) fun _ _ x => x))
    obtain ⟨v, H1, J3, rz, ev, eH⟩ := w
    subst ev
    subst eH
    refine wpAny_mono (op_eq (X := X) pins s3 σ H1 (.str y) (.str z) u0 u (fun v H2 => v = .bl (decide (y = z)) ∧ H2 = H1) J3 r0 rz ⟨rfl, ?_, rfl⟩) (fun uc s4 w => ?_) fun _ _ x => x
    · by_cases c : y = z
      · subst c
        simp
      · rw [decide_eq_false c, decide_eq_false (fun q => c (V.str.inj q))]
    · obtain ⟨v, H2, J4, rb, ev, eH⟩ := w
      subst ev
      subst eH
      cases rb
      have q := hq us s4 J4 rr
      by_cases c : y = z
      · rw [decide_eq_true c]
        rw [if_pos c] at q
        refine wpAny_of_eq (a := true) rfl ?_
        simp only [if_true]
        refine wpAny_mono q (fun r s5 w => ?_) fun _ _ x => x
        cases r with
        | none => exact w
        | some more => exact w
      · rw [decide_eq_false c]
        rw [if_neg c] at q
        exact wpAny_of_eq (a := false) rfl q
end
end FP

namespace FP
open PySem PySem.Spec PyProof.Rows L2
/-- the names' slots, all of them locals -/
def capB (N : List Str) (sc : Scope) : List Str → List Nat → Bool
  | [], [] => true
  | n :: ns, i :: is => decide (N[i]? = some n) && (decide (sc.names.lookup n = some .local) && capB N sc ns is)
  | _, _ => false
theorem assign_caps {X : Cx} {pins : List (Addr × Obj)} {H : Hp} {Q : L2.St → Hp → Prop} {M : Model} {A : Around} {E : Value → Shared → Prop} (hN : X.N.Nodup) : ∀ {ns : List Str} {is : List Nat} {us : List Value} {vs : List V} {σ : L2.St} {s : Shared}, capB X.N X.env.scope ns is = true → Inv X pins σ H s → Vals vs us → us.length = ns.length → gAll is vs σ H Q →
    wpAny M A (assignInOrder ((ns.zip us).map fun x => bindName X.env x.1) ((ns.zip us).map (·.2))) (fun _ s' => ∃ σ' H', Inv X pins σ' H' s' ∧ Q σ' H') E s
  | [], [], [], _, σ, s, _, I, .nil, _, g => wpAny_assignInOrder_none ⟨σ, H, I, g.2⟩
  | n :: ns, i :: is, u :: us, _, σ, s, hb, I, .cons r rr, hl, g => by
    obtain ⟨h1, h2⟩ := He.ba hb
    obtain ⟨h2, h3⟩ := He.ba h2
    obtain ⟨v, w, e, g⟩ := g
    cases e
    refine wpAny_assignInOrder_more (wpAny_bindName (store_ok I hN (of_decide_eq_true h1) (.inl (of_decide_eq_true h2)) r (fun s1 J => ?_) (.inr (of_decide_eq_true h2))))
    exact assign_caps hN h3 J rr (Nat.succ.inj hl) g
  | n :: ns, [], _, _, _, _, hb, _, _, _, _ => by cases hb
  | [], i :: is, _, _, _, _, hb, _, _, _, _ => by cases hb
  | [], [], u :: us, _, _, _, _, _, _, hl, _ => by cases hl
  | n :: ns, i :: is, [], _, _, _, _, _, _, hl, _ => by cases hl
section
variable {X : Cx} {W : WX} {T : List (Addr × Str)} {δ : De} {ω : Om} {d : PyData} {ds : List PyData} {p1 p2 p3 : Pos} {R : Out → Prop} {body : List Stmt} {cs : List MatchCase} {ps : List Pattern} {y z : Str} {k : Nat}
/-- another word -/
theorem mc_word (hc : X.calm = true) (hn : y ≠ z) (hl : ds.length = ps.length) (hz : ds.length < 100000) (hr : MC X W T cs (.tuple (.str y :: ds)) δ ω R) (hstar : (.MatchValue (.Constant (.str z) k p2) p3 :: ps : List Pattern).findIdx? (·.isStar) = none := by rfl) :
    MC X W T (⟨.MatchSequence (.MatchValue (.Constant (.str z) k p2) p3 :: ps) p1, none, body⟩ :: cs) (.tuple (.str y :: ds)) δ ω R := fun first x σ H D rl t dx kt => by
  have h2 := hr false x σ H D rl t dx kt
  unfold wpm at h2 ⊢
  intro pins s u I r
  cases dx with
  | tup g1 g2 =>
    obtain rfl : u = Value.ref _ := r
    cases g2 with
    | cons b1 b2 =>
      cases b1
      refine wpAny_matchCases_cons (seq_word (E := X.xe) (y := y) (z := z) hc I (same_sqt hid_sub g1) (by rw [dpa_len b2]; exact hl) (by rw [dpa_len b2]; exact hz) (fun us s1 J rv => ?_) hstar)
      rw [if_neg hn]
      exact h2 pins s1 _ J rfl
/-- this word: the names are set -/
theorem mc_hit (is : List Nat) {ns : List Str} (hc : X.calm = true) (hN : X.N.Nodup) (hl : ds.length = ps.length) (hz : ds.length < 100000) (hi : is.length = ds.length) (hcap : capN ps = some ns) (hat : capB X.N X.env.scope ns is = true) (hb : SD X W T body (setAll δ is ds) ω R)
    (hstar : (.MatchValue (.Constant (.str z) k p2) p3 :: ps : List Pattern).findIdx? (·.isStar) = none := by rfl) :
    MC X W T (⟨.MatchSequence (.MatchValue (.Constant (.str z) k p2) p3 :: ps) p1, none, body⟩ :: cs) (.tuple (.str z :: ds)) δ ω R := fun first x σ H D rl t dx kt => by
  have lns : ∀ {ps : List Pattern} {ns : List Str}, capN ps = some ns → ns.length = ps.length := by
    intro ps
    induction ps with
    | nil =>
      intro ns h
      cases h
      rfl
    | cons p ps ih =>
      intro ns h
      unfold capN at h
      split at h
      · rename_i h2
        cases h2
      · rename_i n pp ps' heq
        cases heq
        cases e : capN ps with
        | none =>
          rw [e] at h
          cases h
        | some ns' =>
          rw [e] at h
          cases h
          rw [List.length_cons, List.length_cons, ih e]
      · cases h
  unfold wpm
  intro pins s u I r
  cases dx with
  | tup g1 g2 =>
    obtain rfl : u = Value.ref _ := r
    cases g2 with
    | cons b1 b2 =>
      cases b1
      refine wpAny_matchCases_cons (seq_word (E := X.xe) (y := z) (z := z) hc I (same_sqt hid_sub g1) (by rw [dpa_len b2]; exact hl) (by rw [dpa_len b2]; exact hz) (fun us s1 J rv => ?_) hstar)
      rw [if_pos rfl]
      have lus : us.length = ns.length := by rw [← rv.length, dpa_len b2, hl, lns hcap]
      refine each_caps hcap lus ?_
      refine wpAny_mono (assign_caps hN hat J rv lus (gAll_ok (Q := fun σ' H' => H' = H ∧ Rl X.K H σ' (setAll δ is ds) ω) rl b2 hi fun σ' l => ⟨rfl, l⟩)) (fun _ s2 w => ?_) fun _ _ x => x
      obtain ⟨σ', H', J2, eH, l2⟩ := w
      subst eH
      exact pss_w.run pins s2 σ' H' D J2 (hb σ' H' D l2 t kt)
end
end FP

namespace FP
open PySem PySem.Spec PyProof.Rows L2
/-! ### objects with fields of data -/
abbrev Fs := List (Str × PyData)
def imF (fs : Fs) : List (Str × Sd) := fs.map fun p => (p.1, .im p.2)
def putD (f : Str) (d : PyData) : Fs → Fs
  | [] => [(f, d)]
  | (g, x) :: r => if g = f then (g, d) :: r else (g, x) :: putD f d r
/-- fields as they lie -/
inductive FV (K : PySem.W.Frag) (H : Hp) : Fs → List (Str × V) → Prop
  | nil : FV K H [] []
  | cons {g : Str} {d : PyData} {v : V} {fs : Fs} {vs : List (Str × V)} (h : Dp K H v d) (r : FV K H fs vs) : FV K H ((g, d) :: fs) ((g, v) :: vs)
theorem fv_mono {K : PySem.W.Frag} {H H' : Hp} (e : Same H H') : ∀ {fs : Fs} {vs : List (Str × V)}, FV K H fs vs → FV K H' fs vs
  | _, _, .nil => .nil
  | _, _, .cons h r => .cons (dpm e h) (fv_mono e r)
theorem fv_ke {T : List (Addr × Str)} {K : PySem.W.Frag} {H H' : Hp} (e : Ke T H H') : ∀ {fs : Fs} {vs : List (Str × V)}, FV K H fs vs → FV K H' fs vs
  | _, _, .nil => .nil
  | _, _, .cons h r => .cons (dp_ke e _ _ h) (fv_ke e r)
theorem fv_of {K : PySem.W.Frag} {H : Hp} : ∀ {fs : Fs} {vs : List (Str × V)}, Paired (fun (p : Str × Sd) (q : Str × V) => p.1 = q.1 ∧ SdV K H p.2 q.2) (imF fs) vs → FV K H fs vs
  | [], _, h => by
    cases h
    exact .nil
  | (g, d) :: fs, _, h => by
    cases h with
    | cons a b =>
      rename_i q vs
      obtain ⟨g', v⟩ := q
      obtain ⟨e, a⟩ := a
      cases e
      exact .cons a (fv_of b)
theorem of_fv {K : PySem.W.Frag} {H : Hp} : ∀ {fs : Fs} {vs : List (Str × V)}, FV K H fs vs → Paired (fun (p : Str × Sd) (q : Str × V) => p.1 = q.1 ∧ SdV K H p.2 q.2) (imF fs) vs
  | _, _, .nil => .nil
  | _, _, .cons h r => .cons ⟨rfl, h⟩ (of_fv r)
theorem fv_put {K : PySem.W.Frag} {H : Hp} {f : Str} {d : PyData} {y : V} (h : Dp K H y d) : ∀ {fs : Fs} {vs : List (Str × V)}, FV K H fs vs → FV K H (putD f d fs) (putF f y vs)
  | _, _, .nil => .cons h .nil
  | (g, _) :: _, _, .cons a r => by
    unfold putD putF
    by_cases e : g = f
    · rw [if_pos e, if_pos e]
      exact .cons h r
    · rw [if_neg e, if_neg e]
      exact .cons a (fv_put h r)
theorem fv_get {K : PySem.W.Frag} {H : Hp} {f : Str} {d : PyData} : ∀ {fs : Fs} {vs : List (Str × V)}, FV K H fs vs → fs.lookup f = some d → ∃ v, vs.lookup f = some v ∧ Dp K H v d
  | _, _, .nil, h => by cases h
  | (g, x) :: fs, (_, v) :: vs, .cons a r, h => by
    rw [List.lookup_cons] at h ⊢
    cases e : f == g with
    | true =>
      rw [e] at h
      cases h
      exact ⟨v, rfl, a⟩
    | false =>
      rw [e] at h
      exact fv_get r h
theorem fv_none {K : PySem.W.Frag} {H : Hp} {f : Str} : ∀ {fs : Fs} {vs : List (Str × V)}, FV K H fs vs → fs.lookup f = none → vs.lookup f = none
  | _, _, .nil, _ => rfl
  | (g, x) :: fs, (_, v) :: vs, .cons a r, h => by
    rw [List.lookup_cons] at h ⊢
    cases e : f == g with
    | true =>
      rw [e] at h
      cases h
    | false =>
      rw [e] at h
      exact fv_none r h
theorem fv_len {K : PySem.W.Frag} {H : Hp} : ∀ {fs : Fs} {vs : List (Str × V)}, FV K H fs vs → vs.length = fs.length
  | _, _, .nil => rfl
  | _, _, .cons _ r => by rw [List.length_cons, List.length_cons, fv_len r]
/-- an object of one's own is written -/
theorem own_step {T : List (Addr × Str)} {K : PySem.W.Frag} {H : Hp} {σ : L2.St} {δ : De} {ω : Om} {D : Addr} {o o' : Od} {u0 u : HO} (rl : Rl K H σ δ (omD ω D o)) (e0 : H D = some u0) (nt : ∀ ps, u0 ≠ .tbl ps) (nc : ∀ c q, u0 ≠ LamX.CodeO c q)
    (new : OdV K (hid (ads (omD ω D o')) (upd H D u)) (upd H D u) D o') : Stp T (omD ω D o) (omD ω D o') H (upd H D u) ∧ Rl K (upd H D u) σ δ (omD ω D o') := by
  have hh : Same (hid (ads (omD ω D o)) H) (hid (ads (omD ω D o')) (upd H D u)) := hid_upd
  refine ⟨⟨fun b x h n _ => ?_, fun a h => .inl h, rfl, fun t => ?_⟩, ⟨rl.len, fun j r h => ?_, fun z x h => ?_, rl.ro.nd, fun z h hz => ?_⟩⟩
  · have nb : b ≠ D := fun z => n (by rw [z]; exact List.mem_cons_self)
    rw [upd_ne nb]
    exact h
  · intro q hq
    obtain ⟨ps, a1, a2, a3⟩ := t q hq
    refine ⟨ps, by rw [upd_ne (fun z => nt ps (by rw [z, e0] at a1; exact Option.some.inj a1))]; exact a1, a2, fun p' cv hc => ?_⟩
    obtain ⟨c0, b1, b2⟩ := a3 p' cv hc
    exact ⟨c0, b1, by rw [upd_ne (fun z => nc _ _ (by rw [z, e0] at b2; exact Option.some.inj b2))]; exact b2⟩
  · obtain ⟨v, h1, h2⟩ := rl.sl j r h
    exact ⟨v, h1, sdv_mono hh h2⟩
  · rcases List.mem_cons.mp h with q | q
    · cases q
      exact new
    · have nd2 : (D :: ω.os.map (·.1)).Nodup := rl.ro.nd
      have na : z ≠ D := fun zz => (List.nodup_cons.mp nd2).1 (List.mem_map.mpr ⟨(z, x), q, zz⟩)
      have g := rl.ro.ob z x (List.mem_cons_of_mem _ q)
      exact odv_keep (fun w => sdv_mono hh w) (fun u _ g1 => by rw [upd_ne na]; exact g1) g
  · have hn := rl.ro.th z h
    by_cases za : z = D
    · rw [za, upd_same] at hz
      cases hz
    · rw [upd_ne za] at hz
      exact hn hz
theorem fld_step {T : List (Addr × Str)} {K : PySem.W.Frag} {H : Hp} {σ : L2.St} {δ : De} {ω : Om} {a C dx : Addr} {fs : Fs} {vs : List (Str × V)} {f : Str} {y : V} {d : PyData} (rl : Rl K H σ δ (omD ω a (.ins C (imF fs)))) (e0 : H a = some (.ins C dx vs)) (fv : FV K (hid (ads (omD ω a (.ins C (imF fs)))) H) fs vs)
    (dy : Dp K (hid (ads (omD ω a (.ins C (imF fs)))) H) y d) : Stp T (omD ω a (.ins C (imF fs))) (omD ω a (.ins C (imF (putD f d fs)))) H (upd H a (.ins C dx (putF f y vs))) ∧ Rl K (upd H a (.ins C dx (putF f y vs))) σ δ (omD ω a (.ins C (imF (putD f d fs)))) :=
  own_step rl e0 (fun _ z => by cases z) (fun _ _ z => by unfold LamX.CodeO at z; cases z) ⟨dx, _, upd_same, of_fv (fv_put (dpm hid_upd dy) (fv_mono hid_upd fv))⟩
section
variable {X : Cx} {W : WX} {T : List (Addr × Str)} {δ : De} {ω : Om} {e : Expr} {d : PyData} {ds : List PyData} {pos p p1 : Pos} {R : Out → Prop} {ss : List Stmt} {a C : Addr} {fs : Fs} {f x : Str}
theorem rl_ins {H : Hp} {σ : L2.St} (rl : Rl X.K H σ δ ω) (hm : (a, Od.ins C (imF fs)) ∈ ω.os) : ∃ dx vs, H a = some (.ins C dx vs) ∧ FV X.K (hid (ads ω) H) fs vs := by
  obtain ⟨dx, vs, h1, h2⟩ := rl.ro.ob a _ hm
  exact ⟨dx, vs, h1, fv_of h2⟩
/-- x.f -/
theorem pd_fld (i : Nat) (Cl : Cls X.K C) (Na : NoAttr X.K C f) (hm : (a, Od.ins C (imF fs)) ∈ ω.os) (hl : fs.lookup f = some d) (hd : δ[i]? = some (some (.ad a)) := by rfl) (hN : X.N[i]? = some x := by rfl) (hv : Vis X.env.scope x := by first | exact Or.inl rfl | exact Or.inr (Or.inl rfl) | exact Or.inr (Or.inr rfl))
    (h1 : (x == ("__debug__" : Str)) = false := by decide) (h2 : (x == ("__classdict__" : Str)) = false := by decide) (hb : attributeBase (.Name x p1) f X.env (eval (.Name x p1) X.env) = eval (.Name x p1) X.env := by rfl) : PD X δ ω (.Attribute (.Name x p1) f pos) d := fun σ H rl Q q => by
  obtain ⟨v, e1, e2⟩ := rl.sl i _ hd
  have e2 : v = .ref a := e2
  subst e2
  obtain ⟨dx, vs, g1, g2⟩ := rl_ins rl hm
  obtain ⟨y, g3, g4⟩ := fv_get g2 hl
  exact we (pe_fld (pe_var hN hv h1 h2) hb) ⟨_, e1, a, C, dx, vs, y, rfl, g1, Cl, Na, g3, q y H (Same.refl H) g4⟩
/-- x.f = e -/
theorem sd_fld (i : Nat) {pos' : Pos} (Cl : Cls X.K C) (Na : NoAttr X.K C f) (he : PD X δ (omD ω a (.ins C (imF fs))) e d) (hk : SD X W T ss δ (omD ω a (.ins C (imF (putD f d fs)))) R) (hz : fs.length < 1000) (hd : δ[i]? = some (some (.ad a)) := by rfl) (hN : X.N[i]? = some x := by rfl)
    (hv : Vis X.env.scope x := by first | exact Or.inl rfl | exact Or.inr (Or.inl rfl) | exact Or.inr (Or.inr rfl)) (h1 : (x == ("__debug__" : Str)) = false := by decide) (h2 : (x == ("__classdict__" : Str)) = false := by decide)
    (hs : swapsWith e (some (.Attribute (.Name x p1) f pos')) pos.line X.env = pure false := by rfl) : SD X W T (.Assign [.Attribute (.Name x p1) f pos'] e pos :: ss) δ (omD ω a (.ins C (imF fs))) R :=
  sd_cons fun σ H D rl t k => ws (ps_fld (pe_var hN hv h1 h2) pe_w hs) (he σ H rl _ fun y H1 s1 d1 => by
    have rl1 := rl.mono s1
    obtain ⟨v, e1, e2⟩ := rl1.sl i _ hd
    have e2 : v = .ref a := e2
    subst e2
    obtain ⟨dx, vs, g1, g2⟩ := rl_ins rl1 List.mem_cons_self
    obtain ⟨st, l2⟩ := fld_step (T := T) (f := f) rl1 g1 g2 d1
    exact ⟨_, e1, a, C, dx, vs, rfl, g1, Cl, Na, by rw [fv_len g2]; exact hz, k.nx δ _ σ _ hk ((Stp.of s1).trans st) l2⟩)
/-- x.f += e, whole numbers -/
theorem sd_fldadd (i : Nat) {tpos : Pos} {m n : Int} (Cl : Cls X.K C) (Na : NoAttr X.K C f) (hl : fs.lookup f = some (.int m)) (he : PD X δ (omD ω a (.ins C (imF fs))) e (.int n)) (hk : SD X W T ss δ (omD ω a (.ins C (imF (putD f (.int (m + n)) fs)))) R) (hz : fs.length < 1000) (hd : δ[i]? = some (some (.ad a)) := by rfl) (hN : X.N[i]? = some x := by rfl)
    (hv : Vis X.env.scope x := by first | exact Or.inl rfl | exact Or.inr (Or.inl rfl) | exact Or.inr (Or.inr rfl)) (h1 : (x == ("__debug__" : Str)) = false := by decide) (h2 : (x == ("__classdict__" : Str)) = false := by decide) :
    SD X W T (.AugAssign (.Attribute (.Name x p1) f tpos) .Add e pos :: ss) δ (omD ω a (.ins C (imF fs))) R :=
  sd_cons fun σ H D rl t k => ws (ps_fldaug (pe_var hN hv h1 h2) pe_w in_add) (by
    obtain ⟨v, e1, e2⟩ := rl.sl i _ hd
    have e2 : v = .ref a := e2
    subst e2
    obtain ⟨dx, vs, g1, g2⟩ := rl_ins rl List.mem_cons_self
    obtain ⟨y, g3, g4⟩ := fv_get g2 hl
    cases g4
    refine ⟨_, e1, a, C, dx, vs, _, rfl, g1, Cl, Na, g3, he σ H rl _ fun z H1 s1 d1 => ?_⟩
    cases d1
    have rl1 := rl.mono s1
    obtain ⟨dx1, vs1, k1, k2⟩ := rl_ins rl1 List.mem_cons_self
    obtain ⟨st, l2⟩ := fld_step (T := T) (f := f) rl1 k1 k2 (.int (m + n))
    exact ⟨m, n, rfl, rfl, dx1, vs1, k1, by rw [fv_len k2]; exact hz, k.nx δ _ σ _ hk ((Stp.of s1).trans st) l2⟩)
end
end FP

namespace FP
open PySem PySem.Spec PyProof.Rows L2
/-! ### x.f, x.g, .. = a tuple -/
def gFld (K : PySem.W.Frag) (i : Nat) (C : Addr) (f : Str) : TG := fun v σ H Q => ∃ a dx fs, σ[i]? = some (some (.ref a)) ∧ H a = some (.ins C dx fs) ∧ Cls K C ∧ NoAttr K C f ∧ fs.length < 1000 ∧ Q σ (upd H a (.ins C dx (putF f v fs)))
def gFlds (K : PySem.W.Frag) (i : Nat) (C : Addr) : List Str → TGs
  | [] => gNil
  | f :: fs => gCons (gFld K i C f) (gFlds K i C fs)
def putAll : List Str → List PyData → Fs → Fs
  | f :: ns, d :: ds, fs => putAll ns ds (putD f d fs)
  | _, _, fs => fs
theorem putD_len (f : Str) (d : PyData) : ∀ fs : Fs, (putD f d fs).length ≤ fs.length + 1
  | [] => Nat.le_refl _
  | (g, x) :: r => by
    unfold putD
    by_cases e : g = f
    · rw [if_pos e]
      simp
    · rw [if_neg e]
      have := putD_len f d r
      simp
      omega
section
variable {X : Cx} {W : WX} {T : List (Addr × Str)} {δ : De} {ω : Om} {e : Expr} {d : PyData} {ds : List PyData} {pos p p1 : Pos} {R : Out → Prop} {ss : List Stmt} {a C : Addr} {fs : Fs} {f x : Str}
theorem pg_fld (i : Nat) (hN : X.N[i]? = some x) (hv : Vis X.env.scope x) (h1 : (x == ("__debug__" : Str)) = false := by decide) (h2 : (x == ("__classdict__" : Str)) = false := by decide) : PG X (.Attribute (.Name x p1) f pos) (gFld X.K i C f) := by
  refine ⟨fun pins s σ H v u Q I r h => ?_⟩
  obtain ⟨a, dx, fs, g1, g2, g3, g4, g5, q⟩ := h
  rw [assign_Attribute]
  refine wpAny_bind (wpAny_holding (wpAny_mono ((pe_var (pos := p1) hN hv h1 h2).run pins s σ H (fun w H1 => w = .ref a ∧ H1 = H) I ⟨_, g1, rfl, rfl⟩) (fun uo s1 w => ?_) fun _ _ x => x))
  obtain ⟨w, H1, J, rw', ew, eH⟩ := w
  subst ew
  subst eH
  obtain rfl : uo = Value.ref a := rw'
  refine wpAny_bind (wpAny_standAt (wpAny_bind (wpAny_holding (setattr_ok J g2 g3 g4 g5 r fun s2 J2 => ?_))))
  exact wpAny_release ⟨σ, _, J2, q⟩
theorem gFlds_ok {Q : L2.St → Hp → Prop} {i : Nat} (Cl : Cls X.K C) (hd : δ[i]? = some (some (.ad a))) : ∀ {ns : List Str} {ds : List PyData} {vs : List V} {fs : Fs} {σ : L2.St} {H : Hp}, (∀ f ∈ ns, NoAttr X.K C f) → fs.length + ns.length < 1000 → ns.length = ds.length → Rl X.K H σ δ (omD ω a (.ins C (imF fs))) → DpAll X.K (hid (ads (omD ω a (.ins C (imF fs)))) H) vs ds →
    (∀ H', Stp T (omD ω a (.ins C (imF fs))) (omD ω a (.ins C (imF (putAll ns ds fs)))) H H' → Rl X.K H' σ δ (omD ω a (.ins C (imF (putAll ns ds fs)))) → Q σ H') → gFlds X.K i C ns vs σ H Q
  | [], [], _, fs, σ, H, _, _, _, rl, .nil, k => ⟨rfl, k H .refl rl⟩
  | f :: ns, d :: ds, v :: vs, fs, σ, H, na, hz, hl, rl, .cons b1 b2, k => by
    obtain ⟨w, e1, e2⟩ := rl.sl i _ hd
    have e2 : w = .ref a := e2
    subst e2
    obtain ⟨dx, us, g1, g2⟩ := rl_ins rl List.mem_cons_self
    obtain ⟨st, l2⟩ := fld_step (T := T) (f := f) rl g1 g2 b1
    have hz' : fs.length + (ns.length + 1) < 1000 := hz
    have pl := putD_len f d fs
    refine ⟨v, vs, rfl, a, dx, us, e1, g1, Cl, na f List.mem_cons_self, by rw [fv_len g2]; omega, ?_⟩
    exact gFlds_ok Cl hd (fun g hg => na g (List.mem_cons_of_mem _ hg)) (by omega) (Nat.succ.inj hl) l2 (dpam hid_upd b2) fun H' s' l' => k H' (st.trans s') l'
  | [], _ :: _, _, _, _, _, _, _, hl, _, _, _ => by cases hl
  | _ :: _, [], _, _, _, _, _, _, hl, _, _, _ => by cases hl
theorem sd_unpF (i : Nat) (ns : List Str) {ts : List Expr} {n kk : Nat} {p' : Pos} (Cl : Cls X.K C) (na : ∀ f ∈ ns, NoAttr X.K C f) (he : PD X δ (omD ω a (.ins C (imF fs))) e (.tuple ds)) (hg : PG X (.Tuple ts kk p') (gTup X.K n (gFlds X.K i C ns))) (hn : ds.length = n) (hi : ns.length = n) (hz : fs.length + ns.length < 1000)
    (hk : SD X W T ss δ (omD ω a (.ins C (imF (putAll ns ds fs)))) R) (hd : δ[i]? = some (some (.ad a)) := by rfl) (hs : swapsWithSole [.Tuple ts kk p'] e pos.line X.env = pure false := by rfl) (hw : swappedStores [.Tuple ts kk p'] e X.env = pure none := by rfl) : SD X W T (.Assign [.Tuple ts kk p'] e pos :: ss) δ (omD ω a (.ins C (imF fs))) R :=
  sd_cons fun σ H D rl t k => ws (ps_asg pe_w hg hs hw) (he σ H rl _ fun v H1 s1 dv => by
    cases dv with
    | tup h1 h2 => exact ⟨_, _, rfl, same_sqt hid_sub h1, by rw [dpa_len h2]; exact hn, gFlds_ok (T := T) Cl hd na hz (hi.trans hn.symm) (rl.mono s1) h2 fun H' st l => k.nx δ _ σ H' hk ((Stp.of s1).trans st) l⟩)
end
/-! ### methods -/
theorem hid_cons_in {a : Addr} {ps : List Addr} {H : Hp} (h : a ∈ ps) : hid (a :: ps) H = hid ps H := by
  funext b
  unfold hid
  by_cases e : b ∈ ps
  · rw [if_pos e, if_pos (List.mem_cons_of_mem _ e)]
  · rw [if_neg e, if_neg (fun z => (List.mem_cons.mp z).elim (fun q => e (by rw [q]; exact h)) e)]
theorem hid_self {a C : Addr} {ps : List Addr} {o : Od} {H : Hp} : hid (ads ⟨ps, [(a, o)]⟩) H = hid (a :: ps) H := by
  funext b
  unfold hid
  have e : b ∈ ads ⟨ps, [(a, o)]⟩ ↔ b ∈ a :: ps := by
    show b ∈ ps ++ [a] ↔ b ∈ a :: ps
    simp [or_comm]
  by_cases h : b ∈ a :: ps
  · rw [if_pos h, if_pos (e.mpr h)]
  · rw [if_neg h, if_neg (fun z => h (e.mp z))]
/-- self and what is handed to a method -/
structure MIn (K : PySem.W.Frag) (C : Addr) (vs : List V) (H : Hp) (ps : List Addr) (a : Addr) (fs : Fs) (ds : List PyData) : Prop where
  ex : ∃ dx fvs vs', vs = .ref a :: vs' ∧ (∀ b ∈ ps, H b ≠ none) ∧ H a = some (.ins C dx fvs) ∧ FV K (hid (a :: ps) H) fs fvs ∧ DpAll K (hid (a :: ps) H) vs' ds
/-- one that only reads -/
def spR (K : PySem.W.Frag) (C : Addr) (fr : Fs → List PyData → PyData → Prop) : Sp := fun vs H Q _ => ∃ ps a fs ds d, MIn K C vs H ps a fs ds ∧ fr fs ds d ∧ ∀ v H', Same H H' → Dp K (hid (a :: ps) H') v d → Q v H'
/-- one that writes self, or raises -/
def spW (K : PySem.W.Frag) (C : Addr) (fr : Fs → List PyData → Rs → Fs → Prop) : Sp := fun vs H Q E => ∃ ps a fs ds r fs', MIn K C vs H ps a fs ds ∧ fr fs ds r fs' ∧ ∀ H' dx fvs, (∀ b o, b ≠ a → H b = some o → H' b = some o) → H' a = some (.ins C dx fvs) → FV K (hid (a :: ps) H') fs' fvs →
  (match r with | .ok d => ∀ v, Dp K (hid (a :: ps) H') v d → Q v H' | .er Z => E (.ref Z) none H')
structure RdOk (P : Program) (w : World) (K : PySem.W.Frag) (mg : Str → Option Value) (base : Heap) (k : Nat) (C : Addr) (m : Str) (fr : Fs → List PyData → PyData → Prop) : Prop where
  ex : ∃ f fd ps, FnOk P w K mg base (L2N.CX P w) k f fd ps (spR K C fr) ∧ Meth K C m f ∧ L2.Binds K fd ps []
structure WrOk (P : Program) (w : World) (K : PySem.W.Frag) (mg : Str → Option Value) (base : Heap) (k : Nat) (C : Addr) (m : Str) (fr : Fs → List PyData → Rs → Fs → Prop) : Prop where
  ex : ∃ f fd ps, FnOk P w K mg base (L2N.CX P w) k f fd ps (spW K C fr) ∧ Meth K C m f ∧ L2.Binds K fd ps []
/-- the slots at the start -/
def startM (N : List Str) (a : Addr) (ds : List PyData) : De := some (.ad a) :: (ds.map (fun d => some (.im d)) ++ List.replicate (N.length - (ds.length + 1)) none)
theorem startM_rl {K : PySem.W.Frag} {C : Addr} {vs : List V} {H : Hp} {ps : List Addr} {a : Addr} {fs : Fs} {ds : List PyData} {N : List Str} (h : MIn K C vs H ps a fs ds) : Rl K H (L2.start N vs) (startM N a ds) ⟨ps, [(a, .ins C (imF fs))]⟩ := by
  obtain ⟨dx, fvs, vs', rfl, h1, h2, h3, h4⟩ := h.ex
  have hl := dpa_len h4
  refine ⟨?_, fun i r hi => ?_, fun z o hz => ?_, by show [a].Nodup; simp, h1⟩
  · unfold L2.start startM
    simp [hl]
  · rw [hid_self (C := C)]
    unfold startM at hi
    cases i with
    | zero =>
      cases hi
      exact ⟨.ref a, rfl, rfl⟩
    | succ i =>
      rw [List.getElem?_cons_succ] at hi
      by_cases hlt : i < ds.length
      · rw [List.getElem?_append_left (by rw [List.length_map]; exact hlt), List.getElem?_map, List.getElem?_eq_getElem hlt] at hi
        cases hi
        obtain ⟨v, g1, g2⟩ := dpa_get h4 (List.getElem?_eq_getElem hlt)
        refine ⟨v, ?_, g2⟩
        unfold L2.start
        rw [List.map_cons, List.cons_append, List.getElem?_cons_succ, List.getElem?_append_left (by rw [List.length_map, hl]; exact hlt), List.getElem?_map, g1]
        rfl
      · rw [List.getElem?_append_right (by rw [List.length_map]; omega)] at hi
        obtain ⟨q1, q2⟩ := List.getElem?_eq_some_iff.mp hi
        rw [List.getElem_replicate] at q2
        cases q2
  · rcases List.mem_cons.mp hz with q | q
    · cases q
      rw [hid_self (C := C)]
      exact ⟨dx, fvs, h2, of_fv h3⟩
    · cases q
section
variable {P : Program} {w : World} {K : PySem.W.Frag} {mg : Str → Option Value} {base : Heap} {x qual : Str} {params : Arguments} {body : List Stmt} {scope : Scope} {kws : List (Str × V)} {f C : Addr} {fd : FuncData} {N ps : List Str} {k : Nat}
theorem rd_ok {fr : Fs → List PyData → PyData → Prop} {e : Expr} {pos : Pos} (F : FunD K x qual params body scope [] kws f fd) (hm : Meth K C x f) (S : FnScope N ps scope) (hb : ∀ (kV doc pm : Value) (an : Option Addr) (cdv ct : Value) (us : List Value), us.length = ps.length → bindArgs (PySem.W.fnOf x qual params body scope .none kV doc pm an cdv ct) ⟨us, []⟩ = pure (ps.zip us))
    (len : ∀ fs ds d, fr fs ds d → ds.length + 1 = ps.length) (hbd : body = [.Return (some e) pos])
    (hbody : ∀ (cdv : Value) (A : Around) (outer : List Env) (s : Shared) (H : Hp) (E : XK) (qs : List Addr) (a : Addr) (fs : Fs) (ds : List PyData) (d : PyData), Room k (A.deeper (envOfC qual scope s.heap.objs.size f cdv)) → fr fs ds d →
      PD (cxOf (L2N.CX P w) P w K mg base N qual scope f cdv A outer s H E) (startM N a ds) ⟨qs, [(a, .ins C (imF fs))]⟩ e d) : RdOk P w K mg base (k + 1) C x fr := by
  refine ⟨f, fd, ps, F.ok S (fun vs H Q E h => ?_) (fun cdv A outer s H vs Q E hr h => ?_), hm, F.bindsN hb⟩
  · obtain ⟨qs, a, fs, ds, d, h1, h2, _⟩ := h
    obtain ⟨dx, fvs, vs', rfl, _, _, _, h4⟩ := h1.ex
    rw [List.length_cons, dpa_len h4]
    exact len fs ds d h2
  · obtain ⟨qs, a, fs, ds, d, h1, h2, h3⟩ := h
    subst hbd
    refine ⟨_, pss_one (ps_ret pe_w), hbody cdv A outer s H E qs a fs ds d hr h2 _ _ (startM_rl h1) _ fun v H' s' dv => ?_⟩
    rw [hid_self (C := C)] at dv
    exact h3 v H' s' dv
/-- how such a def may end: self's fields -/
def FinW (C a : Addr) (r : Rs) (fs' : Fs) : Out → Prop
  | .nx _ ω => r = .ok .none ∧ (a, Od.ins C (imF fs')) ∈ ω.os
  | .rt (.im d) ω => r = .ok d ∧ (a, Od.ins C (imF fs')) ∈ ω.os
  | .ex Z ω => r = .er Z ∧ (a, Od.ins C (imF fs')) ∈ ω.os
  | _ => False
theorem wr_ok {fr : Fs → List PyData → Rs → Fs → Prop} (F : FunD K x qual params body scope [] kws f fd) (hm : Meth K C x f) (S : FnScope N ps scope) (hb : ∀ (kV doc pm : Value) (an : Option Addr) (cdv ct : Value) (us : List Value), us.length = ps.length → bindArgs (PySem.W.fnOf x qual params body scope .none kV doc pm an cdv ct) ⟨us, []⟩ = pure (ps.zip us))
    (len : ∀ fs ds r fs', fr fs ds r fs' → ds.length + 1 = ps.length)
    (hbody : ∀ (cdv : Value) (A : Around) (outer : List Env) (s : Shared) (H : Hp) (E : XK) (qs : List Addr) (a : Addr) (fs : Fs) (ds : List PyData) (r : Rs) (fs' : Fs), Room k (A.deeper (envOfC qual scope s.heap.objs.size f cdv)) → fr fs ds r fs' →
      SD (cxOf (L2N.CX P w) P w K mg base N qual scope f cdv A outer s H E) (WOf E) [] body (startM N a ds) ⟨qs, [(a, .ins C (imF fs))]⟩ (FinW C a r fs')) : WrOk P w K mg base (k + 1) C x fr := by
  refine ⟨f, fd, ps, F.ok S (fun vs H Q E h => ?_) (fun cdv A outer s H vs Q E hr h => ?_), hm, F.bindsN hb⟩
  · obtain ⟨qs, a, fs, ds, r, fs', h1, h2, _⟩ := h
    obtain ⟨dx, fvs, vs', rfl, _, _, _, h4⟩ := h1.ex
    rw [List.length_cons, dpa_len h4]
    exact len fs ds r fs' h2
  · obtain ⟨qs, a, fs, ds, r, fs', h1, h2, h3⟩ := h
    refine ⟨_, pss_w, hbody cdv A outer s H E qs a fs ds r fs' hr h2 _ _ _ (startM_rl h1) (fun _ z => nomatch z) ?_⟩
    have kept : ∀ {ω' : Om} {H' : Hp}, Stp [] ⟨qs, [(a, .ins C (imF fs))]⟩ ω' H H' → ∀ b o, b ≠ a → H b = some o → H' b = some o := fun {ω' H'} st b o nb e => st.keep b o e (fun z => nb (List.mem_singleton.mp z)) (.inl rfl)
    have more : ∀ {ω' : Om} {H' : Hp}, Stp [] ⟨qs, [(a, .ins C (imF fs))]⟩ ω' H H' → (a, Od.ins C (imF fs')) ∈ ω'.os → Same (hid (ads ω') H') (hid (a :: qs) H') := fun {ω' H'} st hm => hid_more fun b hb => by
      rcases List.mem_cons.mp hb with q | q
      · subst q
        exact List.mem_append_right _ (List.mem_map.mpr ⟨_, hm, rfl⟩)
      · exact List.mem_append_left _ (by rw [st.ps]; exact q)
    refine ⟨fun δ' ω' σ' H' z st l => ?_, fun r' ω' v H' z st l dv => ?_, fun Z ω' σ' H' z st l => ?_, fun _ _ _ _ z => False.elim z, fun _ _ _ _ z => False.elim z⟩
    · obtain ⟨rfl, hm⟩ := z
      obtain ⟨dx, vs1, g1, g2⟩ := l.ro.ob a _ hm
      exact h3 H' dx vs1 (kept st) g1 (fv_mono (more st hm) (fv_of g2)) .non .non
    · cases r' with
      | im d =>
        obtain ⟨rfl, hm⟩ := z
        obtain ⟨dx, vs1, g1, g2⟩ := l.ob a _ hm
        exact h3 H' dx vs1 (kept st) g1 (fv_mono (more st hm) (fv_of g2)) v (dpm (more st hm) dv)
      | ad a => exact False.elim z
    · obtain ⟨rfl, hm⟩ := z
      obtain ⟨dx, vs1, g1, g2⟩ := l.ob a _ hm
      exact h3 H' dx vs1 (kept st) g1 (fv_mono (more st hm) (fv_of g2))
end
end FP

namespace FP
open PySem PySem.Spec PyProof.Rows L2
/-- an object of one's own was written by another's hand -/
theorem own_step2 {T : List (Addr × Str)} {K : PySem.W.Frag} {H H' : Hp} {σ : L2.St} {δ : De} {ω : Om} {D : Addr} {o o' : Od} {u0 : HO} (rl : Rl K H σ δ (omD ω D o)) (e0 : H D = some u0) (nt : ∀ ps, u0 ≠ .tbl ps) (nc : ∀ c q, u0 ≠ LamX.CodeO c q) (kept : ∀ b x, b ≠ D → H b = some x → H' b = some x)
    (new : OdV K (hid (ads (omD ω D o')) H') H' D o') : Stp T (omD ω D o) (omD ω D o') H H' ∧ Rl K H' σ δ (omD ω D o') := by
  have hh : Same (hid (ads (omD ω D o)) H) (hid (ads (omD ω D o')) H') := fun b x h => by
    obtain ⟨n, e⟩ := hid_out h
    have nb : b ≠ D := fun z => n (ads_omD.mpr (.inl z))
    refine hid_of (fun z => n ?_) (kept b x nb e)
    rcases ads_omD.mp z with q | q
    · exact ads_omD.mpr (.inl q)
    · exact ads_omD.mpr (.inr q)
  refine ⟨⟨fun b x h n _ => ?_, fun a h => .inl h, rfl, fun t => ?_⟩, ⟨rl.len, fun j r h => ?_, fun z x h => ?_, rl.ro.nd, fun z h hz => ?_⟩⟩
  · exact kept b x (fun z => n (by rw [z]; exact List.mem_cons_self)) h
  · intro q hq
    obtain ⟨ps, a1, a2, a3⟩ := t q hq
    refine ⟨ps, kept _ _ (fun z => nt ps (by rw [z, e0] at a1; exact Option.some.inj a1)) a1, a2, fun p' cv hc => ?_⟩
    obtain ⟨c0, b1, b2⟩ := a3 p' cv hc
    exact ⟨c0, b1, kept _ _ (fun z => nc _ _ (by rw [z, e0] at b2; exact Option.some.inj b2)) b2⟩
  · obtain ⟨v, h1, h2⟩ := rl.sl j r h
    exact ⟨v, h1, sdv_mono hh h2⟩
  · rcases List.mem_cons.mp h with q | q
    · cases q
      exact new
    · have nd2 : (D :: ω.os.map (·.1)).Nodup := rl.ro.nd
      have na : z ≠ D := fun zz => (List.nodup_cons.mp nd2).1 (List.mem_map.mpr ⟨(z, x), q, zz⟩)
      have g := rl.ro.ob z x (List.mem_cons_of_mem _ q)
      exact odv_keep (fun w => sdv_mono hh w) (fun u _ g1 => kept _ _ na g1) g
  · have hn := rl.ro.th z h
    by_cases za : z = D
    · have g := odv_some new
      rw [za] at hz
      exact g hz
    · cases e : H z with
      | none => exact hn e
      | some u =>
        rw [kept z u za e] at hz
        cases hz
section
variable {X : Cx} {W : WX} {T : List (Addr × Str)} {δ : De} {ω : Om} {e : Expr} {es : List Expr} {d : PyData} {ds : List PyData} {pos p p1 apos : Pos} {R : Out → Prop} {ss : List Stmt} {a C : Addr} {fs fs' : Fs} {f x m : Str} {k : Nat}
theorem min_of {H : Hp} {σ : L2.St} {vs : List V} (rl : Rl X.K H σ δ ω) (hm : (a, Od.ins C (imF fs)) ∈ ω.os) (hv : DpAll X.K (hid (ads ω) H) vs ds) : MIn X.K C (.ref a :: vs) H (ads ω) a fs ds := by
  obtain ⟨dx, us, g1, g2⟩ := rl_ins rl hm
  have ha : a ∈ ads ω := List.mem_append_right _ (List.mem_map.mpr ⟨_, hm, rfl⟩)
  refine ⟨dx, us, vs, rfl, rl.ro.there, g1, ?_, ?_⟩
  · rw [hid_cons_in ha]
    exact g2
  · rw [hid_cons_in ha]
    exact hv
/-- what x.m(..) is to be evaluated as -/
abbrev MthAs (X : Cx) (o : Expr) (m : Str) (apos pos : Pos) (es : List Expr) (pl : Sem Bool) : Prop :=
  eval (.Call (.Attribute o m apos) es [] pos) X.env = eval o X.env >>= fun ov => standAt apos.atName >>= fun _ => holding [ov] (getMethod ov m pl) >>= fun p =>
    callWith pos p.1 p.2 (backTo pos (starEach es X.env)) (backToKw pos (keywordEach [] X.env))
/-- x.m(), which only reads -/
theorem pd_meth0 (i : Nat) {fr : Fs → List PyData → PyData → Prop} {pl : Sem Bool} (G : RdOk X.prog X.w X.K X.mg X.base k C m fr) (hr : Room k X.A) (Cl : Cls X.K C) (hm : (a, Od.ins C (imF fs)) ∈ ω.os) (hf : fr fs [] d) (hl : fs.lookup m = none) (hd : δ[i]? = some (some (.ad a)) := by rfl) (hN : X.N[i]? = some x := by rfl)
    (hv : Vis X.env.scope x := by first | exact Or.inl rfl | exact Or.inr (Or.inl rfl) | exact Or.inr (Or.inr rfl)) (h1 : (x == ("__debug__" : Str)) = false := by decide) (h2 : (x == ("__classdict__" : Str)) = false := by decide)
    (ht : MthAs X (.Name x p1) m apos pos [] pl := by rfl) : PD X δ ω (.Call (.Attribute (.Name x p1) m apos) [] [] pos) d := fun σ H rl Q q => by
  obtain ⟨g, fd, ps, F, M, b⟩ := G.ex
  obtain ⟨v, e1, e2⟩ := rl.sl i _ hd
  have e2 : v = .ref a := e2
  subst e2
  obtain ⟨dx, us, g1, g2⟩ := rl_ins rl hm
  have ha : a ∈ ads ω := List.mem_append_right _ (List.mem_map.mpr ⟨_, hm, rfl⟩)
  refine we (pe_meth0 (pl := pl) (pe_var hN hv h1 h2) Cl M F hr b .nil passN ht) ⟨_, e1, a, dx, us, rfl, g1, fv_none g2 hl, ?_⟩
  refine ⟨ads ω, a, fs, [], d, min_of rl hm .nil, hf, fun v H' s' dv => q v H' s' ?_⟩
  rw [hid_cons_in ha] at dv
  exact dv
/-- x.m(..) as a statement: x is written, or something is raised -/
theorem sd_meth (i : Nat) {r : Rs} {fr : Fs → List PyData → Rs → Fs → Prop} {pl : Sem Bool} {spos : Pos} (G : WrOk X.prog X.w X.K X.mg X.base k C m fr) (hr : Room k X.A) (tk : L2N.Takes X W) (Cl : Cls X.K C) (ha : PDs X δ (omD ω a (.ins C (imF fs))) (e :: es) ds) (hf : fr fs ds r fs') (hl : fs.lookup m = none)
    (h3 : ∀ d, r = .ok d → SD X W T ss δ (omD ω a (.ins C (imF fs'))) R) (h4 : ∀ Z, r = .er Z → R (.ex Z (omD ω a (.ins C (imF fs'))))) (hd : δ[i]? = some (some (.ad a)) := by rfl) (hN : X.N[i]? = some x := by rfl)
    (hv : Vis X.env.scope x := by first | exact Or.inl rfl | exact Or.inr (Or.inl rfl) | exact Or.inr (Or.inr rfl)) (h1 : (x == ("__debug__" : Str)) = false := by decide) (h2 : (x == ("__classdict__" : Str)) = false := by decide)
    (hst : starEach (e :: es) X.env = (false, eval e X.env) :: starEach es X.env := by rfl) (hpl : (backTo pos (starEach es X.env)).any (·.1) = false := by rfl)
    (ht : MthAs X (.Name x p1) m apos pos (e :: es) pl := by rfl)
    (hs : swapsWith (.Call (.Attribute (.Name x p1) m apos) (e :: es) [] pos) none spos.line X.env = pure false := by rfl) : SD X W T (.Expr (.Call (.Attribute (.Name x p1) m apos) (e :: es) [] pos) spos :: ss) δ (omD ω a (.ins C (imF fs))) R :=
  sd_cons fun σ H D rl t kt => by
    obtain ⟨g, fd, ps, F, M, b⟩ := G.ex
    obtain ⟨v, e1, e2⟩ := rl.sl i _ hd
    have e2 : v = .ref a := e2
    subst e2
    obtain ⟨dx, us, g1, g2⟩ := rl_ins rl List.mem_cons_self
    refine ws (ps_expr (pe_meth (pl := pl) (E := fun cls d H' => ∀ σ, W cls d σ H') (pe_var hN hv h1 h2) Cl M F hr b .nil (L2N.passes_call tk fun cls d σ H h => h σ) pa_w hst hpl ht) hs) ⟨_, e1, a, dx, us, rfl, g1, fv_none g2 hl, ha σ H rl _ fun vs H1 s1 d1 => ?_⟩
    rw [List.append_nil]
    have rl1 := rl.mono s1
    have am : a ∈ ads (omD ω a (.ins C (imF fs))) := ads_omD.mpr (.inl rfl)
    obtain ⟨dx1, us1, k1, k2⟩ := rl_ins rl1 List.mem_cons_self
    refine ⟨ads (omD ω a (.ins C (imF fs))), a, fs, ds, r, fs', min_of rl1 List.mem_cons_self d1, hf, fun H' dx2 us2 kept l1 l2 => ?_⟩
    rw [hid_cons_in am] at l2
    have hs2 : hid (ads (omD ω a (.ins C (imF fs)))) H' = hid (ads (omD ω a (.ins C (imF fs')))) H' := rfl
    obtain ⟨st, l3⟩ := own_step2 (T := T) (o' := .ins C (imF fs')) rl1 k1 (fun _ z => by cases z) (fun _ _ z => by unfold LamX.CodeO at z; cases z) kept ⟨dx2, us2, l1, of_fv l2⟩
    cases r with
    | ok d => exact fun v _ => kt.nx δ _ σ H' (h3 d rfl) ((Stp.of s1).trans st) l3
    | er Z => exact fun σ2 => kt.ex Z _ σ2 H' (h4 Z rfl) ((Stp.of s1).trans st) l3.ro
/-- x.m() as a statement -/
theorem sd_methN (i : Nat) {r : Rs} {fr : Fs → List PyData → Rs → Fs → Prop} {pl : Sem Bool} {spos : Pos} (G : WrOk X.prog X.w X.K X.mg X.base k C m fr) (hr : Room k X.A) (tk : L2N.Takes X W) (Cl : Cls X.K C) (hf : fr fs [] r fs') (hl : fs.lookup m = none)
    (h3 : ∀ d, r = .ok d → SD X W T ss δ (omD ω a (.ins C (imF fs'))) R) (h4 : ∀ Z, r = .er Z → R (.ex Z (omD ω a (.ins C (imF fs'))))) (hd : δ[i]? = some (some (.ad a)) := by rfl) (hN : X.N[i]? = some x := by rfl)
    (hv : Vis X.env.scope x := by first | exact Or.inl rfl | exact Or.inr (Or.inl rfl) | exact Or.inr (Or.inr rfl)) (h1 : (x == ("__debug__" : Str)) = false := by decide) (h2 : (x == ("__classdict__" : Str)) = false := by decide)
    (ht : MthAs X (.Name x p1) m apos pos [] pl := by rfl)
    (hs : swapsWith (.Call (.Attribute (.Name x p1) m apos) [] [] pos) none spos.line X.env = pure false := by rfl) : SD X W T (.Expr (.Call (.Attribute (.Name x p1) m apos) [] [] pos) spos :: ss) δ (omD ω a (.ins C (imF fs))) R :=
  sd_cons fun σ H D rl t kt => by
    obtain ⟨g, fd, ps, F, M, b⟩ := G.ex
    obtain ⟨v, e1, e2⟩ := rl.sl i _ hd
    have e2 : v = .ref a := e2
    subst e2
    obtain ⟨dx, us, g1, g2⟩ := rl_ins rl List.mem_cons_self
    have am : a ∈ ads (omD ω a (.ins C (imF fs))) := ads_omD.mpr (.inl rfl)
    refine ws (ps_expr (pe_meth0 (pl := pl) (E := fun cls d H' => ∀ σ, W cls d σ H') (pe_var hN hv h1 h2) Cl M F hr b .nil (L2N.passes_call tk fun cls d σ H h => h σ) ht) hs) ⟨_, e1, a, dx, us, rfl, g1, fv_none g2 hl, ?_⟩
    refine ⟨ads (omD ω a (.ins C (imF fs))), a, fs, [], r, fs', min_of rl List.mem_cons_self .nil, hf, fun H' dx2 us2 kept l1 l2 => ?_⟩
    rw [hid_cons_in am] at l2
    obtain ⟨st, l3⟩ := own_step2 (T := T) (o' := .ins C (imF fs')) rl g1 (fun _ z => by cases z) (fun _ _ z => by unfold LamX.CodeO at z; cases z) kept ⟨dx2, us2, l1, of_fv l2⟩
    cases r with
    | ok d => exact fun v _ => kt.nx δ _ σ H' (h3 d rfl) st l3
    | er Z => exact fun σ2 => kt.ex Z _ σ2 H' (h4 Z rfl) st l3.ro
/-- y = C(..): a new object -/
theorem sd_make (i : Nat) {y cn : Str} {g : Addr} {fd : FuncData} {ps : List Str} {fr : Fs → List PyData → Rs → Fs → Prop} {py spos : Pos} (M : Mk X.K C g) (F : FnOk X.prog X.w X.K X.mg X.base (L2N.CX X.prog X.w) k g fd ps (spW X.K C fr)) (hb : L2.Binds X.K fd ps []) (hr : Room (k + 1) X.A) (hmC : X.mg cn = some (.ref C))
    (ha : PDs X δ ω (e :: es) ds) (hf : fr [] ds (.ok .none) fs') (hk : ∀ D, SD X W T ss (δ.set i (some (.ad D))) (omD ω D (.ins C (imF fs'))) R) (hN : X.N.Nodup) (hi : X.N[i]? = some y := by rfl) (hx : Loc X.env.scope y := by first | exact Or.inl rfl | exact Or.inr rfl)
    (hg : Gl X cn := by rfl) (hdb : (cn == ("__debug__" : Str)) = false := by decide) (he : starEach (e :: es) X.env = (false, eval e X.env) :: starEach es X.env := by rfl) (hpl : (backTo pos (starEach es X.env)).any (·.1) = false := by rfl)
    (hs : swapsWith (.Call (.Name cn p) (e :: es) [] pos) (some (.Name y py)) spos.line X.env = pure false := by rfl) (hfn : X.fn y = true ∨ X.env.scope.names.lookup y = some .local := by first | exact .inl rfl | exact .inr rfl | assumption) :
    SD X W T (.Assign [.Name y py] (.Call (.Name cn p) (e :: es) [] pos) spos :: ss) δ ω R :=
  sd_cons fun σ H D rl t kt => by
    refine ws (ps_set hN hi hx (pe_make M F hr hg hmC hb .nil passN pa_w hdb he hpl) hs hfn) (ha σ H rl _ fun vs H1 s1 d1 z dx nz ndx ne => ?_)
    rw [List.append_nil]
    have rl1 := rl.mono s1
    have sm : Same H1 (upd (upd H1 dx (.own z)) z (.ins C dx [])) := fun b o h => by
      rw [upd_ne (ne_of_none h nz), upd_ne (ne_of_none h ndx)]
      exact h
    have nin : z ∉ ads ω := new_out rl1.ro.there nz
    refine ⟨ads ω, z, [], ds, .ok .none, fs', ⟨dx, [], vs, rfl, there_mono rl1.ro.there sm, upd_same, .nil, ?_⟩, hf, fun H' dx2 us2 kept l1 l2 v dv => ?_⟩
    · exact dpam (hid_new nz sm) d1
    · cases dv
      refine ⟨rfl, ?_⟩
      have kept1 : Same H1 H' := fun b o h => kept b o (ne_of_none h nz) (sm b o h)
      have l4 : Rl X.K H' σ δ (omD ω z (.ins C (imF fs'))) := by
        refine ⟨rl1.len, fun j r h => ?_, fun b o h => ?_, ?_, there_mono rl1.ro.th kept1⟩
        · obtain ⟨v, q1, q2⟩ := rl1.sl j r h
          exact ⟨v, q1, sdv_mono (hid_in nz kept1) q2⟩
        · rcases List.mem_cons.mp h with q | q
          · cases q
            exact ⟨dx2, us2, l1, of_fv (fv_mono (hid_more fun b hb => List.mem_cons.mpr (ads_omD.mp hb)) l2)⟩
          · exact odv_mono (hid_in nz kept1) kept1 (rl1.ro.ob b o q)
        · show (z :: ω.os.map (·.1)).Nodup
          exact List.nodup_cons.mpr ⟨fun q => nin (List.mem_append_right _ q), rl1.ro.nd⟩
      refine kt.nx _ _ _ H' (hk z) ((Stp.of s1).trans ⟨fun b o h _ _ => kept1 b o h, fun b h => ?_, rfl, fun t => t.ext kept1⟩) (l4.set (x := .ad z) (v := .ref z) rfl)
      rcases List.mem_cons.mp (show b ∈ z :: ω.os.map (·.1) from h) with q | q
      · exact .inr fun o ho => by
          rw [q, nz] at ho
          cases ho
      · exact .inl q
end
end FP

namespace FP
open PySem PySem.Spec PyProof.Rows L2
/-! ### what the module's top left, as data -/
mutual
def kdIs (K : PySem.W.Frag) : PyData → Value → Bool
  | .none, .none => true
  | .bool b, .bool c => decide (b = c)
  | .int i, .int j _ => decide (i = j)
  | .str x, .str y _ => decide (x = y)
  | .tuple ds, .ref a => match K.lookup a with
    | some ⟨.type c, _, .seq its _, _⟩ => decide (c = "tuple") && (decide (its.size ≤ sizeLine) && kdAll K ds its.toList)
    | _ => false
  | _, _ => false
def kdAll (K : PySem.W.Frag) : List PyData → List Value → Bool
  | [], [] => true
  | d :: ds, u :: us => kdIs K d u && kdAll K ds us
  | _, _ => false
end
mutual
theorem kdIs_ok {K : PySem.W.Frag} : ∀ {d : PyData} {u : Value}, kdIs K d u = true → ∃ v, RelV v u ∧ ∀ H, Dp K H v d
  | .none, .none, _ => ⟨.non, rfl, fun _ => .non⟩
  | .bool b, .bool c, h => by
    have e := of_decide_eq_true (show decide (b = c) = true from by unfold kdIs at h; exact h)
    subst e
    exact ⟨.bl b, rfl, fun _ => .bl b⟩
  | .int i, .int j t, h => by
    have e := of_decide_eq_true (show decide (i = j) = true from by unfold kdIs at h; exact h)
    subst e
    exact ⟨.int i, ⟨t, rfl⟩, fun _ => .int i⟩
  | .str x, .str y t, h => by
    have e := of_decide_eq_true (show decide (x = y) = true from by unfold kdIs at h; exact h)
    subst e
    exact ⟨.str x, ⟨t, rfl⟩, fun _ => .str x⟩
  | .tuple ds, .ref a, h => by
    unfold kdIs at h
    cases q : K.lookup a with
    | none =>
      rw [q] at h
      cases h
    | some o =>
      obtain ⟨oc, od, dt, osl⟩ := o
      rw [q] at h
      cases oc with
      | type c =>
        cases dt with
        | seq its n =>
          obtain ⟨h1, h2⟩ := He.ba (show (decide (c = "tuple") && (decide (its.size ≤ sizeLine) && kdAll K ds its.toList)) = true from h)
          obtain ⟨h3, h4⟩ := He.ba h2
          obtain ⟨vs, g1, g2⟩ := kdAll_ok h4
          exact ⟨.ref a, rfl, fun H => .tup (.inr ⟨_, its, n, q, congrArg Value.type (of_decide_eq_true h1), rfl, of_decide_eq_true h3, g1⟩) (g2 H)⟩
        | _ => cases h
      | _ => cases dt <;> cases h
theorem kdAll_ok {K : PySem.W.Frag} : ∀ {ds : List PyData} {us : List Value}, kdAll K ds us = true → ∃ vs, Vals vs us ∧ ∀ H, DpAll K H vs ds
  | [], [], _ => ⟨[], .nil, fun _ => .nil⟩
  | d :: ds, u :: us, h => by
    unfold kdAll at h
    obtain ⟨h1, h2⟩ := He.ba h
    obtain ⟨v, a1, a2⟩ := kdIs_ok h1
    obtain ⟨vs, b1, b2⟩ := kdAll_ok h2
    exact ⟨v :: vs, .cons a1 b1, fun H => .cons (a2 H) (b2 H)⟩
  | [], _ :: _, h => by
    unfold kdAll at h
    cases h
  | _ :: _, [], h => by
    unfold kdAll at h
    cases h
end
/-- the module's name x is this -/
def gldB (K : PySem.W.Frag) (x : Str) (d : PyData) : Bool := match PySem.W.nsIn K mainGlobals x with
  | some (some u) => kdIs K d u
  | _ => false
theorem gldB_ok {K : PySem.W.Frag} {mg : Str → Option Value} {h : Heap} (KX : K.In h) (G : h.Ns mainGlobals mg) {x : Str} {d : PyData} (c : gldB K x d = true) : GlD K mg x d := by
  unfold gldB at c
  cases e : PySem.W.nsIn K mainGlobals x with
  | none =>
    rw [e] at c
    cases c
  | some o =>
    rw [e] at c
    cases o with
    | none => cases c
    | some u =>
      obtain ⟨v, h1, h2⟩ := kdIs_ok c
      exact ⟨v, u, PySem.W.mg_of KX G e, h1, h2⟩
/-- the dict at a has this at z -/
def kvB (K : PySem.W.Frag) (a : Addr) (z : Str) (d : PyData) : Bool := match PySem.W.nsIn K a z with
  | some (some u) => kdIs K d u
  | _ => false
theorem kvB_ok {K : PySem.W.Frag} {a : Addr} {z : Str} {d : PyData} (c : kvB K a z d = true) : ∃ u v, PySem.W.nsIn K a z = some (some u) ∧ RelV v u ∧ ∀ H, Dp K H v d := by
  unfold kvB at c
  cases e : PySem.W.nsIn K a z with
  | none =>
    rw [e] at c
    cases c
  | some o =>
    rw [e] at c
    cases o with
    | none => cases c
    | some u =>
      obtain ⟨v, h1, h2⟩ := kdIs_ok c
      exact ⟨u, v, rfl, h1, h2⟩
def noB (K : PySem.W.Frag) (a : Addr) (z : Str) : Bool := decide (PySem.W.nsIn K a z = some none)
end FP

namespace FP
open PySem PySem.Spec PyProof.Rows L2
/-- a dict of the module -/
structure KTab (w : World) (K : PySem.W.Frag) (mg : Str → Option Value) (n : Str) (A : Addr) : Prop where
  ex : ∃ es c, KDict K w A es c
  mg : mg n = some (.ref A)
section
variable {X : Cx} {W : WX} {T : List (Addr × Str)} {δ : De} {ω : Om} {a b e : Expr} {es : List Expr} {d da db : PyData} {ds : List PyData} {pos p p2 : Pos} {k : Bool} {R : Out → Prop} {ss : List Stmt} {n : Str} {A : Addr} {z : Str}
theorem pd_inKD {r : Option Value} (G : KTab X.w X.K X.mg n A) (ha : PD X δ ω a (.str z)) (hz : PySem.W.nsIn X.K A z = some r) (hk : r.isSome = k) (hg : Gl X n := by rfl) (hd : (n == ("__debug__" : Str)) = false := by decide) (hm : behindInMarks .In (.Name n p2) = false := by rfl) : PD X δ ω (.Compare a [.In] [.Name n p2] pos) (.bool k) := fun σ H rl Q q => by
  obtain ⟨es, c, D⟩ := G.ex
  refine we (pe_cmpR (op_in_kd D) pe_w (pe_glob (v := .ref A) hg G.mg rfl hd) hm) (ha σ H rl _ fun v H1 s1 d1 => ?_)
  cases d1
  refine ⟨z, r, rfl, rfl, hz, ?_⟩
  rw [hk]
  exact q _ H1 s1 (.bl _)
theorem pd_ixKD {u : Value} {v : V} (G : KTab X.w X.K X.mg n A) (hb : PD X δ ω b (.str z)) (hz : PySem.W.nsIn X.K A z = some (some u)) (hv : RelV v u) (hd : ∀ H, Dp X.K H v d) (hg : Gl X n := by rfl) (hdb : (n == ("__debug__" : Str)) = false := by decide) (hs : PlainIx b := by exact fun _ _ => rfl) : PD X δ ω (.Subscript (.Name n p2) b pos) d := fun σ H rl Q q => by
  obtain ⟨es, c, D⟩ := G.ex
  refine we (pe_ix ix_kdict (pe_glob (v := .ref A) hg G.mg rfl hdb) pe_w hs) (hb σ H rl _ fun y H1 s1 d1 => ?_)
  cases d1
  exact ⟨A, z, v, rfl, rfl, ⟨es, c, u, D.at_, D.lit, hz, hv⟩, q v H1 s1 (hd _)⟩
theorem inV_str : ∀ {ys : List Str}, inV (.str z) (ys.map V.str) = ys.any (· == z)
  | [] => rfl
  | y :: ys => by
    show (eqV (.str y) (.str z) || inV (.str z) (ys.map V.str)) = ((y == z) || ys.any (· == z))
    rw [inV_str (ys := ys)]
    rfl
theorem rd_inT {K : PySem.W.Frag} {ys : List Str} : RD K (rIn K false) (.str z) (.tuple (ys.map .str)) (.bool (ys.any (· == z))) := fun ps x y H _ hx hy Q q => by
  cases hx
  cases hy with
  | tup h1 h2 =>
    have ev := dpa_strs h2
    subst ev
    refine ⟨_, _, rfl, .inr (same_sqt hid_sub h1), rfl, ?_, ?_⟩
    · rw [List.all_map]
      exact List.all_eq_true.mpr fun _ _ => rfl
    · have e : (if false = true then !inV (V.str z) (ys.map V.str) else inV (V.str z) (ys.map V.str)) = ys.any (· == z) := inV_str
      rw [e]
      exact q _ H (Same.refl H) (.bl _)
theorem pd_inT {ys : List Str} (ha : PD X δ ω a (.str z)) (hb : PD X δ ω b (.tuple (ys.map .str))) (hm : behindInMarks .In b = false := by rfl) : PD X δ ω (.Compare a [.In] [b] pos) (.bool (ys.any (· == z))) := pd_cmp op_in_seq rd_inT ha hb hm
/-- x, y = a, b: two locals -/
theorem sd_par (i j : Nat) {x y : Str} {px py pt pt2 : Pos} {kt k2 : Nat} (hc : X.calm = true) (hN : X.N.Nodup) (ha : PDs X δ ω [a, b] [da, db]) (hk : SD X W T ss ((δ.set i (some (.im da))).set j (some (.im db))) ω R)
    (hw : swappedStores [.Tuple [.Name x px, .Name y py] kt pt] (.Tuple [a, b] k2 pt2) X.env = pure (some [x, y])) (hij : i ≠ j := by decide) (hi : X.N[i]? = some x := by rfl) (hj : X.N[j]? = some y := by rfl) (hx : X.env.scope.names.lookup x = some .local := by rfl) (hy : X.env.scope.names.lookup y = some .local := by rfl)
    (hs : swapsWithSole [.Tuple [.Name x px, .Name y py] kt pt] (.Tuple [a, b] k2 pt2) pos.line X.env = pure false := by rfl) : SD X W T (.Assign [.Tuple [.Name x px, .Name y py] kt pt] (.Tuple [a, b] k2 pt2) pos :: ss) δ ω R :=
  sd_cons fun σ H D rl t k => ws (ps_par hc hN hi hj hij hx hy pa_w hw hs) (ha σ H rl _ fun vs H1 s1 d1 => by
    cases d1 with
    | cons b1 b2 =>
      cases b2 with
      | cons b3 b4 =>
        cases b4
        exact ⟨_, _, rfl, k.nx _ ω _ H1 hk (.of s1) (((rl.mono s1).set (x := .im da) b1).set (x := .im db) b3)⟩)
end
/-! ### [e for a, (b, c) in zip(xs, ys)] -/
theorem wipe_put {σ : L2.St} {v : Nat} {x : Option V} : ∀ r : List Nat, (wipe (σ.set v x) r).set v none = (wipe σ r).set v none
  | [] => by
    show (σ.set v x).set v none = σ.set v none
    rw [List.set_set]
  | u :: r => by
    show ((wipe (σ.set v x) r).set u none).set v none = ((wipe σ r).set u none).set v none
    by_cases e : u = v
    · subst e
      rw [List.set_set, List.set_set, wipe_put r]
    · rw [List.set_comm _ _ e, wipe_put r, List.set_comm _ _ (Ne.symm e)]
theorem wipe_mem {σ : L2.St} {v : Nat} {x : Option V} : ∀ {r : List Nat}, v ∈ r → wipe (σ.set v x) r = wipe σ r
  | u :: r, h => by
    show (wipe (σ.set v x) r).set u none = (wipe σ r).set u none
    by_cases e : u = v
    · subst e
      exact wipe_put r
    · rw [wipe_mem ((List.mem_cons.mp h).resolve_left (fun z => e z.symm))]
theorem wipe_wipe {σ : L2.St} {vs : List Nat} : ∀ {r : List Nat}, (∀ v ∈ r, v ∈ vs) → wipe (wipe σ r) vs = wipe σ vs
  | [], _ => rfl
  | u :: r, h => by
    show wipe ((wipe σ r).set u none) vs = wipe σ vs
    rw [wipe_mem (h u List.mem_cons_self), wipe_wipe fun v hv => h v (List.mem_cons_of_mem _ hv)]
def wipeD (δ : De) : List Nat → De
  | [] => δ
  | v :: vs => (wipeD δ vs).set v none
theorem rl_wipe {K : PySem.W.Frag} {H : Hp} {σ : L2.St} {δ : De} {ω : Om} (rl : Rl K H σ δ ω) : ∀ vs : List Nat, Rl K H (wipe σ vs) (wipeD δ vs) ω
  | [] => rl
  | v :: vs => (rl_wipe rl vs).forget
abbrev gZ (K : PySem.W.Frag) (j1 j2 j3 : Nat) : TG := gTup K 2 (gCons (gName j1) (gCons (gTup K 2 (gCons (gName j2) (gCons (gName j3) gNil))) gNil))
section
variable {X : Cx} {δ : De} {ω : Om} {a b elt : Expr} {pos p : Pos} {xs ys zs : List PyData}
theorem pn_lcz {scope : Scope} {n1 n2 n3 : Str} {j1 j2 j3 : Nat} {es : List Expr} {kk : Nat} {tp zp : Pos} (ls : List (PyData × PyData)) (hc : X.calm = true) (hN : X.N.Nodup) (hm : X.mg "zip" = none) (ha : PD X δ ω a (.tuple xs)) (hb : PD X δ ω b (.tuple (ls.map fun q => .tuple [q.1, q.2]))) (hl : xs.length = ls.length) (hlz : zs.length = xs.length) (hz : xs.length ≤ 1000)
    (ok : BlkOk X.N X.env.scope scope [(n1, j1), (n2, j2), (n3, j3)]) (hg : ∀ (s : Shared) (H : Hp) (C : Addr) (cl : List (Str × Addr)) (fp : List Addr), PG (X.blk s H scope (compEnvC scope cl C X.env) fp) (.Tuple es kk tp) (gZ X.K j1 j2 j3))
    (he : ∀ (i : Nat) (x l m z : PyData), xs[i]? = some x → ls[i]? = some (l, m) → zs[i]? = some z → ∀ D o (s : Shared) (H : Hp) (C : Addr) (cl : List (Str × Addr)) (fp : List Addr), PD (X.blk s H scope (compEnvC scope cl C X.env) fp) (((wipeD δ [j1, j2, j3]).set j1 (some (.im x))).set j2 (some (.im l)) |>.set j3 (some (.im m))) (omD ω D o) elt z)
    (hgz : Gl X "zip" := by rfl) (hs1 : starEach [a, b] X.env = (false, eval a X.env) :: starEach [b] X.env := by rfl) (hs2 : starEach [b] X.env = (false, eval b X.env) :: starEach [] X.env := by rfl) (hpl : (backTo zp (starEach [b] X.env)).any (·.1) = false := by rfl)
    (hs : ∀ x, foldedSetIterable (.Call (.Name "zip" p) [a, b] [] zp) X.env x = pure x := by intro _; rfl) : PN X δ ω (.ListComp elt [⟨.Tuple es kk tp, .Call (.Name "zip" p) [a, b] [] zp, [], 0⟩] scope pos) zs := fun σ H rl Q k => by
  refine we (pe_lc (own := [(n1, j1), (n2, j2), (n3, j3)]) hc hN (RZ.pi_zipA hgz hm (pa_cons pe_w (pa_cons pe_w pa_nil hs2) hs1) hs1 hpl) ok hg (fun _ _ _ _ _ => pts_nil) (fun s H0 C cl fp => pe_blk s H0 C cl fp) hs) ?_
  refine ha σ H rl _ fun va H0 s0 da => hb σ H0 (rl.mono s0) _ fun vb H1 s1 db => ?_
  have da1 := dpm (hid_same s1) da
  have rl1 := rl.mono (s0.trans s1)
  cases da1 with
  | tup a1 a2 =>
    cases db with
    | tup b1 b2 =>
      rename_i qa va qb vb
      have la := dpa_len a2
      have lb : vb.length = ls.length := by rw [dpa_len b2, List.length_map]
      refine ⟨qa, qb, va, vb, rfl, .inr ⟨same_sqt hid_sub a1, same_sqt hid_sub b1, fun D hD => ?_⟩⟩
      refine ⟨fun i m H2 => m = xs.length - i ∧ i ≤ xs.length ∧ Same H1 H2 ∧ ∃ vs, H2 D = some (.lst vs) ∧ DpAll X.K (hid (ads (omD ω D (.lst ((zs.take i).map .im)))) H2) vs (zs.take i), ⟨xs.length, by omega, Nat.zero_le _, same_new hD, [], upd_same, by rw [List.take_zero]; exact .nil⟩, ?_⟩
      rintro i m H2 ⟨em, hi, s2, vs, hv, dv⟩
      have sa := same_sqt s2 (same_sqt hid_sub a1)
      have sb := same_sqt s2 (same_sqt hid_sub b1)
      by_cases hlt : i < xs.length
      · have ex : xs[i]? = some xs[i] := List.getElem?_eq_getElem hlt
        have el : ls[i]? = some ls[i] := List.getElem?_eq_getElem (by omega)
        have ez : zs[i]? = some zs[i] := List.getElem?_eq_getElem (by omega)
        obtain ⟨u, eu, du⟩ := dpa_get a2 ex
        obtain ⟨w, ew, dw⟩ := dpa_get b2 (show (ls.map fun q => PyData.tuple [q.1, q.2])[i]? = some (.tuple [ls[i].1, ls[i].2]) by rw [List.getElem?_map, el]; rfl)
        refine .inr ⟨⟨va, vb, u, w, sa, sb, eu, ew⟩, fun H3 => Same H1 H3 ∧ ∃ vs, H3 D = some (.lst vs) ∧ DpAll X.K (hid (ads (omD ω D (.lst ((zs.take (i + 1)).map .im)))) H3) vs (zs.take (i + 1)), fun H3 ⟨s3, h3⟩ => ⟨xs.length - (i + 1), by omega, rfl, hlt, s3, h3⟩, fun x H3 hy => ?_⟩
        obtain ⟨Tt, u', w', rfl, hT, rfl, q1, q2⟩ := hy
        have eu' := (q1 va sa).symm.trans eu
        have ew' := (q2 vb sb).symm.trans ew
        cases eu'
        cases ew'
        cases dw with
        | tup c1 c2 =>
          cases c2 with
          | cons c3 c4 =>
            cases c4 with
            | cons c5 c6 =>
              cases c6
              rename_i qw w1 w2
              have st : Same H2 (upd H2 Tt (.tup [u, .ref qw])) := same_new hT
              refine ⟨Tt, [u, .ref qw], rfl, SqT.of upd_same, rfl, ?_⟩
              refine ⟨u, _, rfl, ?_⟩
              refine ⟨.ref qw, [], rfl, ?_⟩
              refine ⟨qw, [w1, w2], rfl, same_sqt st (same_sqt s2 (same_sqt hid_sub c1)), rfl, ?_⟩
              refine ⟨w1, _, rfl, ?_⟩
              refine ⟨w2, [], rfl, ?_⟩
              refine ⟨rfl, rfl, ?_⟩
              refine ⟨?_, ?_⟩
              · rw [wipe_mem (by simp), wipe_mem (by simp), wipe_mem (by simp), wipe_wipe (fun v h => h)]
              · have rl3 := rl1.omD hD s2 hv dv
                have rl4 := rl_wipe (rl3.mono st) [j1, j2, j3]
                have up := (hid_in (ω := ω) (o := .lst ((zs.take i).map .im)) hD s2)
                have up2 : Same (hid (ads ω) H1) (hid (ads (omD ω D (.lst ((zs.take i).map .im)))) (upd H2 Tt (.tup [u, .ref qw]))) := up.trans (hid_same st)
                have rl5 := ((rl4.set (i := j1) (x := .im xs[i]) (v := u) (dpm up2 du)).set (i := j2) (x := .im ls[i].1) (v := w1) (dpm up2 c3)).set (i := j3) (x := .im ls[i].2) (v := w2) (dpm up2 c5)
                intro s H0 C cl fp
                refine he i xs[i] ls[i].1 ls[i].2 zs[i] ex el ez D _ s H0 C cl fp _ _ rl5 _ fun v H4 s4 d4 => ⟨vs, (st.trans s4) D _ hv, ?_, same_upd_new hD (s2.trans (st.trans s4)), vs ++ [v], upd_same, ?_⟩
                · rw [dpa_len dv, List.length_take]
                  refine Nat.lt_of_le_of_lt (Nat.min_le_left _ _) (Nat.lt_of_lt_of_le hlt (Nat.le_trans hz ?_))
                  rw [sizeLine_eq]
                  decide
                · rw [List.take_add_one, ez]
                  exact dpa_app (dpam hid_upd (dpam (hid_same (st.trans s4)) dv)) (.cons (dpm hid_upd d4) .nil)
      · have e : i = xs.length := by omega
        subst e
        refine .inl ⟨⟨va, vb, sa, sb, .inl (by omega)⟩, ?_⟩
        rw [List.take_of_length_le (by omega)] at dv
        exact k D vs H2 ((s0.trans s1).trans s2) ((s0.trans s1).free hD) hv (dpam (hid_more fun b h => ads_omD.mpr (List.mem_cons.mp h)) dv)
end
end FP

namespace FP
open PySem PySem.Spec PyProof.Rows L2
section
variable {X : Cx} {W : WX} {T : List (Addr × Str)} {δ : De} {ω : Om} {e tg iter b : Expr} {d : PyData} {ds : List PyData} {pos p p1 : Pos} {R : Out → Prop} {ss : List Stmt} {x : Str}
/-- x = [elt for tg in iter], a list of one's own -/
theorem sd_ownLc (i : Nat) {py cpos : Pos} {elt : Expr} {scope : Scope} {y : Str} {j : Nat} {items ys : List PyData} (hc : X.calm = true) (hN : X.N.Nodup) (hw : PWs X δ ω tg iter items) (hl : ys.length = items.length) (ok : BlkOk X.N X.env.scope scope [(y, j)])
    (hg : ∀ (s : Shared) (H : Hp) (C : Addr) (cl : List (Str × Addr)) (fp : List Addr), PG (X.blk s H scope (compEnvC scope cl C X.env) fp) tg (gName j))
    (he : ∀ (i : Nat) (d y : PyData), items[i]? = some d → ys[i]? = some y → ∀ D o (s : Shared) (H : Hp) (C : Addr) (cl : List (Str × Addr)) (fp : List Addr), PD (X.blk s H scope (compEnvC scope cl C X.env) fp) (δ.set j (some (.im d))) (omD ω D o) elt y)
    (hz : items.length ≤ 10000) (hsw : swapsWith (.ListComp elt [⟨tg, iter, [], 0⟩] scope cpos) (some (.Name x py)) pos.line X.env = pure true) (hk : ∀ D, SD X W T ss (δ.set i (some (.ad D))) (omD ω D (.lst (ys.map .im))) R)
    (hy : X.N[i]? = some x := by rfl) (hyl : X.env.scope.names.lookup x = some .local := by rfl) (hs : ∀ x, foldedSetIterable iter X.env x = pure x := by intro _; rfl) : SD X W T (.Assign [.Name x py] (.ListComp elt [⟨tg, iter, [], 0⟩] scope cpos) pos :: ss) δ ω R := by
  obtain ⟨wi, h1, h2⟩ := hw
  refine sd_cons fun σ H D rl t k => ws (ps_setLc (i := i) (own := [(y, j)]) hc hN hy hyl hsw h1 ok hg (fun _ _ _ _ _ => pts_nil) (fun s H0 C cl fp => pe_blk s H0 C cl fp) hs) ?_
  refine lc_data rl (fun R kk => h2 σ H rl R kk) hl hz (fun i d y hd hy D o σ' H' rl' Q' k' s H0 C cl fp => he i d y hd hy D o s H0 C cl fp σ' H' rl' Q' k') (fun q vs H' s n hv dv => ?_)
  have rl2 : Rl X.K H' σ δ (omD ω q (.lst (ys.map .im))) := rl.omD n s hv (dpam (hid_more fun b h => List.mem_cons.mpr (ads_omD.mp h)) dv)
  refine k.nx _ _ _ H' (hk q) ⟨fun b o h _ _ => s b o h, fun a h => ?_, rfl, fun t => t.ext s⟩ (rl2.set (x := .ad q) (v := .ref q) rfl)
  rcases List.mem_cons.mp (show a ∈ q :: ω.os.map (·.1) from h) with z | z
  · exact .inr fun o ho => by
      rw [z, n] at ho
      cases ho
  · exact .inl z
/-- a list of one's own is from now on data -/
theorem sd_give (i : Nat) {D : Addr} {xs : List PyData} (hps : ω.ps = []) (hd : δ[i]? = some (some (.ad D))) (h : SD X W T ss (δ.set i (some (.im (.list xs)))) ω R) : SD X W T ss δ (omD ω D (.lst (xs.map .im))) R := fun σ H Dd rl t k => by
  obtain ⟨v, e1, e2⟩ := rl.sl i _ hd
  have e2 : v = .ref D := e2
  subst e2
  obtain ⟨vs, g1, g2⟩ := rl.ro.ob D _ List.mem_cons_self
  have nd : (D :: ω.os.map (·.1)).Nodup := rl.ro.nd
  have nin : D ∉ ads ω := fun z => by
    rcases List.mem_append.mp z with q | q
    · rw [hps] at q
      cases q
    · exact (List.nodup_cons.mp nd).1 q
  have l2 : Rl X.K H σ δ ω := ⟨rl.len, fun j r hj => by
      obtain ⟨u, a1, a2⟩ := rl.sl j r hj
      exact ⟨u, a1, sdv_mono hid_omD a2⟩, fun z o hz => odv_mono hid_omD (Same.refl H) (rl.ro.ob z o (List.mem_cons_of_mem _ hz)), (List.nodup_cons.mp nd).2, rl.ro.th⟩
  have l3 := l2.set (i := i) (x := .im (.list xs)) (v := .ref D) (.lst (SqL.of (hid_of nin g1)) (dpam hid_omD (dpa_im g2)))
  have es : σ.set i (some (.ref D)) = σ := by
    obtain ⟨hlt, ev⟩ := List.getElem?_eq_some_iff.mp e1
    rw [← ev]
    exact List.set_getElem_self hlt
  rw [es] at l3
  exact h σ H Dd l3 t (k.step ⟨fun b o e _ _ => e, fun a ha => .inl (List.mem_cons_of_mem _ ha), rfl, fun t => t⟩)
/-- x[b] = e, x the list of one's own that was made last -/
theorem sd_setix (i : Nat) {D : Addr} {xs : List PyData} {j : Nat} {sp : Pos} (he : PD X δ (omD ω D (.lst (xs.map .im))) e d) (hb : PD X δ (omD ω D (.lst (xs.map .im))) b (.int (j : Int))) (hj : j < xs.length) (hk : SD X W T ss δ (omD ω D (.lst ((xs.set j d).map .im))) R)
    (hd : δ[i]? = some (some (.ad D)) := by rfl) (hN : X.N[i]? = some x := by rfl) (hv : Vis X.env.scope x := by first | exact Or.inl rfl | exact Or.inr (Or.inl rfl) | exact Or.inr (Or.inr rfl)) (h1 : (x == ("__debug__" : Str)) = false := by decide) (h2 : (x == ("__classdict__" : Str)) = false := by decide)
    (ha : ∀ v, assign (.Subscript (.Name x p1) b sp) X.env v = (do
      let ov ← holding [v] (eval (.Name x p1) X.env)
      let iv ← holding [v, ov] (eval b X.env)
      standAt sp
      holding [v, ov, iv] (setItem ov iv v)
      release [v, ov, iv] []) := by intro _; rfl)
    (hs : swapsWithSole [.Subscript (.Name x p1) b sp] e pos.line X.env = pure false := by rfl) (hw : swappedStores [.Subscript (.Name x p1) b sp] e X.env = pure none := by rfl) (h3 : (assignEach [.Subscript (.Name x p1) b sp] X.env).map (·.2) = [assign (.Subscript (.Name x p1) b sp) X.env] := by rfl) :
    SD X W T (.Assign [.Subscript (.Name x p1) b sp] e pos :: ss) δ (omD ω D (.lst (xs.map .im))) R :=
  sd_cons fun σ H Dd rl t k => ws (ps_asg pe_w (pg_sub (pe_var hN hv h1 h2) pe_w set_list ha) hs hw h3) (he σ H rl _ fun y H1 s1 d1 => by
    have rl1 := rl.mono s1
    obtain ⟨v, e1, e2⟩ := rl1.sl i _ hd
    have e2 : v = .ref D := e2
    subst e2
    refine ⟨_, e1, hb σ H1 rl1 _ fun iv H2 s2 d2 => ?_⟩
    cases d2
    have rl2 := rl1.mono s2
    obtain ⟨vs, g1, g2⟩ := rl2.ro.ob D _ List.mem_cons_self
    have lv : vs.length = xs.length := dpa_len (dpa_im g2)
    have dset : ∀ {H : Hp} {y : V} {d : PyData}, Dp X.K H y d → ∀ {xs : List PyData} {vs : List V} (j : Nat), DpAll X.K H vs xs → DpAll X.K H (vs.set j y) (xs.set j d) := by
      intro H y d hd xs
      induction xs with
      | nil =>
        intro vs j h
        cases h
        exact .nil
      | cons x xs ih =>
        intro vs j h
        cases h with
        | cons a b =>
          cases j with
          | zero => exact .cons hd b
          | succ j => exact .cons a (ih j b)
    refine ⟨D, vs, (j : Int), j, rfl, rfl, g1, ?_, ?_⟩
    · unfold ixN
      rw [lv, if_pos (Int.natCast_nonneg j), if_pos (show (j : Int) < (xs.length : Int) by omega), Int.toNat_natCast]
    · obtain ⟨st, l3⟩ := own_step (T := T) (o' := .lst ((xs.set j d).map .im)) (u := .lst (vs.set j y)) rl2 g1 (fun _ z => by cases z) (fun _ _ z => by unfold LamX.CodeO at z; cases z) ⟨_, upd_same, im_dpa (dset (dpm hid_upd (dpm (hid_same s2) d1)) j (dpam hid_upd (dpa_im g2)))⟩
      exact k.nx δ _ σ _ hk ((Stp.of (s1.trans s2)).trans st) l3)
end
end FP

namespace FP
open PySem PySem.Spec PyProof.Rows L2
def rCatQ (K : PySem.W.Frag) : R2 := fun x y H Q => ∃ l b xs zs, x = .ref l ∧ y = .ref b ∧ SqL K H l xs ∧ SqL K H b zs ∧ xs.length + zs.length ≤ sizeLine ∧ ∀ p, H p = none → Q (.ref p) (upd H p (.lst (xs ++ zs)))
theorem op_catQ {X : Cx} : OpR X (binaryOp .Add) (rCatQ X.K) := by
  intro pins s σ H x y v u Q I rx ry h
  obtain ⟨l, b, xs, zs, rfl, rfl, hl, hb, hz, q⟩ := h
  cases rx
  cases ry
  obtain ⟨is1, r1, p1, _⟩ := I.list hl
  obtain ⟨is2, r2, p2, _⟩ := I.list hb
  obtain ⟨⟨c1, dd1, da1, sl1⟩, g1, e1, n1, f1⟩ := p1.isList
  obtain ⟨⟨c2, dd2, da2, sl2⟩, g2, e2, n2, f2⟩ := p2.isList
  simp only at e1 f1 e2 f2
  subst e1 f1 e2 f2
  have le : is1.length + is2.length ≤ sizeLine := by rw [← r1.length, ← r2.length]; exact hz
  have ea : is1.toArray ++ is2.toArray = (is1 ++ is2).toArray := by simp
  refine concat_meets ⟨_, g1, rfl⟩ ⟨_, g2, rfl⟩ noFill_list_add seq_list_add PySem.F.slot_list_add PySem.F.entry_list_add (PySem.F.args_list_add_2 _ _) (list_addW l b is1.toArray is2.toArray n1 n2 dd1 dd2 sl1 sl2 (by simpa using le)) ⟨g1, g2, ?_⟩
  rw [ea]
  exact ⟨.ref _, _, I.lnew (t' := s.toks) (r1.append r2) (by rw [List.length_append]; exact hz), rfl, q _ I.fresh⟩
/-- a + b, lists -/
theorem pn_catL {X : Cx} {δ : De} {ω : Om} {a b : Expr} {ds dt : List PyData} {pos : Pos} (ha : PL X δ ω a ds) (hb : PL X δ ω b dt) (hz : ds.length + dt.length ≤ 10000) : PN X δ ω (.BinOp a .Add b pos) (ds ++ dt) := fun σ H rl Q k =>
  we (pe_op op_catQ pe_w pe_w) (ha σ H rl _ fun q vs H1 s1 h1 d1 => hb σ H1 (rl.mono s1) _ fun r us H2 s2 h2 d2 =>
    ⟨q, r, vs, us, rfl, rfl, s2.seq h1, h2, by rw [dpa_len d1, dpa_len d2, sizeLine_eq]; omega, fun p hp => k p _ _ ((s1.trans s2).trans (same_new hp)) ((s1.trans s2).free hp) upd_same (dpam (hid_new hp (same_new hp)) (dpa_app (dpam (hid_same s2) d1) d2))⟩)
end FP

namespace FP
open PySem PySem.Spec PyProof.Rows L2 HotX L2H
/-! ### own objects by their place -/
def putO (ω : Om) (j : Nat) (p : Addr × Od) : Om := ⟨ω.ps, ω.os.set j p⟩
theorem map_put {os : List (Addr × Od)} {j : Nat} {D : Addr} {o o' : Od} (h : os[j]? = some (D, o)) : (os.set j (D, o')).map (·.1) = os.map (·.1) := by
  rw [List.map_set]
  obtain ⟨hl, e⟩ := List.getElem?_eq_some_iff.mp h
  have e2 : (os.map (·.1))[j]'(by rw [List.length_map]; exact hl) = D := by
    rw [List.getElem_map, e]
  show (os.map (·.1)).set j D = os.map (·.1)
  rw [← e2, List.set_getElem_self]
theorem osA_put {ω : Om} {j : Nat} {D : Addr} {o o' : Od} (h : ω.os[j]? = some (D, o)) : osA (putO ω j (D, o')) = osA ω := map_put h
theorem ads_put {ω : Om} {j : Nat} {D : Addr} {o o' : Od} (h : ω.os[j]? = some (D, o)) : ads (putO ω j (D, o')) = ads ω := by
  show ω.ps ++ (ω.os.set j (D, o')).map (·.1) = ω.ps ++ ω.os.map (·.1)
  rw [map_put h]
/-- an object of one's own was written -/
theorem own_at {T : List (Addr × Str)} {K : PySem.W.Frag} {H H' : Hp} {σ : L2.St} {δ : De} {ω : Om} {D : Addr} {o o' : Od} {u0 : HO} {j : Nat} (rl : Rl K H σ δ ω) (ho : ω.os[j]? = some (D, o)) (e0 : H D = some u0) (nt : ∀ ps, u0 ≠ .tbl ps) (nc : ∀ c q, u0 ≠ LamX.CodeO c q)
    (kept : ∀ b x, b ≠ D → H b = some x → H' b = some x) (new : OdV K (hid (ads ω) H') H' D o') : Stp T ω (putO ω j (D, o')) H H' ∧ Rl K H' σ δ (putO ω j (D, o')) := by
  have am : D ∈ osA ω := List.mem_map.mpr ⟨_, List.mem_of_getElem? ho, rfl⟩
  have aw : ads (putO ω j (D, o')) = ads ω := ads_put ho
  have hh : Same (hid (ads ω) H) (hid (ads ω) H') := fun b x h => by
    obtain ⟨n, e⟩ := hid_out h
    exact hid_of n (kept b x (fun z => n (by rw [z]; exact List.mem_append_right _ am)) e)
  refine ⟨⟨fun b x h n _ => kept b x (fun z => n (by rw [z]; exact am)) h, fun a h => .inl (by rw [osA_put ho] at h; exact h), rfl, fun t => ?_⟩, ⟨rl.len, fun i r h => ?_, fun z x h => ?_, ?_, fun z h hz => ?_⟩⟩
  · intro q hq
    obtain ⟨ps, a1, a2, a3⟩ := t q hq
    refine ⟨ps, kept _ _ (fun z => nt ps (by rw [z, e0] at a1; exact Option.some.inj a1)) a1, a2, fun p' cv hc => ?_⟩
    obtain ⟨c0, b1, b2⟩ := a3 p' cv hc
    exact ⟨c0, b1, kept _ _ (fun z => nc _ _ (by rw [z, e0] at b2; exact Option.some.inj b2)) b2⟩
  · obtain ⟨v, h1, h2⟩ := rl.sl i r h
    rw [aw]
    exact ⟨v, h1, sdv_mono hh h2⟩
  · rw [aw]
    obtain ⟨i, hi⟩ := List.mem_iff_getElem?.mp h
    replace hi : (ω.os.set j (D, o'))[i]? = some (z, x) := hi
    by_cases e : j = i
    · subst e
      rw [List.getElem?_set_self (List.getElem?_eq_some_iff.mp ho).1] at hi
      cases hi
      exact new
    · rw [List.getElem?_set_ne e] at hi
      have na : z ≠ D := fun zz => by
        subst zz
        refine e ((List.getElem?_inj (l := ω.os.map (·.1)) (by rw [List.length_map]; exact (List.getElem?_eq_some_iff.mp ho).1) rl.ro.nd).mp ?_)
        rw [List.getElem?_map, List.getElem?_map, ho, hi]
        rfl
      have g := rl.ro.ob z x (List.mem_of_getElem? hi)
      exact odv_keep (fun w => sdv_mono hh w) (fun u _ g1 => kept _ _ na g1) g
  · show (osA (putO ω j (D, o'))).Nodup
    rw [osA_put ho]
    exact rl.ro.nd
  · have hn := rl.ro.th z h
    by_cases za : z = D
    · have g := odv_some new
      rw [za] at hz
      exact g hz
    · cases e : H z with
      | none => exact hn e
      | some u =>
        rw [kept z u za e] at hz
        cases hz
/-! ### expressions that may write -/
def YE (X : Cx) (T : List (Addr × Str)) (δ : De) (ω : Om) (e : Expr) (d : PyData) (ω' : Om) : Prop := ∀ σ H, Rl X.K H σ δ ω → LamX.Tabs T H → ∀ Q : VK, (∀ v H', Stp T ω ω' H H' → Rl X.K H' σ δ ω' → Dp X.K (hid (ads ω') H') v d → Q v H') → wpe X e σ H Q
def YT (X : Cx) (T : List (Addr × Str)) (δ : De) (ω : Om) (e : Expr) (k : Bool) (ω' : Om) : Prop := ∀ σ H, Rl X.K H σ δ ω → LamX.Tabs T H → ∀ Q : Bool → Hp → Prop, (∀ H', Stp T ω ω' H H' → Rl X.K H' σ δ ω' → Q k H') → wpt X e σ H Q
def YW (X : Cx) (T : List (Addr × Str)) (δ : De) (ω : Om) (e : Expr) (k : Bool) (ω' : Om) : Prop := ∀ σ H, Rl X.K H σ δ ω → LamX.Tabs T H → ∀ Q : Bool → Hp → Prop, (∀ H', Stp T ω ω' H H' → Rl X.K H' σ δ ω' → Q k H') → wpw X e σ H Q
def YQ (X : Cx) (W : WX) (T : List (Addr × Str)) (δ : De) (ω ω' : Om) (σ : L2.St) (H : Hp) (Q : VK) : Rs → Prop
  | .ok d => ∀ v H', Stp T ω ω' H H' → Rl X.K H' σ δ ω' → Dp X.K (hid (ads ω') H') v d → Q v H'
  | .er C => ∀ H', Stp T ω ω' H H' → Rl X.K H' σ δ ω' → W (.ref C) none σ H'
def YR (X : Cx) (W : WX) (T : List (Addr × Str)) (δ : De) (ω : Om) (e : Expr) (r : Rs) (ω' : Om) : Prop := ∀ σ H, Rl X.K H σ δ ω → LamX.Tabs T H → ∀ Q : VK,
  YQ X W T δ ω ω' σ H Q r → wpe X e σ H Q
section
variable {X : Cx} {W : WX} {T : List (Addr × Str)} {δ : De} {ω ω1 ω2 : Om} {a b c e : Expr} {es r : List Expr} {d da db dz : PyData} {ds : List PyData} {pos p : Pos} {k x y : Bool} {R : Out → Prop} {ss sa sb : List Stmt}
theorem YE.eq (h : YE X T δ ω e d ω1) (q : d = dz) : YE X T δ ω e dz ω1 := q ▸ h
theorem PD.ye (h : PD X δ ω e d) : YE X T δ ω e d ω := fun σ H rl t Q q => h σ H rl Q fun v H' s dv => q v H' (.of s) (rl.mono s) dv
theorem PX.ye (h : PX X T δ ω e d) : YE X T δ ω e d ω := h
theorem PTd.x2 (h : PTd X δ ω e k) : YT X T δ ω e k ω := fun σ H rl t Q q => h σ H rl Q fun H' s => q H' (.of s) (rl.mono s)
theorem YW.yt (h : YW X T δ ω e k ω1) : YT X T δ ω e k ω1 := fun σ H rl t Q q => wt (PW.pt pw_w) (h σ H rl t Q q)
theorem YE.yr (h : YE X T δ ω e d ω1) : YR X W T δ ω e (.ok d) ω1 := h
theorem PR.yr {rr : Rs} (h : PR X W δ ω e rr) : YR X W T δ ω e rr ω := fun σ H rl t Q q => h σ H rl Q (by
  cases rr with
  | ok d => exact fun v H' s dv => q v H' (.of s) (rl.mono s) dv
  | er C => exact fun H' s => q H' (.of s) (rl.mono s))
theorem t2_cmp {op : CmpOp} {r : R2} (ho : OpR X (compareOp op) r) (hr : RD X.K r da db (.bool k)) (ha : YE X T δ ω a da ω1) (hb : YE X T δ ω1 b db ω2) (hm : behindInMarks op b = false) : YT X T δ ω (.Compare a [op] [b] pos) k ω2 := fun σ H rl t Q q =>
  wt (pt_cmpR ho pe_w pe_w hm) (ha σ H rl t _ fun x H1 s1 l1 d1 => hb σ H1 l1 (s1.tab t) _ fun y H2 s2 l2 d2 =>
    hr _ x y H2 l2.ro.there (dp_ke s2.seen da x d1) d2 _ fun z H3 s3 d3 => by
      cases d3
      exact ⟨_, rfl, q H3 ((s1.trans s2).trans (.of s3)) (l2.mono s3)⟩)
theorem t2_not (h : YT X T δ ω e k ω1) : YT X T δ ω (.UnaryOp .Not e pos) (!k) ω1 := fun σ H rl t Q q => wt (pt_not pt_w) (h σ H rl t _ fun H1 s1 l1 => q H1 s1 l1)
theorem w2_or1 (h : YT X T δ ω a k ω1) : YW X T δ ω (.BoolOp .Or [a] pos) k ω1 := fun σ H rl t Q q => ww (pw_or1 pt_w) (h σ H rl t Q q)
theorem w2_and1 (h : YT X T δ ω a k ω1) : YW X T δ ω (.BoolOp .And [a] pos) k ω1 := fun σ H rl t Q q => ww (pw_and1 pt_w) (h σ H rl t Q q)
theorem w2_orF (h : YT X T δ ω a false ω1) (h2 : YW X T δ ω1 (.BoolOp .Or (b :: r) pos) y ω2) : YW X T δ ω (.BoolOp .Or (a :: b :: r) pos) y ω2 := fun σ H rl t Q q =>
  ww (pw_or pt_w pw_w) (h σ H rl t _ fun H1 s1 l1 => iteF (h2 σ H1 l1 (s1.tab t) Q fun H2 s2 l2 => q H2 (s1.trans s2) l2))
theorem w2_orT (h : YT X T δ ω a true ω1) : YW X T δ ω (.BoolOp .Or (a :: b :: r) pos) true ω1 := fun σ H rl t Q q =>
  ww (pw_or pt_w pw_w) (h σ H rl t _ fun H1 s1 l1 => iteT (q H1 s1 l1))
theorem w2_andT (h : YT X T δ ω a true ω1) (h2 : YW X T δ ω1 (.BoolOp .And (b :: r) pos) y ω2) : YW X T δ ω (.BoolOp .And (a :: b :: r) pos) y ω2 := fun σ H rl t Q q =>
  ww (pw_and pt_w pw_w) (h σ H rl t _ fun H1 s1 l1 => iteT (h2 σ H1 l1 (s1.tab t) Q fun H2 s2 l2 => q H2 (s1.trans s2) l2))
theorem w2_andF (h : YT X T δ ω a false ω1) : YW X T δ ω (.BoolOp .And (a :: b :: r) pos) false ω1 := fun σ H rl t Q q =>
  ww (pw_and pt_w pw_w) (h σ H rl t _ fun H1 s1 l1 => iteF (q H1 s1 l1))
/-! statements -/
theorem sd_x (he : YE X T δ ω e d ω1) (hk : SD X W T ss δ ω1 R) (hs : swapsWith e none pos.line X.env = pure false := by rfl) : SD X W T (.Expr e pos :: ss) δ ω R :=
  sd_cons fun σ H D rl t k => ws (ps_expr pe_w hs) (he σ H rl t _ fun v H' s l dv => k.nx δ ω1 σ H' hk s l)
theorem sd_set2 (i : Nat) {x : Str} {pos' : Pos} (he : YE X T δ ω e d ω1) (hk : SD X W T ss (δ.set i (some (.im d))) ω1 R) (hN : X.N.Nodup) (hi : X.N[i]? = some x := by rfl) (hx : Loc X.env.scope x := by first | exact Or.inl rfl | exact Or.inr rfl) (hs : swapsWith e (some (.Name x pos')) pos.line X.env = pure false := by rfl)
    (hf : X.fn x = true ∨ X.env.scope.names.lookup x = some .local := by first | exact .inl rfl | exact .inr rfl | assumption) : SD X W T (.Assign [.Name x pos'] e pos :: ss) δ ω R :=
  sd_cons (s1_set i (fun σ H rl t Q q _ => he σ H rl t Q fun v H' s l dv => q (.im d) ω1 v H' hk s l dv) hN hi hx hs hf)
theorem sd_if2 {kk : Bool} (h : YT X T δ ω c kk ω1) (h1 : kk = true → SD X W T sa δ ω1 (Nxt X W T ss R)) (h2 : kk = false → SD X W T sb δ ω1 (Nxt X W T ss R)) : SD X W T (.If c sa sb pos :: ss) δ ω R :=
  sd_cons fun σ H D rl t k => ws (ps_if pt_w pss_w pss_w) (h σ H rl t _ fun H' s l => by
    cases kk with
    | true => exact iteT (h1 rfl σ H' D l (s.tab t) (k.step s))
    | false => exact iteF (h2 rfl σ H' D l (s.tab t) (k.step s)))
theorem sd_ifF2 (h : YT X T δ ω c false ω1) (h2 : SD X W T ss δ ω1 R) : SD X W T (.If c sa [] pos :: ss) δ ω R := sd_if2 h (fun z => by cases z) fun _ => sd_nil h2
theorem sd_ret2 (he : YE X T δ ω e d ω1) (hR : R (.rt (.im d) ω1)) : SD X W T (.Return (some e) pos :: ss) δ ω R :=
  sd_cons fun σ H D rl t k => ws (ps_ret pe_w) (he σ H rl t _ fun v H' s l dv => k.rt _ ω1 v H' hR s l.ro dv)
end
/-! ### methods -/
section
variable {X : Cx} {CX : CXT} {k : Nat} {f C : Addr} {fd : FuncData} {ps : List Str} {sp : Sp} {E : L2.St → XK} {x m : Str} {p pos apos : Pos} {e o : Expr} {es : List Expr} {ta : TE} {t : TA}
def tMethS (C : Addr) (m : Str) (sp : Sp) (E : L2.St → XK) (ta : TE) (t : TA) : TE := fun σ H Q => ta σ H fun v H1 => ∃ a dx fs, v = .ref a ∧ H1 a = some (.ins C dx fs) ∧ fs.lookup m = none ∧ t σ H1 fun vs H2 => sp (.ref a :: vs) H2 Q (E σ)
/-- the method found, its call is left -/
theorem mth_found {pl : Sem Bool} {pins : List (Addr × Obj)} {s : Shared} {σ : L2.St} {H : Hp} {P : Addr → Hp → Prop} {Q : Value → Shared → Prop} (I : Inv X pins σ H s) (he : PE X o ta) (c : Cls X.K C) (hm : Meth X.K C m f) (ht : MthAs X o m apos pos es pl)
    (h : ta σ H fun v H1 => ∃ a dx fs, v = .ref a ∧ H1 a = some (.ins C dx fs) ∧ fs.lookup m = none ∧ P a H1)
    (k : ∀ a s1 H1, Inv X pins σ H1 s1 → P a H1 → wpAny (model X.prog X.w) X.A (callWith pos (.ref f) [.ref a] (backTo pos (starEach es X.env)) (backToKw pos (keywordEach [] X.env))) Q X.xe s1) :
    wpAny (model X.prog X.w) X.A (eval (.Call (.Attribute o m apos) es [] pos) X.env) Q X.xe s := by
  refine PySem.W.methodCall_KW (pl := pl) (thn (he.run pins s σ H _ I h) ?_) ht
  rintro v s1 ⟨_, H1, I1, r, a, dx, fs, rfl, at_, own, p⟩
  cases show v = Value.ref a from r
  exact getmeth_ok I1 at_ c hm own (k a s1 H1 I1 p)
theorem pe_mthS {pl : Sem Bool} (he : PE X o ta) (c : Cls X.K C) (hm : Meth X.K C m f) (F : FnOk X.prog X.w X.K X.mg X.base CX k f fd ps sp) (hr : Room k X.A) (hb : L2.Binds X.K fd ps []) (hx : ∀ σ, PassesAt CX X σ (E σ)) (ha : PA X (e :: es) t)
    (hst : starEach (e :: es) X.env = (false, eval e X.env) :: starEach es X.env := by rfl) (hpl : (backTo pos (starEach es X.env)).any (·.1) = false := by rfl) (ht : MthAs X o m apos pos (e :: es) pl := by rfl) :
    PE X (.Call (.Attribute o m apos) (e :: es) [] pos) (tMethS C m sp E ta t) :=
  ⟨fun pins s σ H Q I h => mth_found I he c hm ht h fun a s1 H1 I1 told =>
    PySem.W.callWith_K (first := [.ref a]) (h₀ := X.base) I1.ok.mod.kin hm.kp (thn (ha.run pos pins s1 σ H1 _ I1 told) fun us _ ⟨vs, _, I2, r, q⟩ => ⟨I2.kIn, run_fnS (us := .ref a :: us) (vs := .ref a :: vs) F hr hb (hx σ) I2 (.cons rfl r) q⟩) hst hpl⟩
theorem pe_mthS0 {pl : Sem Bool} (he : PE X o ta) (c : Cls X.K C) (hm : Meth X.K C m f) (F : FnOk X.prog X.w X.K X.mg X.base CX k f fd ps sp) (hr : Room k X.A) (hb : L2.Binds X.K fd ps []) (hx : ∀ σ, PassesAt CX X σ (E σ)) (ht : MthAs X o m apos pos [] pl := by rfl) :
    PE X (.Call (.Attribute o m apos) [] [] pos) (tMethS C m sp E ta tNil) :=
  ⟨fun _ _ σ _ _ I h => mth_found I he c hm ht h fun a _ _ I1 q => PySem.W.callWith_K0 (first := [.ref a]) I1.kIn hm.kp (run_fnS (us := [.ref a]) (vs := [.ref a]) F hr hb (hx σ) I1 (.cons rfl .nil) q)⟩
end
section
variable {X : Cx} {W : WX} {T : List (Addr × Str)} {δ : De} {ω : Om} {e : Expr} {es : List Expr} {d : PyData} {ds : List PyData} {pos p p1 apos : Pos} {R : Out → Prop} {ss : List Stmt} {a C : Addr} {fs fs' : Fs} {f x m : Str} {k : Nat}
theorem at_mem {os : List (Addr × Od)} {j : Nat} {q : Addr × Od} (h : os[j]? = some q) : q ∈ os := List.mem_of_getElem? h
theorem meth_end {H : Hp} {σ : L2.St} {vs : List V} {j : Nat} {r : Rs} {Q : VK} {fr : Fs → List PyData → Rs → Fs → Prop} (rl : Rl X.K H σ δ ω) (ho : ω.os[j]? = some (a, .ins C (imF fs))) (d1 : DpAll X.K (hid (ads ω) H) vs ds) (hf : fr fs ds r fs')
    (q : YQ X W T δ ω (putO ω j (a, .ins C (imF fs'))) σ H Q r) :
    spW X.K C fr (.ref a :: vs) H Q (WE W σ) := by
  have am : a ∈ ads ω := List.mem_append_right _ (List.mem_map.mpr ⟨_, at_mem ho, rfl⟩)
  obtain ⟨dx1, us1, k1, k2⟩ := rl_ins rl (at_mem ho)
  refine ⟨ads ω, a, fs, ds, r, fs', min_of rl (at_mem ho) d1, hf, fun H' dx2 us2 kept l1 l2 => ?_⟩
  rw [hid_cons_in am] at l2 ⊢
  obtain ⟨st, l3⟩ := own_at (T := T) (o' := .ins C (imF fs')) rl ho k1 (fun _ z => by cases z) (fun _ _ z => by unfold LamX.CodeO at z; cases z) kept ⟨dx2, us2, l1, of_fv l2⟩
  cases r with
  | ok d => exact fun v dv => q v H' st l3 (by rw [ads_put ho]; exact dv)
  | er Z => exact q H' st l3
/-- x.m(..) -/
theorem yr_meth (i j : Nat) {r : Rs} {fr : Fs → List PyData → Rs → Fs → Prop} {pl : Sem Bool} (G : WrOk X.prog X.w X.K X.mg X.base k C m fr) (hr : Room k X.A) (tk : L2N.Takes X W) (Cl : Cls X.K C) (ho : ω.os[j]? = some (a, .ins C (imF fs))) (ha : PDs X δ ω (e :: es) ds) (hf : fr fs ds r fs') (hl : fs.lookup m = none)
    (hd : δ[i]? = some (some (.ad a)) := by rfl) (hN : X.N[i]? = some x := by rfl)
    (hv : Vis X.env.scope x := by first | exact Or.inl rfl | exact Or.inr (Or.inl rfl) | exact Or.inr (Or.inr rfl)) (h1 : (x == ("__debug__" : Str)) = false := by decide) (h2 : (x == ("__classdict__" : Str)) = false := by decide)
    (hst : starEach (e :: es) X.env = (false, eval e X.env) :: starEach es X.env := by rfl) (hpl : (backTo pos (starEach es X.env)).any (·.1) = false := by rfl)
    (ht : MthAs X (.Name x p1) m apos pos (e :: es) pl := by rfl) : YR X W T δ ω (.Call (.Attribute (.Name x p1) m apos) (e :: es) [] pos) r (putO ω j (a, .ins C (imF fs'))) := fun σ H rl t Q q => by
  obtain ⟨g, fd, ps, F, M, b⟩ := G.ex
  obtain ⟨v, e1, e2⟩ := rl.sl i _ hd
  have e2 : v = .ref a := e2
  subst e2
  obtain ⟨dx, us, g1, g2⟩ := rl_ins rl (at_mem ho)
  refine we (pe_mthS (pl := pl) (E := WE W) (pe_var hN hv h1 h2) Cl M F hr b (fun σ => L2N.passAt tk σ) pa_w hst hpl ht) ⟨_, e1, a, dx, us, rfl, g1, fv_none g2 hl, ha σ H rl _ fun vs H1 s1 d1 => ?_⟩
  refine meth_end (T := T) (rl.mono s1) ho d1 hf ?_
  cases r with
  | ok d => exact fun v H' st l dv => q v H' ((Stp.of s1).trans st) l dv
  | er Z => exact fun H' st l => q H' ((Stp.of s1).trans st) l
theorem yr_meth0 (i j : Nat) {r : Rs} {fr : Fs → List PyData → Rs → Fs → Prop} {pl : Sem Bool} (G : WrOk X.prog X.w X.K X.mg X.base k C m fr) (hr : Room k X.A) (tk : L2N.Takes X W) (Cl : Cls X.K C) (ho : ω.os[j]? = some (a, .ins C (imF fs))) (hf : fr fs [] r fs') (hl : fs.lookup m = none)
    (hd : δ[i]? = some (some (.ad a)) := by rfl) (hN : X.N[i]? = some x := by rfl)
    (hv : Vis X.env.scope x := by first | exact Or.inl rfl | exact Or.inr (Or.inl rfl) | exact Or.inr (Or.inr rfl)) (h1 : (x == ("__debug__" : Str)) = false := by decide) (h2 : (x == ("__classdict__" : Str)) = false := by decide)
    (ht : MthAs X (.Name x p1) m apos pos [] pl := by rfl) : YR X W T δ ω (.Call (.Attribute (.Name x p1) m apos) [] [] pos) r (putO ω j (a, .ins C (imF fs'))) := fun σ H rl t Q q => by
  obtain ⟨g, fd, ps, F, M, b⟩ := G.ex
  obtain ⟨v, e1, e2⟩ := rl.sl i _ hd
  have e2 : v = .ref a := e2
  subst e2
  obtain ⟨dx, us, g1, g2⟩ := rl_ins rl (at_mem ho)
  refine we (pe_mthS0 (pl := pl) (E := WE W) (pe_var hN hv h1 h2) Cl M F hr b (fun σ => L2N.passAt tk σ) ht) ⟨_, e1, a, dx, us, rfl, g1, fv_none g2 hl, ?_⟩
  exact meth_end (T := T) rl ho .nil hf q
/-- where nothing is raised -/
theorem YR.ye {X : Cx} {T : List (Addr × Str)} {δ : De} {ω ω1 : Om} {e : Expr} {d : PyData} (h : YR X (fun _ _ _ _ => False) T δ ω e (.ok d) ω1) : YE X T δ ω e d ω1 := h
theorem sd_yr {rr : Rs} {ω1 : Om} (he : YR X W T δ ω e rr ω1) (h1 : ∀ d, rr = .ok d → SD X W T ss δ ω1 R) (h2 : ∀ Z, rr = .er Z → R (.ex Z ω1)) (hs : swapsWith e none pos.line X.env = pure false := by rfl) : SD X W T (.Expr e pos :: ss) δ ω R :=
  sd_cons fun σ H D rl t kt => ws (ps_expr pe_w hs) (he σ H rl t _ (by
    cases rr with
    | ok d => exact fun v H' s l dv => kt.nx δ ω1 σ H' (h1 d rfl) s l
    | er Z => exact fun H' s l => kt.ex Z ω1 σ H' (h2 Z rfl) s l.ro))
/-! ### new objects -/
/-- a new object -/
def NW (X : Cx) (T : List (Addr × Str)) (δ : De) (ω : Om) (e : Expr) (o : Od) : Prop := ∀ σ H, Rl X.K H σ δ ω → LamX.Tabs T H → ∀ Q : VK, (∀ D H', Stp T ω (omD ω D o) H H' → Rl X.K H' σ δ (omD ω D o) → Q (.ref D) H') → wpe X e σ H Q
theorem stp_new {H H' : Hp} {D : Addr} {o : Od} (s : Same H H') (n : H D = none) : Stp T ω (omD ω D o) H H' := ⟨fun b o h _ _ => s b o h, fun a h => by
  rcases List.mem_cons.mp (show a ∈ D :: ω.os.map (·.1) from h) with z | z
  · exact .inr fun o ho => by
      rw [z, n] at ho
      cases ho
  · exact .inl z, rfl, fun t => t.ext s⟩
theorem PN.nw (he : PN X δ ω e ds) : NW X T δ ω e (.lst (ds.map .im)) := fun σ H rl t Q k => he σ H rl _ fun q vs H' s n hv dv =>
  k q H' (stp_new s n) (rl.omD n s hv (dpam (hid_more fun b h => List.mem_cons.mpr (ads_omD.mp h)) dv))
theorem make_end {H1 : Hp} {σ : L2.St} {vs : List V} {fr : Fs → List PyData → Rs → Fs → Prop} {z dx : Addr} {Q : VK} (rl1 : Rl X.K H1 σ δ ω) (nz : H1 z = none) (ndx : H1 dx = none) (d1 : DpAll X.K (hid (ads ω) H1) vs ds) (hf : fr [] ds (.ok .none) fs')
    (q : ∀ H', Stp T ω (omD ω z (.ins C (imF fs'))) H1 H' → Rl X.K H' σ δ (omD ω z (.ins C (imF fs'))) → Q (.ref z) H') :
    spW X.K C fr (V.ref z :: vs) (upd (upd H1 dx (.own z)) z (.ins C dx [])) (fun v H2 => v = .non ∧ Q (.ref z) H2) E0 := by
  have sm : Same H1 (upd (upd H1 dx (.own z)) z (.ins C dx [])) := fun b o h => by
    rw [upd_ne (ne_of_none h nz), upd_ne (ne_of_none h ndx)]
    exact h
  have nin : z ∉ ads ω := new_out rl1.ro.there nz
  refine ⟨ads ω, z, [], ds, .ok .none, fs', ⟨dx, [], vs, rfl, there_mono rl1.ro.there sm, upd_same, .nil, ?_⟩, hf, fun H' dx2 us2 kept l1 l2 v dv => ?_⟩
  · exact dpam (hid_new nz sm) d1
  · cases dv
    refine ⟨rfl, ?_⟩
    have kept1 : Same H1 H' := fun b o h => kept b o (ne_of_none h nz) (sm b o h)
    have l4 : Rl X.K H' σ δ (omD ω z (.ins C (imF fs'))) := by
      refine ⟨rl1.len, fun j r h => ?_, fun b o h => ?_, ?_, there_mono rl1.ro.th kept1⟩
      · obtain ⟨v, q1, q2⟩ := rl1.sl j r h
        exact ⟨v, q1, sdv_mono (hid_in nz kept1) q2⟩
      · rcases List.mem_cons.mp h with q | q
        · cases q
          exact ⟨dx2, us2, l1, of_fv (fv_mono (hid_more fun b hb => List.mem_cons.mpr (ads_omD.mp hb)) l2)⟩
        · exact odv_mono (hid_in nz kept1) kept1 (rl1.ro.ob b o q)
      · show (z :: ω.os.map (·.1)).Nodup
        exact List.nodup_cons.mpr ⟨fun q => nin (List.mem_append_right _ q), rl1.ro.nd⟩
    exact q H' (stp_new kept1 nz) l4
/-- C(..) -/
theorem nw_make {cn : Str} {g : Addr} {fd : FuncData} {ps : List Str} {fr : Fs → List PyData → Rs → Fs → Prop} (M : Mk X.K C g) (F : FnOk X.prog X.w X.K X.mg X.base (L2N.CX X.prog X.w) k g fd ps (spW X.K C fr)) (hb : L2.Binds X.K fd ps []) (hr : Room (k + 1) X.A) (hmC : X.mg cn = some (.ref C))
    (ha : PDs X δ ω (e :: es) ds) (hf : fr [] ds (.ok .none) fs') (hg : Gl X cn := by rfl) (hdb : (cn == ("__debug__" : Str)) = false := by decide) (he : starEach (e :: es) X.env = (false, eval e X.env) :: starEach es X.env := by rfl) (hpl : (backTo pos (starEach es X.env)).any (·.1) = false := by rfl) :
    NW X T δ ω (.Call (.Name cn p) (e :: es) [] pos) (.ins C (imF fs')) := fun σ H rl t Q q =>
  we (pe_make M F hr hg hmC hb .nil passN pa_w hdb he hpl) (ha σ H rl _ fun vs H1 s1 d1 z dx nz ndx ne => by
    rw [List.append_nil]
    exact make_end (T := T) (rl.mono s1) nz ndx d1 hf fun H' st l => q z H' ((Stp.of s1).trans st) l)
theorem nw_make0 {cn : Str} {g : Addr} {fd : FuncData} {ps : List Str} {fr : Fs → List PyData → Rs → Fs → Prop} (M : Mk X.K C g) (F : FnOk X.prog X.w X.K X.mg X.base (L2N.CX X.prog X.w) k g fd ps (spW X.K C fr)) (hb : L2.Binds X.K fd ps []) (hr : Room (k + 1) X.A) (hmC : X.mg cn = some (.ref C))
    (hf : fr [] [] (.ok .none) fs') (hg : Gl X cn := by rfl) (hdb : (cn == ("__debug__" : Str)) = false := by decide) :
    NW X T δ ω (.Call (.Name cn p) [] [] pos) (.ins C (imF fs')) := fun σ H rl t Q q =>
  we (pe_make0 M F hr hg hmC hb .nil passN hdb) (fun z dx nz ndx ne => make_end (T := T) rl nz ndx .nil hf fun H' st l => q z H' st l)
/-- y = a new object -/
theorem sd_new (i : Nat) {y : Str} {o : Od} {py : Pos} (he : NW X T δ ω e o) (hk : ∀ D, SD X W T ss (δ.set i (some (.ad D))) (omD ω D o) R) (hN : X.N.Nodup) (hi : X.N[i]? = some y := by rfl) (hx : Loc X.env.scope y := by first | exact Or.inl rfl | exact Or.inr rfl)
    (hs : swapsWith e (some (.Name y py)) pos.line X.env = pure false := by rfl) (hf : X.fn y = true ∨ X.env.scope.names.lookup y = some .local := by first | exact .inl rfl | exact .inr rfl | assumption) : SD X W T (.Assign [.Name y py] e pos :: ss) δ ω R :=
  sd_cons fun σ H D rl t kt => ws (ps_set hN hi hx pe_w hs hf) (he σ H rl t _ fun z H' st l => kt.nx _ _ _ H' (hk z) st (l.set (x := .ad z) (v := .ref z) rfl))
/-! ### rows of values, some of them new objects -/
def AX (X : Cx) (T : List (Addr × Str)) (δ : De) (ω : Om) (es : List Expr) (R : List Sd → Om → Prop) : Prop := ∀ σ H, Rl X.K H σ δ ω → LamX.Tabs T H → ∀ Q : List V → Hp → Prop,
  (∀ rs ω' vs H', R rs ω' → Stp T ω ω' H H' → Rl X.K H' σ δ ω' → Paired (SdV X.K (hid (ads ω') H')) rs vs → Q vs H') → wpa X es σ H Q
theorem stp_sd {H H' : Hp} {ω1 ω2 : Om} {r : Sd} {v : V} (s : Stp T ω1 ω2 H H') (h : SdV X.K (hid (ads ω1) H) r v) : SdV X.K (hid (ads ω2) H') r v := by
  cases r with
  | im d => exact dp_ke s.seen d v h
  | ad a => exact h
theorem ax_nil {Z : List Sd → Om → Prop} (h : Z [] ω) : AX X T δ ω [] Z := fun σ H rl t Q k => wa pa_nil (k [] ω [] H h .refl rl .nil)
theorem ax_pd {Z : List Sd → Om → Prop} (he : PD X δ ω e d) (hr : AX X T δ ω es (fun rs ω' => Z (.im d :: rs) ω')) (hs : starEach (e :: es) X.env = (false, eval e X.env) :: starEach es X.env := by rfl) : AX X T δ ω (e :: es) Z := fun σ H rl t Q k =>
  wa (pa_cons pe_w pa_w hs) (he σ H rl _ fun v H1 s1 d1 => hr σ H1 (rl.mono s1) (t.ext s1) _ fun rs ω' vs H2 z st l pr => k _ ω' (v :: vs) H2 z ((Stp.of s1).trans st) l (.cons (stp_sd (X := X) (r := .im d) st d1) pr))
theorem ax_nw {Z : List Sd → Om → Prop} {o : Od} (he : NW X T δ ω e o) (hr : ∀ D, AX X T δ (omD ω D o) es (fun rs ω' => Z (.ad D :: rs) ω')) (hs : starEach (e :: es) X.env = (false, eval e X.env) :: starEach es X.env := by rfl) : AX X T δ ω (e :: es) Z := fun σ H rl t Q k =>
  wa (pa_cons pe_w pa_w hs) (he σ H rl t _ fun D H1 s1 l1 => hr D σ H1 l1 (s1.tab t) _ fun rs ω' vs H2 z st l pr => k _ ω' (.ref D :: vs) H2 z (s1.trans st) l (.cons (show V.ref D = V.ref D from rfl) pr))
/-- x, y = a, b -/
theorem sd_par2 (i j : Nat) {x y : Str} {px py pt pt2 : Pos} {kt k2 : Nat} {b : Expr} (hc : X.calm = true) (hN : X.N.Nodup) (ha : AX X T δ ω [e, b] (fun rs ω' => ∃ r1 r2, rs = [r1, r2] ∧ SD X W T ss ((δ.set i (some r1)).set j (some r2)) ω' R))
    (hw : swappedStores [.Tuple [.Name x px, .Name y py] kt pt] (.Tuple [e, b] k2 pt2) X.env = pure (some [x, y])) (hij : i ≠ j := by decide) (hi : X.N[i]? = some x := by rfl) (hj : X.N[j]? = some y := by rfl) (hx : X.env.scope.names.lookup x = some .local := by rfl) (hy : X.env.scope.names.lookup y = some .local := by rfl)
    (hs : swapsWithSole [.Tuple [.Name x px, .Name y py] kt pt] (.Tuple [e, b] k2 pt2) pos.line X.env = pure false := by rfl) : SD X W T (.Assign [.Tuple [.Name x px, .Name y py] kt pt] (.Tuple [e, b] k2 pt2) pos :: ss) δ ω R :=
  sd_cons fun σ H D rl t k => ws (ps_par hc hN hi hj hij hx hy pa_w hw hs) (ha σ H rl t _ fun rs ω' vs H1 z st l pr => by
    obtain ⟨r1, r2, rfl, z⟩ := z
    cases pr with
    | cons b1 b2 =>
      cases b2 with
      | cons b3 b4 =>
        cases b4
        exact ⟨_, _, rfl, k.nx _ ω' _ H1 z st ((l.set (x := r1) b1).set (x := r2) b3)⟩)
/-- x, y, .. = a, b, .. by way of a tuple -/
def setS : De → List Nat → List Sd → De
  | δ, i :: is, d :: ds => setS (δ.set i (some d)) is ds
  | δ, _, _ => δ
theorem gAll_sd {K : PySem.W.Frag} {H : Hp} {ω : Om} {Q : L2.St → Hp → Prop} : ∀ {is : List Nat} {rs : List Sd} {vs : List V} {σ : L2.St} {δ : De}, Rl K H σ δ ω → Paired (SdV K (hid (ads ω) H)) rs vs → is.length = rs.length → (∀ σ', Rl K H σ' (setS δ is rs) ω → Q σ' H) → gAll is vs σ H Q
  | [], [], _, σ, δ, rl, .nil, _, k => ⟨rfl, k σ rl⟩
  | i :: is, d :: ds, v :: vs, σ, δ, rl, .cons h1 h2, hl, k => ⟨v, vs, rfl, gAll_sd (rl.set (x := d) h1) h2 (Nat.succ.inj hl) k⟩
theorem paired_len {α β : Type} {R : α → β → Prop} : ∀ {xs : List α} {ys : List β}, Paired R xs ys → ys.length = xs.length
  | _, _, .nil => rfl
  | _, _, .cons _ r => by rw [List.length_cons, List.length_cons, paired_len r]
theorem paired_mono {K : PySem.W.Frag} {H H' : Hp} (e : Same H H') : ∀ {xs : List Sd} {ys : List V}, Paired (SdV K H) xs ys → Paired (SdV K H') xs ys
  | _, _, .nil => .nil
  | _, _, .cons h r => .cons (sdv_mono e h) (paired_mono e r)
theorem sd_unpX (is : List Nat) {ts : List Expr} {n kk k2 : Nat} {p' pt2 : Pos} (ha : AX X T δ ω es (fun rs ω' => rs.length = n ∧ SD X W T ss (setS δ is rs) ω' R)) (hg : PG X (.Tuple ts kk p') (gTup X.K n (gAll is))) (hi : is.length = n) (hn : n ≤ 1000 := by decide)
    (hs : swapsWithSole [.Tuple ts kk p'] (.Tuple es k2 pt2) pos.line X.env = pure false := by rfl) (hw : swappedStores [.Tuple ts kk p'] (.Tuple es k2 pt2) X.env = pure none := by rfl) : SD X W T (.Assign [.Tuple ts kk p'] (.Tuple es k2 pt2) pos :: ss) δ ω R :=
  sd_cons fun σ H D rl t k => ws (ps_asg (pe_tup pa_w) hg hs hw) (ha σ H rl t _ fun rs ω' vs H1 z st l pr => by
    obtain ⟨hl, z⟩ := z
    have lv := paired_len pr
    refine ⟨Nat.le_of_lt (small1000 (by omega)), fun q hq => ?_⟩
    have sm : Same H1 (upd H1 q (.tup vs)) := same_new hq
    exact ⟨q, vs, rfl, SqT.of upd_same, by omega, gAll_sd (l.mono sm) (paired_mono (hid_same sm) pr) (by omega) fun σ' l' => k.nx _ ω' σ' _ z (st.trans (.of sm)) l'⟩)
end
end FP

namespace FP
open PySem PySem.Spec PyProof.Rows L2 HotX L2H
section
variable {X : Cx} {T : List (Addr × Str)} {δ : De} {ω : Om} {d : PyData} {pos p : Pos} {k : Nat}
theorem ye_told {ω1 : Om} {x a e n wd : Str} {st : Stmt} {Ng : List Str} {CS : Addr} {fw : Addr → PyData → Prop} {r : Rs} {p1 p2 p3 p4 p5 p6 p7 p8 p9 p10 lpos : Pos} {params : Arguments} {body : Expr} {scope : Scope} (G : Told X.K X.mg x st) (L : LamT X T) (hT : T ≠ []) (hps : ω.ps = []) (hr : Room (k + 2) X.A)
    (WK : WordOk X.prog X.w X.K X.mg X.base (k + 1) wd fw)
    (hst : defBody st = [.Try [.Return (some (.Call (.Name a p1) [] [] p2)) p3] [.ExceptHandler (some (.Name e p4)) (some n) [.Return (some (.Call (.Name wd p5) [.Name n p6] [] p7)) p8] p9] [] [] p10]) (S : FnScope Ng [a] (defScope st)) (hNd : Ng.Nodup) (hNg : Ng[0]? = some a) (hva : Vis (defScope st) a)
    (hN1 : Ng[1]? = some n) (hkn : (defScope st).names.lookup n = some .local) (hge : (defScope st).names.lookup e = some .globalImplicit) (hgw : (defScope st).names.lookup wd = some .globalImplicit) (hme : X.mg e = some (.ref CS))
    (hbn : ∀ (kV doc pm : Value) (an : Option Addr) (cdv ct : Value) (us : List Value), us.length = [a].length → bindArgs (PySem.W.fnOf x x (defArgs st) (defBody st) (defScope st) .none kV doc pm an cdv ct) ⟨us, []⟩ = pure ([a].zip us))
    (hb : ∀ (A : Around) (outer : List Env) (s : Shared) (H : Hp) (E : XK) (f c' : Addr), Room k (A.deeper (LamX.lamEnv X scope s.heap.objs.size f c')) → YR (lamN X A outer s H E scope f c') (WOf E) T δ ω body r ω1)
    (hd : ToldD X.K CS fw d r) (hL : LamX.LamS X.env.scope scope) (hdef : defaultsOf params X.env = ([], []) := by rfl) (hbind : ∀ (q : Str) (cl : List (Str × Addr)) (pm cv ctv : Value), bindArgs (PySem.W.kla_fn "<lambda>" q params body scope cl pm cv ctv) ⟨[], []⟩ = pure [] := by intros; rfl)
    (hg : Gl X x := by rfl) (hdb : (x == ("__debug__" : Str)) = false := by decide) (hd1 : (a == ("__debug__" : Str)) = false := by decide) (hcd1 : (a == ("__classdict__" : Str)) = false := by decide) (hde : (e == ("__debug__" : Str)) = false := by decide) (hdw : (wd == ("__debug__" : Str)) = false := by decide)
    (hdn : (n == ("__debug__" : Str)) = false := by decide) (hcn : (n == ("__classdict__" : Str)) = false := by decide) : YE X T δ ω (.Call (.Name x p) [.Lambda params body scope lpos] [] pos) d ω1 := fun σ H rl tb Q q => by
  obtain ⟨g, fd, F, hm⟩ := G.ex
  obtain ⟨c, P, TB, hcode, hmT, hu⟩ := L.ex
  have hbs := FunD.bindsN (ps := [a]) F hbn
  have kp := F.kp
  obtain ⟨oc, od, dV, kV, doc, pm, an, cdv, ct, osl, rfl, lk, hcd, hD, hK⟩ := F.ex
  unfold wpe
  intro pins s I
  refine wpAny_Call_Name_kw (ld_glob I hg hm ?_ hdb)
  refine PySem.W.callWith_K (h₀ := X.base) I.ok.mod.kin kp ?_ (by rfl) (by rfl)
  show wpAny _ _ (spliced ((false, eval (.Lambda params body scope lpos) X.env) :: backTo pos (starEach [] X.env))) _ _ s
  refine Calls.spliced_cons (LamX.lam_make2 I TB hcode hmT hu tb hdef (hL.has I.ok) fun f c' pm' ctv H1 s' I1 eN T1 hf hfn hfr hco => Calls.spliced_nil ⟨I1.kIn, ?_⟩)
  have rl1 : Rl X.K H1 σ δ ω := rl_ext (T := T) eN hps rl
  have st0 : Stp T ω ω H H1 := ⟨fun b o h _ p => eN b o h (p.resolve_left hT), fun a h => .inl h, rfl, fun _ => T1⟩
  have done : ∀ v H2, Stp T ω ω1 H1 H2 → Rl X.K H2 σ δ ω1 → Dp X.K (hid (ads ω1) H2) v d → Q v H2 := fun v H2 s2 l2 d2 => q v H2 (st0.trans s2) l2 d2
  refine wpAny_call (codeAny_mono (R := CR C8.CX0 X.stack X.prog X.w H1 s' Q C8.E0) (LamX.run_ofS (N := Ng) (ps := [a]) (us := [.ref f]) (vs := [.ref f]) lk hcd S hr I1.env0 (hbs s' [.ref f] I1.kIn rfl) (.cons rfl .nil) rfl fun hr' => ?_) fun rr s2 z => ?_)
  · rw [hst]
    -- the def's own context
    have tryW := L2N.ps_try_as (X := (cxOf C8.CX0 X.prog X.w X.K X.mg X.base Ng x (defScope st) g cdv X.A X.stack s' H1 C8.E0).nox) (x := e) (n := n) (c := .ref CS) (i := 1) (np := p4) (pos := p10) (pos' := p9) (b₀ := .Return (some (.Call (.Name wd p5) [.Name n p6] [] p7)) p8) (suite := [])
      (body := [.Return (some (.Call (.Name a p1) [] [] p2)) p3]) (Wout := fun _ _ _ _ => False)
      (tb := fun W D τ G => τ[0]? = some (some (.ref f)) ∧ G c' = some (LamX.CodeO c' (X.env.qual ++ "<lambda>")) ∧ ∀ (A : Around) (outer : List Env) (t : Shared), Room k (A.deeper (LamX.lamEnv X scope t.heap.objs.size f c')) → wpe (lamN X A outer t G (WE W τ) scope f c') body σ G D.rt)
      (ts := fun b cls dd D τ G => ∃ C, cls = .ref C ∧ dd = none ∧ fw C d ∧ τ[1]? = some (some (.ref b)) ∧ (∀ a ∈ ads ω1, G a ≠ none) ∧ ∀ v G', Same G G' → Dp X.K (hid (ads ω1) G') v d → D.rt v G')
      rfl rfl hNd hN1 hkn ⟨hge, hde, .inl hme⟩ takesF
      (fun W pn xe tk _ => pss_one (ps_ret (pe_lamN (X := X) (Z := ((cxOf C8.CX0 X.prog X.w X.K X.mg X.base Ng x (defScope st) g cdv X.A X.stack s' H1 C8.E0).nox).tr pn xe) rfl rfl rfl rfl rfl rfl rfl rfl rfl I1 hL hf hfn hfr (hbind _ _ _ _ _) tk hr' hNg hva hd1 hcd1)))
      (fun b oe cls dd pn hz hfd => ⟨fun pins2 s2 τ G D J h => ?_⟩)
    · refine ⟨_, (pss_one tryW).nox, ?_⟩
      refine ⟨rfl, hco, fun A outer t hr2 => ?_⟩
      refine hb A outer t H1 _ f c' hr2 σ H1 rl1 T1 Q ?_
      cases r with
      | ok d' =>
        cases hd
        exact done
      | er C =>
        intro H2 s2 l2
        exact ⟨true, hd.2, fun _ b nb => ⟨C, rfl, rfl, hd.1, by
          rw [List.getElem?_set_self]
          unfold L2.start
          have := (List.getElem?_eq_some_iff.mp hN1).1
          simp
          omega, l2.ro.there, fun v G' s3 dv => done v G' (s2.trans (.of s3)) (l2.mono s3) dv⟩, fun z => by cases z⟩
    · obtain ⟨C, rfl, rfl, hfw, h1, h2, h3⟩ := h
      obtain ⟨vs, hv⟩ := hfd
      have pw := pe_word (X := ((cxOf C8.CX0 X.prog X.w X.K X.mg X.base Ng x (defScope st) g cdv X.A X.stack s' H1 C8.E0).nox).suite b ((b, oe) :: pn)) (q := (b, oe)) (i := 1) (p5 := p5) (p6 := p6) (p7 := p7) WK ⟨(roomH_of hr').dp, (roomH_of hr').un⟩ ⟨rfl, vs, hv, hz.2.2 vs hv⟩ List.mem_cons_self hz.1 hz.2.1 hfw hgw hN1 (.inl hkn) hdw hdn hcn
      exact (pss_one (ps_ret (pos := p8) pw)).run pins2 s2 τ G D J ⟨h1, ads ω1, h2, h3⟩
  · cases rr with
    | error e => exact False.elim z
    | ok fl =>
      cases fl with
      | ret u => exact I1.after z
      | next => exact False.elim z
      | brk => exact False.elim z
      | cont => exact False.elim z
end
end FP

namespace FP
open PySem PySem.Spec PyProof.Rows L2
section
variable {X : Cx} {δ : De} {ω : Om} {a b e : Expr} {d : PyData} {ds : List PyData} {pos p : Pos} {j k : Bool}
theorem PTd.eq (h : PTd X δ ω e k) (q : k = j) : PTd X δ ω e j := q ▸ h
theorem PWd.eq (h : PWd X δ ω e k) (q : k = j) : PWd X δ ω e j := q ▸ h
/-- not a tuple -/
theorem pd_notT (h : PD X δ ω a (.tuple ds)) : PD X δ ω (.UnaryOp .Not a pos) (.bool (!!ds.isEmpty)) := fun σ H rl Q q =>
  we (pe_notT pe_w) (h σ H rl _ fun v H1 s1 d1 => by
    cases d1 with
    | tup h1 h2 =>
      refine ⟨!ds.isEmpty, ?_, q _ H1 s1 (.bl _)⟩
      refine .inr (.inl ⟨_, same_sqt hid_sub h1, ?_⟩)
      cases h2 <;> rfl)
end
section
variable {X : Cx} {W : WX} {T : List (Addr × Str)} {δ : De} {ω : Om} {pos : Pos} {R : Out → Prop} {ss : List Stmt}
theorem sd_ret0 (hR : R (.rt (.im .none) ω)) : SD X W T (.Return none pos :: ss) δ ω R :=
  sd_cons fun σ H D rl t k => ws ps_retN (k.rt _ ω .non H hR .refl rl.ro .non)
end
end FP

namespace FP
open PySem PySem.Spec PyProof.Rows L2
section
variable {X : Cx} {δ : De} {ω : Om} {a b e : Expr} {d : PyData} {ds : List PyData} {pos p : Pos} {j k : Bool} {y z : Str}
/-- a sign of a text -/
theorem pd_ixS {i : Int} {c : Nat} (ha : PD X δ ω a (.str z)) (hb : PD X δ ω b (.int i)) (hz : z.length ≤ 100000) (hi : atI z.cps.toList i = some c) (hs : PlainIx b := by exact fun _ _ => rfl) : PD X δ ω (.Subscript a b pos) (.str ⟨#[c]⟩) := fun σ H rl Q k =>
  we (pe_ix ix_str pe_w pe_w hs) (ha σ H rl _ fun x H1 s1 d1 => hb σ H1 (rl.mono s1) _ fun y H2 s2 d2 => by
    cases d1
    cases d2
    exact ⟨z, i, c, rfl, rfl, Nat.le_trans hz (by rw [sizeLine_eq]; decide), hi, k _ H2 (s1.trans s2) (.str _)⟩)
/-- a text's part -/
theorem pd_slS {lo hi : Option Expr} {i j : Option Int} {p2 : Pos} (ha : PD X δ ω a (.str z)) (hl : PO1 X δ ω lo i) (hh : PO1 X δ ω hi j) (hz : z.length ≤ 100000) : PD X δ ω (.Subscript a (.Slice lo hi none p2) pos) (.str (cutS z i j)) := fun σ H rl Q k =>
  we (pe_slice sl_str pe_w po_w po_w) (ha σ H rl _ fun v H1 s1 d1 => po_run hl σ H1 (rl.mono s1) _ fun H2 s2 => po_run hh σ H2 (rl.mono (s1.trans s2)) _ fun H3 s3 => by
    cases d1
    exact ⟨z, rfl, Nat.le_trans hz (by rw [sizeLine_eq]; decide), k _ H3 ((s1.trans s2).trans s3) (.str _)⟩)
theorem join_ones : ∀ cs : List Nat, Str.join (Str.ofString "") (cs.map fun c => (⟨#[c]⟩ : Str)) = ⟨cs.toArray⟩
  | [] => rfl
  | [c] => rfl
  | c :: e :: r => by
    have ih := join_ones (e :: r)
    show (⟨#[c]⟩ : Str) ++ Str.ofString "" ++ Str.join (Str.ofString "") ((e :: r).map fun c => (⟨#[c]⟩ : Str)) = _
    rw [ih]
    refine TL.ext_tl ?_
    rw [TL.tl_append, TL.tl_append]
    have e0 : TL.tl (Str.ofString "") = [] := by decide +kernel
    rw [e0]
    show [c] ++ [] ++ ((e :: r).toArray).toList = ((c :: e :: r).toArray).toList
    simp
theorem glued_ones (cs : List Nat) : Txt.join (Str.ofString "") (cs.map fun c => (⟨#[c]⟩ : Str)) = ⟨cs.toArray⟩ := by
  rw [TL.join_eq, join_ones]
end
end FP

namespace FP
open PySem PySem.Spec PyProof.Rows L2
/-! ### range with a step -/
def rangeS (lo c : Int) (n : Nat) : List PyData := (List.range n).map fun (i : Nat) => .int (lo + (i : Int) * c)
theorem rangeS_len (lo c : Int) (n : Nat) : (rangeS lo c n).length = n := by
  unfold rangeS
  rw [List.length_map, List.length_range]
theorem rangeS_get {lo c : Int} {n i : Nat} (h : i < n) : (rangeS lo c n)[i]? = some (.int (lo + (i : Int) * c)) := by
  unfold rangeS
  rw [List.getElem?_map, List.getElem?_range h]
  rfl
section
variable {X : Cx} {δ : De} {ω : Om} {a b e tg : Expr} {d : PyData} {ds : List PyData} {pos p : Pos} {j k : Bool} {y z : Str}
theorem wk_range3 {i j c : Int} {n : Nat} (hm : X.mg "range" = none) (ha : PDs X δ ω [a, b, e] [.int i, .int j, .int c]) (h : RgC i j c n) (hg : Gl X "range" := by rfl)
    (hs : starEach [a, b, e] X.env = (false, eval a X.env) :: starEach [b, e] X.env := by rfl) (hpl : (backTo pos (starEach [b, e] X.env)).any (·.1) = false := by rfl) :
    PWk X δ ω tg (.Call (.Name "range" p) [a, b, e] [] pos) (rangeS i c n) := by
  refine ⟨_, pi_range3 hg hm pa_w hs hpl, fun σ H rl R k => ha σ H rl _ fun vs H1 s1 d1 => ?_⟩
  cases d1 with
  | cons x1 d1 =>
    cases d1 with
    | cons x2 d1 =>
      cases d1 with
      | cons x3 d1 =>
        cases d1
        cases x1
        cases x2
        cases x3
        refine ⟨i, j, c, n, rfl, h, k _ H1 s1 fun T H2 g => ⟨fun m hm => ?_, ?_, fun m y H3 hm w => ?_⟩⟩
        · rw [rangeS_len] at hm
          exact hm
        · show n ≤ (rangeS i c n).length
          rw [rangeS_len]
          exact Nat.le_refl _
        · obtain ⟨e1, e2⟩ := w
          subst e2
          rw [rangeS_len] at hm
          exact ⟨e1, _, rangeS_get hm, .int _⟩
theorem rgC_pos {n w q r : Nat} (e : q * w + r = n) (r1 : 1 ≤ r) (rw1 : r ≤ w) (hw : w ≤ 100000) (hn : n ≤ 100000) : RgC 0 (n : Int) (w : Int) (q + 1) := by
  have es : Builtin.Range.rangeSize 0 (n : Int) (w : Int) = ((q + 1 : Nat) : Int) := by
    unfold Builtin.Range.rangeSize
    rw [if_pos (by omega), if_pos (by omega)]
    have e2 : ((n : Int) - 0 - 1) = (r - 1 : Int) + (w : Int) * (q : Int) := by
      rw [← e]
      rw [Int.natCast_add, Int.natCast_mul, Int.mul_comm]
      omega
    rw [e2, Int.add_mul_ediv_left _ _ (by omega), Int.ediv_eq_zero_of_lt (by omega) (by omega)]
    omega
  refine ⟨by omega, by omega, ?_, es⟩
  unfold Builtin.Range.small
  rw [es]
  have hq : q ≤ n := by
    rw [← e]
    have : q * 1 ≤ q * w := Nat.mul_le_mul_left q (by omega)
    omega
  simp only [Builtin.Range.rangeFitsLong, Bool.and_eq_true, Bool.or_eq_true, decide_eq_true_eq, beq_iff_eq]
  refine ⟨⟨⟨⟨by omega, by omega⟩, by omega⟩, by omega⟩, .inr ?_⟩
  rw [if_pos (show (w : Int) > 0 by omega)]
  simp only [Bool.and_eq_true, decide_eq_true_eq]
  omega
theorem PN.eq {dt : List PyData} (h : PN X δ ω e ds) (q : ds = dt) : PN X δ ω e dt := q ▸ h
/-- the last one -/
theorem atI_last {α : Type} {xs : List α} {x : α} : atI (xs ++ [x]) (-1) = some x := by
  unfold atI ixN
  rw [if_neg (by decide), if_pos (by simp; omega)]
  show (xs ++ [x])[(-1 + ((xs ++ [x]).length : Int)).toNat]? = some x
  have e : (-1 + ((xs ++ [x]).length : Int)).toNat = xs.length := by
    simp
    omega
  rw [e]
  simp
end
end FP

namespace FP
open PySem PySem.Spec PyProof.Rows L2
/-! ### defs that are handed objects of one's own -/
abbrev Os := List (Addr × Od)
inductive Rg where
  | ok (r : Sd)
  | er (C : Addr)
abbrev FrG := Os → List Sd → (Rg → Os → Prop) → Prop
def RgQ (K : PySem.W.Frag) (ps : List Addr) (os' : Os) (H' : Hp) (Q : VK) (E : XK) : Rg → Prop
  | .ok r => ∀ v, SdV K (hid (ads ⟨ps, os'⟩) H') r v → Q v H'
  | .er Z => E (.ref Z) none H'
def spG (K : PySem.W.Frag) (fr : FrG) : Sp := fun vs H Q E => ∃ (ps : List Addr) (os : Os) (as : List Sd) (R : Rg → Os → Prop), Ro K H ⟨ps, os⟩ ∧ Paired (SdV K (hid (ads ⟨ps, os⟩) H)) as vs ∧ fr os as R ∧
  ∀ r os' H', R r os' → (∀ b o, H b = some o → b ∉ os.map (·.1) → H' b = some o) → (∀ a ∈ os'.map (·.1), a ∈ os.map (·.1) ∨ H a = none) → Ro K H' ⟨ps, os'⟩ → RgQ K ps os' H' Q E r
structure GOk (P : Program) (w : World) (K : PySem.W.Frag) (mg : Str → Option Value) (base : Heap) (k : Nat) (x : Str) (fr : FrG) : Prop where
  ex : ∃ f fd ps, FnOk P w K mg base (L2N.CX P w) k f fd ps (spG K fr) ∧ mg x = some (.ref f) ∧ PySem.W.keepIn K (.ref f) = true ∧ L2.Binds K fd ps []
/-- a method -/
structure GMOk (P : Program) (w : World) (K : PySem.W.Frag) (mg : Str → Option Value) (base : Heap) (k : Nat) (C : Addr) (m : Str) (fr : FrG) : Prop where
  ex : ∃ f fd ps, FnOk P w K mg base (L2N.CX P w) k f fd ps (spG K fr) ∧ Meth K C m f ∧ L2.Binds K fd ps []
theorem GOk.mono {P : Program} {w : World} {K : PySem.W.Frag} {mg : Str → Option Value} {base : Heap} {j k : Nat} {x : Str} {fr : FrG} (G : GOk P w K mg base j x fr) (h : j ≤ k) : GOk P w K mg base k x fr := by
  obtain ⟨f, fd, ps, F, m, kp, b⟩ := G.ex
  exact ⟨f, fd, ps, F.mono h, m, kp, b⟩
theorem GMOk.mono {P : Program} {w : World} {K : PySem.W.Frag} {mg : Str → Option Value} {base : Heap} {j k : Nat} {C : Addr} {m : Str} {fr : FrG} (G : GMOk P w K mg base j C m fr) (h : j ≤ k) : GMOk P w K mg base k C m fr := by
  obtain ⟨f, fd, ps, F, m, b⟩ := G.ex
  exact ⟨f, fd, ps, F.mono h, m, b⟩
def startG (N : List Str) (as : List Sd) : De := as.map some ++ List.replicate (N.length - as.length) none
theorem paired_get {α β : Type} {R : α → β → Prop} : ∀ {xs : List α} {ys : List β} {i : Nat} {x : α}, Paired R xs ys → xs[i]? = some x → ∃ y, ys[i]? = some y ∧ R x y
  | _, _, _, _, .nil, h => by simp at h
  | _, _, 0, _, .cons a r, h => by
    simp at h
    subst h
    exact ⟨_, rfl, a⟩
  | _, _, i + 1, x, .cons a r, h => by
    obtain ⟨y, h1, h2⟩ := paired_get (i := i) (x := x) r (by simpa using h)
    exact ⟨y, by simpa using h1, h2⟩
theorem startG_rl {K : PySem.W.Frag} {H : Hp} {ω : Om} {N : List Str} {as : List Sd} {vs : List V} (ro : Ro K H ω) (h : Paired (SdV K (hid (ads ω) H)) as vs) : Rl K H (L2.start N vs) (startG N as) ω := by
  have hl := paired_len h
  refine ⟨?_, fun i r hi => ?_, ro⟩
  · unfold L2.start startG
    rw [List.length_append, List.length_append, List.length_map, List.length_map, List.length_replicate, List.length_replicate, hl]
  · unfold startG at hi
    by_cases hlt : i < as.length
    · rw [List.getElem?_append_left (by rw [List.length_map]; exact hlt), List.getElem?_map, List.getElem?_eq_getElem hlt] at hi
      cases hi
      obtain ⟨v, h1, h2⟩ := paired_get h (List.getElem?_eq_getElem hlt)
      refine ⟨v, ?_, h2⟩
      unfold L2.start
      rw [List.getElem?_append_left (by rw [List.length_map, hl]; exact hlt), List.getElem?_map, h1]
      rfl
    · rw [List.getElem?_append_right (by rw [List.length_map]; omega)] at hi
      obtain ⟨h1, h2⟩ := List.getElem?_eq_some_iff.mp hi
      rw [List.getElem_replicate] at h2
      cases h2
/-- how such a def may end -/
def FinG (R : Rg → Os → Prop) : Out → Prop
  | .rt r ω => R (.ok r) ω.os
  | .nx _ ω => R (.ok (.im .none)) ω.os
  | .ex Z ω => R (.er Z) ω.os
  | _ => False
section
variable {P : Program} {w : World} {K : PySem.W.Frag} {mg : Str → Option Value} {base : Heap} {x qual : Str} {params : Arguments} {body : List Stmt} {scope : Scope} {kws : List (Str × V)} {f C : Addr} {fd : FuncData} {N ps : List Str} {k : Nat} {fr : FrG}
theorem g_run (F : FunD K x qual params body scope [] kws f fd) (S : FnScope N ps scope)
    (len : ∀ os as R, fr os as R → as.length = ps.length)
    (hbody : ∀ (cdv : Value) (A : Around) (outer : List Env) (s : Shared) (H : Hp) (E : XK) (qs : List Addr) (os : Os) (as : List Sd) (R : Rg → Os → Prop), Room k (A.deeper (envOfC qual scope s.heap.objs.size f cdv)) → fr os as R →
      SD (cxOf (L2N.CX P w) P w K mg base N qual scope f cdv A outer s H E) (WOf E) [] body (startG N as) ⟨qs, os⟩ (FinG R)) : FnOk P w K mg base (L2N.CX P w) (k + 1) f fd ps (spG K fr) := by
  refine F.ok S (fun vs H Q E h => ?_) (fun cdv A outer s H vs Q E hr h => ?_)
  · obtain ⟨qs, os, as, R, h1, h2, h3, _⟩ := h
    rw [paired_len h2]
    exact len os as R h3
  · obtain ⟨qs, os, as, R, h1, h2, h3, h4⟩ := h
    refine ⟨_, pss_w, hbody cdv A outer s H E qs os as R hr h3 _ _ _ (startG_rl h1 h2) (fun _ z => nomatch z) ?_⟩
    have kept : ∀ {ω' : Om} {H' : Hp}, Stp [] ⟨qs, os⟩ ω' H H' → ∀ b o, H b = some o → b ∉ os.map (·.1) → H' b = some o := fun {ω' H'} st b o e nb => st.keep b o e nb (.inl rfl)
    have newA : ∀ {ω' : Om} {H' : Hp}, Stp [] ⟨qs, os⟩ ω' H H' → ∀ a ∈ ω'.os.map (·.1), a ∈ os.map (·.1) ∨ H a = none := fun {ω' H'} st a ha => by
      rcases st.new a ha with q | q
      · exact .inl q
      · cases e : H a with
        | none => exact .inr rfl
        | some o => exact absurd (.inl rfl) (q o e)
    have eqo : ∀ {ω' : Om} {H' : Hp}, Stp [] ⟨qs, os⟩ ω' H H' → (⟨qs, ω'.os⟩ : Om) = ω' := fun {ω' H'} st => by
      obtain ⟨a, b⟩ := ω'
      have := st.ps
      simp only at this
      subst this
      rfl
    refine ⟨fun δ' ω' σ' H' z st l => ?_, fun r' ω' v H' z st l dv => ?_, fun Z ω' σ' H' z st l => ?_, fun _ _ _ _ z => False.elim z, fun _ _ _ _ z => False.elim z⟩
    · exact h4 _ _ H' z (kept st) (newA st) (by rw [eqo st]; exact l.ro) .non .non
    · exact h4 _ _ H' z (kept st) (newA st) (by rw [eqo st]; exact l) v (by rw [eqo st]; exact dv)
    · exact h4 _ _ H' z (kept st) (newA st) (by rw [eqo st]; exact l)
theorem g_ok (F : FunD K x qual params body scope [] kws f fd) (hm : mg x = some (.ref f)) (S : FnScope N ps scope) (hb : ∀ (kV doc pm : Value) (an : Option Addr) (cdv ct : Value) (us : List Value), us.length = ps.length → bindArgs (PySem.W.fnOf x qual params body scope .none kV doc pm an cdv ct) ⟨us, []⟩ = pure (ps.zip us))
    (len : ∀ os as R, fr os as R → as.length = ps.length)
    (hbody : ∀ (cdv : Value) (A : Around) (outer : List Env) (s : Shared) (H : Hp) (E : XK) (qs : List Addr) (os : Os) (as : List Sd) (R : Rg → Os → Prop), Room k (A.deeper (envOfC qual scope s.heap.objs.size f cdv)) → fr os as R →
      SD (cxOf (L2N.CX P w) P w K mg base N qual scope f cdv A outer s H E) (WOf E) [] body (startG N as) ⟨qs, os⟩ (FinG R)) : GOk P w K mg base (k + 1) x fr := ⟨f, fd, ps, g_run F S len hbody, hm, F.kp, F.bindsN hb⟩
theorem gm_ok (F : FunD K x qual params body scope [] kws f fd) (hm : Meth K C x f) (S : FnScope N ps scope) (hb : ∀ (kV doc pm : Value) (an : Option Addr) (cdv ct : Value) (us : List Value), us.length = ps.length → bindArgs (PySem.W.fnOf x qual params body scope .none kV doc pm an cdv ct) ⟨us, []⟩ = pure (ps.zip us))
    (len : ∀ os as R, fr os as R → as.length = ps.length)
    (hbody : ∀ (cdv : Value) (A : Around) (outer : List Env) (s : Shared) (H : Hp) (E : XK) (qs : List Addr) (os : Os) (as : List Sd) (R : Rg → Os → Prop), Room k (A.deeper (envOfC qual scope s.heap.objs.size f cdv)) → fr os as R →
      SD (cxOf (L2N.CX P w) P w K mg base N qual scope f cdv A outer s H E) (WOf E) [] body (startG N as) ⟨qs, os⟩ (FinG R)) : GMOk P w K mg base (k + 1) C x fr := ⟨f, fd, ps, g_run F S len hbody, hm, F.bindsN hb⟩
end
/-! ### what is handed over -/
def PS1 (X : Cx) (δ : De) (ω : Om) (e : Expr) (r : Sd) : Prop := ∀ σ H, Rl X.K H σ δ ω → ∀ Q : VK, (∀ v H', Same H H' → SdV X.K (hid (ads ω) H') r v → Q v H') → wpe X e σ H Q
def PSs (X : Cx) (δ : De) (ω : Om) (es : List Expr) (rs : List Sd) : Prop := ∀ σ H, Rl X.K H σ δ ω → ∀ Q : List V → Hp → Prop, (∀ vs H', Same H H' → Paired (SdV X.K (hid (ads ω) H')) rs vs → Q vs H') → wpa X es σ H Q
section
variable {X : Cx} {W : WX} {T : List (Addr × Str)} {δ : De} {ω : Om} {e : Expr} {es : List Expr} {d : PyData} {r : Sd} {rs : List Sd} {pos p p1 apos : Pos} {R : Out → Prop} {ss : List Stmt} {a C : Addr} {x m : Str} {k : Nat} {fr : FrG}
theorem PD.ps1 (h : PD X δ ω e d) : PS1 X δ ω e (.im d) := h
theorem ps1_var (i : Nat) {a : Addr} (hd : δ[i]? = some (some (.ad a)) := by rfl) (hN : X.N[i]? = some x := by rfl) (hv : Vis X.env.scope x := by first | exact Or.inl rfl | exact Or.inr (Or.inl rfl) | exact Or.inr (Or.inr rfl))
    (h1 : (x == ("__debug__" : Str)) = false := by decide) (h2 : (x == ("__classdict__" : Str)) = false := by decide) : PS1 X δ ω (.Name x pos) (.ad a) := fun σ H rl Q k => by
  obtain ⟨v, e1, e2⟩ := rl.sl i _ hd
  exact we (pe_var hN hv h1 h2) ⟨v, e1, k v H (Same.refl H) e2⟩
theorem pss1_nil : PSs X δ ω [] [] := fun σ H _ Q k => wa pa_nil (k [] H (Same.refl H) .nil)
theorem pss1_cons (ha : PS1 X δ ω e r) (hr : PSs X δ ω es rs) (hs : starEach (e :: es) X.env = (false, eval e X.env) :: starEach es X.env := by rfl) : PSs X δ ω (e :: es) (r :: rs) := fun σ H rl Q k =>
  wa (pa_cons pe_w pa_w hs) (ha σ H rl _ fun v H1 s1 d1 => hr σ H1 (rl.mono s1) _ fun vs H2 s2 d2 => k (v :: vs) H2 (s1.trans s2) (.cons (sdv_mono (hid_same s2) d1) d2))
/-- the rest is kept aside -/
theorem ads_part {ps : List Addr} {os rest : Os} {H : Hp} : hid (ads ⟨ps ++ rest.map (·.1), os⟩) H = hid (ads ⟨ps, os ++ rest⟩) H := by
  funext b
  unfold hid
  have e : b ∈ ads ⟨ps ++ rest.map (·.1), os⟩ ↔ b ∈ ads ⟨ps, os ++ rest⟩ := by
    show b ∈ (ps ++ rest.map (·.1)) ++ os.map (·.1) ↔ b ∈ ps ++ (os ++ rest).map (·.1)
    simp only [List.map_append, List.mem_append]
    constructor
    · rintro ((h | h) | h)
      · exact .inl h
      · exact .inr (.inr h)
      · exact .inr (.inl h)
    · rintro (h | h | h)
      · exact .inl (.inl h)
      · exact .inr h
      · exact .inl (.inr h)
  by_cases h : b ∈ ads ⟨ps ++ rest.map (·.1), os⟩
  · rw [if_pos h, if_pos (e.mp h)]
  · rw [if_neg h, if_neg (fun z => h (e.mpr z))]
theorem ro_part {K : PySem.W.Frag} {H : Hp} {ps : List Addr} {os rest : Os} (ro : Ro K H ⟨ps, os ++ rest⟩) : Ro K H ⟨ps ++ rest.map (·.1), os⟩ := by
  refine ⟨fun a o h => ?_, ?_, fun a h => ?_⟩
  · rw [ads_part]
    exact ro.ob a o (List.mem_append_left _ h)
  · have nd : ((os ++ rest).map (·.1)).Nodup := ro.nd
    rw [List.map_append] at nd
    exact (List.nodup_append.mp nd).1
  · rcases List.mem_append.mp h with h | h
    · exact ro.th a h
    · obtain ⟨q, hq, rfl⟩ := List.mem_map.mp h
      exact odv_some (ro.ob q.1 q.2 (List.mem_append_right _ hq))
theorem callG_end {H : Hp} {σ : L2.St} {vs : List V} {Q : VK} {Rr : Rg → Os → Prop} {ps : List Addr} {os rest : Os} (rl : Rl X.K H σ δ ⟨ps, os ++ rest⟩) (d1 : Paired (SdV X.K (hid (ads ⟨ps, os ++ rest⟩) H)) rs vs) (hf : fr os rs Rr)
    (hk : ∀ r os' H', Rr r os' → Stp T ⟨ps, os ++ rest⟩ ⟨ps, os' ++ rest⟩ H H' → Rl X.K H' σ δ ⟨ps, os' ++ rest⟩ → match r with | .ok r => ∀ v, SdV X.K (hid (ads ⟨ps, os' ++ rest⟩) H') r v → Q v H' | .er Z => W (.ref Z) none σ H') : spG X.K fr vs H Q (WE W σ) := by
  refine ⟨ps ++ rest.map (·.1), os, rs, Rr, ro_part rl.ro, ?_, hf, fun r os' H' hR kept new ro' => ?_⟩
  · rw [ads_part]
    exact d1
  · have nd : (os.map (·.1) ++ rest.map (·.1)).Nodup := by
      have z : ((os ++ rest).map (·.1)).Nodup := rl.ro.nd
      rw [List.map_append] at z
      exact z
    have dis : ∀ b, b ∈ rest.map (·.1) → b ∉ os.map (·.1) := fun b hb hz => (List.nodup_append.mp nd).2.2 b hz b hb rfl
    have seen : Same (hid (ads ⟨ps, os ++ rest⟩) H) (hid (ads ⟨ps, os' ++ rest⟩) H') := fun b o h => by
      obtain ⟨n, e⟩ := hid_out h
      have nos : b ∉ os.map (·.1) := fun z => n (List.mem_append_right _ (by rw [List.map_append]; exact List.mem_append_left _ z))
      refine hid_of (fun z => ?_) (kept b o e nos)
      rcases List.mem_append.mp z with z | z
      · exact n (List.mem_append_left _ z)
      · have z : b ∈ (os' ++ rest).map (·.1) := z
        rw [List.map_append] at z
        rcases List.mem_append.mp z with z | z
        · rcases new b z with q | q
          · exact nos q
          · rw [q] at e
            cases e
        · exact n (List.mem_append_right _ (by rw [List.map_append]; exact List.mem_append_right _ z))
    have noT : ∀ b u, b ∈ os.map (·.1) → H b = some u → (∀ ps, u ≠ .tbl ps) ∧ ∀ c q, u ≠ LamX.CodeO c q := fun b u hb hu => by
      obtain ⟨q, hq, rfl⟩ := List.mem_map.mp hb
      obtain ⟨u', e', n1, n2⟩ := odv_at (rl.ro.ob q.1 q.2 (List.mem_append_left _ hq))
      rw [e'] at hu
      cases hu
      exact ⟨n1, n2⟩
    have st : Stp T ⟨ps, os ++ rest⟩ ⟨ps, os' ++ rest⟩ H H' := by
      refine ⟨fun b o e n _ => kept b o e (fun z => n (by show b ∈ (os ++ rest).map (·.1); rw [List.map_append]; exact List.mem_append_left _ z)), fun a ha => ?_, rfl, fun t => ?_⟩
      · have ha : a ∈ (os' ++ rest).map (·.1) := ha
        rw [List.map_append] at ha
        rcases List.mem_append.mp ha with z | z
        · rcases new a z with q | q
          · exact .inl (by show a ∈ (os ++ rest).map (·.1); rw [List.map_append]; exact List.mem_append_left _ q)
          · exact .inr fun o ho => by
              rw [q] at ho
              cases ho
        · exact .inl (by show a ∈ (os ++ rest).map (·.1); rw [List.map_append]; exact List.mem_append_right _ z)
      · intro q hq
        obtain ⟨qs, a1, a2, a3⟩ := t q hq
        refine ⟨qs, kept _ _ a1 (fun z => (noT _ _ z a1).1 qs rfl), a2, fun p' cv hc => ?_⟩
        obtain ⟨c0, b1, b2⟩ := a3 p' cv hc
        exact ⟨c0, b1, kept _ _ b2 (fun z => (noT _ _ z b2).2 _ _ rfl)⟩
    have l3 : Rl X.K H' σ δ ⟨ps, os' ++ rest⟩ := by
      refine ⟨rl.len, fun i r h => ?_, fun a o h => ?_, ?_, fun a ha => ?_⟩
      · obtain ⟨v, h1, h2⟩ := rl.sl i r h
        exact ⟨v, h1, sdv_mono seen h2⟩
      · rcases List.mem_append.mp (show (a, o) ∈ os' ++ rest from h) with q | q
        · have g := ro'.ob a o q
          rw [ads_part] at g
          exact g
        · have na : a ∉ os.map (·.1) := dis a (List.mem_map.mpr ⟨_, q, rfl⟩)
          exact odv_keep (fun w => sdv_mono seen w) (fun u _ g1 => kept a u g1 na) (rl.ro.ob a o (List.mem_append_right _ q))
      · show ((os' ++ rest).map (·.1)).Nodup
        rw [List.map_append]
        refine List.nodup_append.mpr ⟨ro'.nd, (List.nodup_append.mp nd).2.1, fun b hb c hc e => ?_⟩
        subst e
        rcases new b hb with q | q
        · exact dis b hc q
        · obtain ⟨z, hz, rfl⟩ := List.mem_map.mp hc
          exact odv_some (rl.ro.ob z.1 z.2 (List.mem_append_right _ hz)) q
      · exact ro'.th a (List.mem_append_left _ ha)
    have fin := hk r os' H' hR st l3
    cases r with
    | ok r =>
      intro v hv
      rw [ads_part] at hv
      exact fin v hv
    | er Z => exact fin
/-- x(..), a def -/
theorem ex_callG {Rr : Rg → Os → Prop} {ps : List Addr} (os rest : Os) (G : GOk X.prog X.w X.K X.mg X.base k x fr) (hr : Room k X.A) (tk : L2N.Takes X W) (ha : PSs X δ ⟨ps, os ++ rest⟩ (e :: es) rs) (hf : fr os rs Rr)
    (hR : ∀ r os', Rr r os' → match r with | .ok r => R (.rt r ⟨ps, os' ++ rest⟩) | .er Z => R (.ex Z ⟨ps, os' ++ rest⟩)) (hg : Gl X x := by rfl)
    (hdb : (x == ("__debug__" : Str)) = false := by decide) (he : starEach (e :: es) X.env = (false, eval e X.env) :: starEach es X.env := by rfl) (hpl : (backTo pos (starEach es X.env)).any (·.1) = false := by rfl) : EX X W T (.Call (.Name x p) (e :: es) [] pos) δ ⟨ps, os ++ rest⟩ R := fun σ H rl t Q q q2 => by
  obtain ⟨f, fd, pn, F, m, kp, b⟩ := G.ex
  refine we (pe_callS (E := WE W) F hr hg m kp b (fun σ => L2N.passAt tk σ) pa_w hdb he hpl) (ha σ H rl _ fun vs H1 s1 d1 => ?_)
  refine callG_end (T := T) (rl.mono s1) d1 hf fun r os' H' hr st l => ?_
  have z := hR r os' hr
  cases r with
  | ok r => exact fun v hv => q r _ v H' z ((Stp.of s1).trans st) l hv
  | er Z => exact q2 Z _ σ H' z ((Stp.of s1).trans st) l.ro
/-- y.m(..), a method -/
theorem ex_methG (i : Nat) {Rr : Rg → Os → Prop} {ps : List Addr} {fs : List (Str × Sd)} (os rest : Os) (G : GMOk X.prog X.w X.K X.mg X.base k C m fr) (hr : Room k X.A) (tk : L2N.Takes X W) (Cl : Cls X.K C) (hm : (a, Od.ins C fs) ∈ os ++ rest) (hl : (fs.map (·.1)).contains m = false) (ha : PSs X δ ⟨ps, os ++ rest⟩ (e :: es) rs) (hf : fr os (.ad a :: rs) Rr)
    (hR : ∀ r os', Rr r os' → match r with | .ok r => R (.rt r ⟨ps, os' ++ rest⟩) | .er Z => R (.ex Z ⟨ps, os' ++ rest⟩)) (hd : δ[i]? = some (some (.ad a)) := by rfl) (hN : X.N[i]? = some x := by rfl)
    (hv : Vis X.env.scope x := by first | exact Or.inl rfl | exact Or.inr (Or.inl rfl) | exact Or.inr (Or.inr rfl)) (h1 : (x == ("__debug__" : Str)) = false := by decide) (h2 : (x == ("__classdict__" : Str)) = false := by decide) {pl : Sem Bool}
    (hst : starEach (e :: es) X.env = (false, eval e X.env) :: starEach es X.env := by rfl) (hpl : (backTo pos (starEach es X.env)).any (·.1) = false := by rfl)
    (ht : MthAs X (.Name x p1) m apos pos (e :: es) pl := by rfl) : EX X W T (.Call (.Attribute (.Name x p1) m apos) (e :: es) [] pos) δ ⟨ps, os ++ rest⟩ R := fun σ H rl t Q q q2 => by
  obtain ⟨f, fd, pn, F, M, b⟩ := G.ex
  obtain ⟨v, e1, e2⟩ := rl.sl i _ hd
  have e2 : v = .ref a := e2
  subst e2
  obtain ⟨dx, us, g1, g2⟩ := rl.ro.ob a _ hm
  have nl : us.lookup m = none := by
    clear g1 hm
    induction g2 with
    | nil => rfl
    | cons w r ih =>
      rename_i pq qv xs ys
      obtain ⟨n1, s1⟩ := pq
      obtain ⟨n2, v2⟩ := qv
      obtain ⟨w1, _⟩ := w
      simp only at w1
      subst w1
      simp only [List.map_cons, List.contains_cons, Bool.or_eq_false_iff] at hl
      rw [List.lookup_cons, hl.1]
      exact ih hl.2
  refine we (pe_mthS (pl := pl) (E := WE W) (pe_var hN hv h1 h2) Cl M F hr b (fun σ => L2N.passAt tk σ) pa_w hst hpl ht) ⟨_, e1, a, dx, us, rfl, g1, nl, ha σ H rl _ fun vs H1 s1 d1 => ?_⟩
  refine callG_end (T := T) (rs := .ad a :: rs) (rl.mono s1) (.cons rfl d1) hf fun r os' H' hr st l => ?_
  have z := hR r os' hr
  cases r with
  | ok r => exact fun v hv => q r _ v H' z ((Stp.of s1).trans st) l hv
  | er Z => exact q2 Z _ σ H' z ((Stp.of s1).trans st) l.ro
/-- another order of what is one's own -/
theorem sd_perm {ps : List Addr} {os os' : Os} (hp : os.Perm os') (h : SD X W T ss δ ⟨ps, os'⟩ R) : SD X W T ss δ ⟨ps, os⟩ R := fun σ H D rl t k => by
  have hm : ∀ q, q ∈ os ↔ q ∈ os' := fun q => hp.mem_iff
  have hma : ∀ b, b ∈ os.map (·.1) ↔ b ∈ os'.map (·.1) := fun b => (hp.map _).mem_iff
  have hh : hid (ads ⟨ps, os⟩) H = hid (ads ⟨ps, os'⟩) H := by
    funext b
    unfold hid
    have e : b ∈ ads ⟨ps, os⟩ ↔ b ∈ ads ⟨ps, os'⟩ := by
      show b ∈ ps ++ os.map (·.1) ↔ b ∈ ps ++ os'.map (·.1)
      rw [List.mem_append, List.mem_append, hma]
    by_cases h : b ∈ ads ⟨ps, os⟩
    · rw [if_pos h, if_pos (e.mp h)]
    · rw [if_neg h, if_neg (fun z => h (e.mpr z))]
  refine h σ H D ⟨rl.len, fun i r hi => ?_, fun z o hz => ?_, ?_, rl.ro.th⟩ t (k.step ⟨fun b o e _ _ => e, fun a ha => .inl ((hma a).mpr ha), rfl, fun t => t⟩)
  · obtain ⟨v, h1, h2⟩ := rl.sl i r hi
    rw [hh] at h2
    exact ⟨v, h1, h2⟩
  · have g := rl.ro.ob z o ((hm _).mpr hz)
    rw [hh] at g
    exact g
  · exact (hp.map _).nodup rl.ro.nd
end
end FP

namespace FP
open PySem PySem.Spec PyProof.Rows L2
/-! ### dicts of one's own -/
def valS (kvs : List (Key × Sd)) (k : Key) : Option Sd := (kvs.find? fun kv => decide (kv.1 = k)).map (·.2)
def putS (kvs : List (Key × Sd)) (k : Key) (r : Sd) : List (Key × Sd) := if (kvs.any fun kv => decide (kv.1 = k)) = true then kvs.map (fun kv => if kv.1 = k then (kv.1, r) else kv) else kvs ++ [(k, r)]
abbrev KvP (K : PySem.W.Frag) (H : Hp) : List (Key × Sd) → List (Key × V) → Prop := Paired (fun (p : Key × Sd) (q : Key × V) => p.1 = q.1 ∧ SdV K H p.2 q.2)
section
variable {K : PySem.W.Frag} {H H' : Hp}
theorem kvp_get : ∀ {kvs : List (Key × Sd)} {vs : List (Key × V)} {k : Key} {r : Sd}, KvP K H kvs vs → valS kvs k = some r → ∃ v, valV vs k = some v ∧ SdV K H r v
  | _, _, _, _, .nil, h => by cases h
  | (k1, r1) :: kvs, (k2, v2) :: vs, k, r, .cons a b, h => by
    obtain ⟨e, a⟩ := a
    simp only at e
    subst e
    unfold valS at h
    rw [List.find?_cons] at h
    by_cases c : k1 = k
    · simp only [c, decide_true] at h
      cases h
      exact ⟨v2, valV_pos c, a⟩
    · simp only [c, decide_false] at h
      obtain ⟨v, h1, h2⟩ := kvp_get (kvs := kvs) (k := k) (r := r) b h
      exact ⟨v, by rw [valV_neg c]; exact h1, h2⟩
theorem kvp_any : ∀ {kvs : List (Key × Sd)} {vs : List (Key × V)} {k : Key}, KvP K H kvs vs → (kvs.any fun kv => decide (kv.1 = k)) = (vs.any fun kv => decide (kv.1 = k))
  | _, _, _, .nil => rfl
  | (k1, r1) :: kvs, (k2, v2) :: vs, k, .cons a b => by
    obtain ⟨e, _⟩ := a
    simp only at e
    subst e
    rw [List.any_cons, List.any_cons, kvp_any b]
theorem kvp_map {r : Sd} {v : V} {k : Key} (hr : SdV K H r v) : ∀ {kvs : List (Key × Sd)} {vs : List (Key × V)}, KvP K H kvs vs → KvP K H (kvs.map (fun kv => if kv.1 = k then (kv.1, r) else kv)) (vs.map (fun kv => if kv.1 = k then (kv.1, v) else kv))
  | _, _, .nil => .nil
  | (k1, r1) :: kvs, (k2, v2) :: vs, .cons a b => by
    obtain ⟨e, a⟩ := a
    simp only at e
    subst e
    refine .cons ?_ (kvp_map hr b)
    show (if k1 = k then (k1, r) else (k1, r1)).1 = (if k1 = k then (k1, v) else (k1, v2)).1 ∧ SdV K H (if k1 = k then (k1, r) else (k1, r1)).2 (if k1 = k then (k1, v) else (k1, v2)).2
    by_cases c : k1 = k
    · rw [if_pos c, if_pos c]
      exact ⟨rfl, hr⟩
    · rw [if_neg c, if_neg c]
      exact ⟨rfl, a⟩
theorem paired_snoc {α β : Type} {R : α → β → Prop} {x : α} {y : β} (h : R x y) : ∀ {xs : List α} {ys : List β}, Paired R xs ys → Paired R (xs ++ [x]) (ys ++ [y])
  | _, _, .nil => .cons h .nil
  | _, _, .cons a b => .cons a (paired_snoc h b)
theorem kvp_put {r : Sd} {v : V} {k : Key} (hr : SdV K H r v) {kvs : List (Key × Sd)} {vs : List (Key × V)} (h : KvP K H kvs vs) : KvP K H (putS kvs k r) (putK vs k v) := by
  unfold putS putK
  rw [kvp_any h]
  split
  · exact kvp_map hr h
  · exact paired_snoc ⟨rfl, hr⟩ h
theorem kvp_mono (e : Same H H') {kvs : List (Key × Sd)} {vs : List (Key × V)} (h : KvP K H kvs vs) : KvP K H' kvs vs := L2.Paired.mapP h fun _ _ q => ⟨q.1, sdv_mono e q.2⟩
end
section
variable {X : Cx} {W : WX} {T : List (Addr × Str)} {δ : De} {ω : Om} {b e o : Expr} {es : List Expr} {d : PyData} {ds : List PyData} {r : Sd} {pos p p1 sp : Pos} {R : Out → Prop} {ss : List Stmt} {a c : Addr} {x : Str} {kvs : List (Key × Sd)} {z : Str}
theorem PS1.ex (h : PS1 X δ ω e r) (hR : R (.rt r ω)) : EX X W T e δ ω R := fun σ H rl t Q q _ => h σ H rl Q fun v H' s dv => q _ ω v H' hR (.of s) (rl.mono s) dv
theorem NW.ex {ob : Od} (h : NW X T δ ω e ob) (hR : ∀ D, R (.rt (.ad D) (omD ω D ob))) : EX X W T e δ ω R := fun σ H rl t Q q _ => h σ H rl t Q fun D H' st l => q _ _ _ H' (hR D) st l rfl
/-- a list that stands somewhere -/
theorem PS1.plt {xs : List PyData} (h : PS1 X δ ω e (.ad c)) (hc : (c, Od.lst (xs.map .im)) ∈ ω.os) : PLt X δ ω e xs := fun σ H rl Q k => h σ H rl Q fun v H' s dv => by
  have dv : v = .ref c := dv
  subst dv
  obtain ⟨vs, g1, g2⟩ := (rl.mono s).ro.ob c _ hc
  exact k c vs H' s g1 (dpa_im g2)
/-- x[b], x a dict of one's own -/
theorem ps1_dget (hx : PS1 X δ ω o (.ad a)) (hm : (a, Od.dct kvs) ∈ ω.os) (hb : PD X δ ω b (.str z)) (hk : valS kvs (.inr z) = some r) (hu : X.A.units + 1 < cLine) (hs : NoSl b := by exact fun _ _ => rfl) : PS1 X δ ω (.Subscript o b pos) r := fun σ H rl Q k =>
  we (pe_dget hu pe_w pe_w hs) (hx σ H rl _ fun v H1 s1 d1 => hb σ H1 (rl.mono s1) _ fun y H2 s2 d2 => by
    cases d2
    have d1 : v = .ref a := d1
    subst d1
    obtain ⟨vs, g1, g2⟩ := (rl.mono (s1.trans s2)).ro.ob a _ hm
    obtain ⟨u, h1, h2⟩ := kvp_get g2 hk
    exact ⟨a, u, rfl, by rw [← h1]; exact DGet.k (k := .inr z) g1, k u H2 (s1.trans s2) h2⟩)
/-- x[b] = e -/
theorem sd_dput (i : Nat) {pos' : Pos} (he : EX X W T e δ ω (Val1 (fun r ω1 => ∃ j kvs, ω1.os[j]? = some (a, .dct kvs) ∧ kvs.length < 1000 ∧ PD X δ ω1 b (.str z) ∧ SD X W T ss δ (putO ω1 j (a, .dct (putS kvs (.inr z) r))) R) R)) (hu : X.A.units + 1 < cLine) (hd : δ[i]? = some (some (.ad a)) := by rfl) (hN : X.N[i]? = some x := by rfl)
    (hv : Vis X.env.scope x := by first | exact Or.inl rfl | exact Or.inr (Or.inl rfl) | exact Or.inr (Or.inr rfl)) (h1 : (x == ("__debug__" : Str)) = false := by decide) (h2 : (x == ("__classdict__" : Str)) = false := by decide)
    (hs : swapsWith e (some (.Subscript (.Name x p1) b pos')) pos.line X.env = pure false := by rfl) : SD X W T (.Assign [.Subscript (.Name x p1) b pos'] e pos :: ss) δ ω R :=
  sd_cons fun σ H D rl t kt => ws (ps_dput hu (pe_var hN hv h1 h2) pe_w pe_w hs) (he σ H rl t _ (fun r ω1 v H1 z1 st l dv => by
    obtain ⟨j, kvs, ho, hz, hb, z1⟩ := z1
    obtain ⟨u, e1, e2⟩ := l.sl i _ hd
    have e2 : u = .ref a := e2
    subst e2
    refine ⟨_, e1, hb σ H1 l _ fun y H2 s2 d2 => ?_⟩
    cases d2
    have l2 := l.mono s2
    obtain ⟨vs, g1, g2⟩ := l2.ro.ob a _ (at_mem ho)
    have lv : vs.length = kvs.length := paired_len g2
    refine ⟨a, _, rfl, DPut.k (k := .inr z) g1 (by rw [lv]; exact small1000 (by omega)), ?_⟩
    have am : a ∈ ads ω1 := List.mem_append_right _ (List.mem_map.mpr ⟨_, at_mem ho, rfl⟩)
    have hh : Same (hid (ads ω1) H2) (hid (ads ω1) (upd H2 a (.dK (putK vs (.inr z) v)))) := fun bb o h => by
      obtain ⟨n, e⟩ := hid_out h
      exact hid_of n (by rw [upd_ne (fun q => n (by rw [q]; exact am))]; exact e)
    obtain ⟨st2, l3⟩ := own_at (T := T) (o' := .dct (putS kvs (.inr z) r)) (H' := upd H2 a (.dK (putK vs (.inr z) v))) l2 ho g1 (fun _ q => by cases q) (fun _ _ q => by unfold LamX.CodeO at q; cases q) (fun bb o nb h => by rw [upd_ne nb]; exact h) ⟨_, upd_same, kvp_put (sdv_mono (hid_same s2 |>.trans hh) dv) (kvp_mono hh g2)⟩
    exact kt.nx δ _ σ _ z1 ((st.trans (.of s2)).trans st2) l3) (fun C ω' σ' H' z q l => kt.ex C ω' σ' H' z q l))
theorem paired_set {α β : Type} {R : α → β → Prop} {x : α} {y : β} (h : R x y) : ∀ {xs : List α} {ys : List β} (j : Nat), Paired R xs ys → Paired R (xs.set j x) (ys.set j y)
  | _, _, _, .nil => .nil
  | _, _, 0, .cons _ b => .cons h b
  | _, _, j + 1, .cons a b => .cons a (paired_set h j b)
/-- o[b] = e, o a list of one's own that stands somewhere -/
theorem sd_lset {n : Nat} (he : EX X W T e δ ω (Val1 (fun r ω1 => ∃ j xs, PS1 X δ ω1 o (.ad c) ∧ ω1.os[j]? = some (c, .lst xs) ∧ PD X δ ω1 b (.int (n : Int)) ∧ n < xs.length ∧ SD X W T ss δ (putO ω1 j (c, .lst (xs.set n r))) R) R))
    (ha : ∀ v, assign (.Subscript o b sp) X.env v = (do
      let ov ← holding [v] (eval o X.env)
      let iv ← holding [v, ov] (eval b X.env)
      standAt sp
      holding [v, ov, iv] (setItem ov iv v)
      release [v, ov, iv] []) := by intro _; rfl)
    (hs : swapsWithSole [.Subscript o b sp] e pos.line X.env = pure false := by rfl) (hw : swappedStores [.Subscript o b sp] e X.env = pure none := by rfl) (h3 : (assignEach [.Subscript o b sp] X.env).map (·.2) = [assign (.Subscript o b sp) X.env] := by rfl) :
    SD X W T (.Assign [.Subscript o b sp] e pos :: ss) δ ω R :=
  sd_cons fun σ H Dd rl t kt => ws (ps_asg pe_w (pg_sub pe_w pe_w set_list ha) hs hw h3) (he σ H rl t _ (fun r ω1 y H1 z1 st l dv => by
    obtain ⟨j, xs, hx, ho, hb, hn, z1⟩ := z1
    refine hx σ H1 l _ fun v H2 s2 d2 => hb σ H2 (l.mono s2) _ fun iv H3 s3 d3 => ?_
    have d2 : v = .ref c := d2
    subst d2
    cases d3
    have l3 := l.mono (s2.trans s3)
    obtain ⟨vs, g1, g2⟩ := l3.ro.ob c _ (at_mem ho)
    have lv : vs.length = xs.length := paired_len g2
    refine ⟨c, vs, (n : Int), n, rfl, rfl, g1, ?_, ?_⟩
    · unfold ixN
      rw [lv, if_pos (Int.natCast_nonneg n), if_pos (show (n : Int) < (xs.length : Int) by omega), Int.toNat_natCast]
    · have am : c ∈ ads ω1 := List.mem_append_right _ (List.mem_map.mpr ⟨_, at_mem ho, rfl⟩)
      have hh : Same (hid (ads ω1) H3) (hid (ads ω1) (upd H3 c (.lst (vs.set n y)))) := fun bb o h => by
        obtain ⟨n, e⟩ := hid_out h
        exact hid_of n (by rw [upd_ne (fun q => n (by rw [q]; exact am))]; exact e)
      obtain ⟨st2, l4⟩ := own_at (T := T) (o' := .lst (xs.set n r)) (H' := upd H3 c (.lst (vs.set n y))) l3 ho g1 (fun _ q => by cases q) (fun _ _ q => by unfold LamX.CodeO at q; cases q) (fun bb o nb h => by rw [upd_ne nb]; exact h) ⟨_, upd_same, paired_set (sdv_mono ((hid_same (s2.trans s3)).trans hh) dv) n (L2.Paired.mapP g2 fun _ _ q => sdv_mono hh q)⟩
      exact kt.nx δ _ σ _ z1 ((st.trans (.of (s2.trans s3))).trans st2) l4) (fun C ω' σ' H' z q l => kt.ex C ω' σ' H' z q l))
/-! ### a dict is made -/
def DX (X : Cx) (T : List (Addr × Str)) (δ : De) (ω : Om) (trs : List (TE × TE)) (Z : List (Key × Sd) → Om → Prop) : Prop := ∀ σ H, Rl X.K H σ δ ω → LamX.Tabs T H → ∀ Q : List (V × V) → Hp → Prop,
  (∀ kvs ω' vs H', Z kvs ω' → Stp T ω ω' H H' → Rl X.K H' σ δ ω' → KvP X.K (hid (ads ω') H') kvs vs → Q (vs.map fun q => (kV q.1, q.2)) H') → tPairs trs σ H Q
variable {trs : List (TE × TE)} {Z : List (Key × Sd) → Om → Prop} {jk : Nat} {kp : Pos}
theorem dx_nil (h : Z [] ω) : DX X T δ ω [] Z := fun σ H rl t Q k => k [] ω [] H h .refl rl .nil
theorem kvp_stp {H H' : Hp} {ω1 ω2 : Om} (s : Stp T ω1 ω2 H H') {r : Sd} {v : V} (h : SdV X.K (hid (ads ω1) H) r v) : SdV X.K (hid (ads ω2) H') r v := stp_sd s h
theorem dx_pd (he : PD X δ ω e d) (hr : DX X T δ ω trs (fun kvs ω' => Z ((.inr z, .im d) :: kvs) ω')) : DX X T δ ω ((wpe X (.Constant (.str z) jk kp), wpe X e) :: trs) Z := fun σ H rl t Q k =>
  we pe_str (he σ H rl _ fun v H1 s1 d1 => hr σ H1 (rl.mono s1) (t.ext s1) _ fun kvs ω' vs H2 zz st l pr => k _ ω' ((.inr z, v) :: vs) H2 zz ((Stp.of s1).trans st) l (.cons ⟨rfl, stp_sd (X := X) (r := .im d) st d1⟩ pr))
theorem dx_nw {ob : Od} (he : NW X T δ ω e ob) (hr : ∀ D, DX X T δ (omD ω D ob) trs (fun kvs ω' => Z ((.inr z, .ad D) :: kvs) ω')) : DX X T δ ω ((wpe X (.Constant (.str z) jk kp), wpe X e) :: trs) Z := fun σ H rl t Q k =>
  we pe_str (he σ H rl t _ fun D H1 s1 l1 => hr D σ H1 l1 (s1.tab t) _ fun kvs ω' vs H2 zz st l pr => k _ ω' ((.inr z, .ref D) :: vs) H2 zz (s1.trans st) l (.cons ⟨rfl, (show V.ref D = V.ref D from rfl)⟩ pr))
theorem merge_new : ∀ {more kvs : List (Key × V)}, ((kvs ++ more).map (·.1)).Nodup → mergeK kvs more = kvs ++ more
  | [], kvs, _ => by
    rw [List.append_nil]
    rfl
  | q :: more, kvs, h => by
    have hn : valV kvs q.1 = none := by
      have : (valV kvs q.1).isSome = false := by
        rw [← valV_any]
        cases e : (kvs.any fun kv => decide (kv.1 = q.1)) with
        | false => rfl
        | true =>
          obtain ⟨kv, h1, h2⟩ := List.any_eq_true.mp e
          have h2 := of_decide_eq_true h2
          rw [List.map_append] at h
          exact absurd h2 ((List.nodup_append.mp h).2.2 kv.1 (List.mem_map.mpr ⟨_, h1, rfl⟩) q.1 List.mem_cons_self)
      cases e : valV kvs q.1 with
      | none => rfl
      | some _ =>
        rw [e] at this
        cases this
    show mergeK (putK kvs q.1 q.2) more = _
    rw [putK_new q.2 hn]
    have e2 : kvs ++ [(q.1, q.2)] ++ more = kvs ++ q :: more := by simp
    rw [merge_new (by rw [e2]; exact h), e2]
theorem kvp_keys {K : PySem.W.Frag} {H : Hp} : ∀ {kvs : List (Key × Sd)} {vs : List (Key × V)}, KvP K H kvs vs → vs.map (·.1) = kvs.map (·.1)
  | _, _, .nil => rfl
  | _, _, .cons a b => by rw [List.map_cons, List.map_cons, kvp_keys b, a.1]
theorem ex_disp {keys : List (Option Expr)} {values : List Expr} (hp : PPs X pos keys values trs) (h : ∀ D, DX X T δ (omD ω D (.dct [])) trs (fun kvs ω' => kvs.length ≤ 15 ∧ (kvs.map (·.1)).Nodup ∧ ∃ j, ω'.os[j]? = some (D, .dct []) ∧ R (.rt (.ad D) (putO ω' j (D, .dct kvs)))))
    (hall : keys.all (·.isSome) = true := by rfl) (hl : keys.length = values.length := by rfl) (h0 : keys ≠ [] := by simp) (h15 : keys.length ≤ 15 := by decide) : EX X W T (.Dict keys values pos) δ ω R := fun σ H rl t Q q _ =>
  we (pe_disp hp hall hl h0 h15) (fun D hD => by
    have sm : Same H (upd H D (.dK [])) := same_new hD
    have l0 : Rl X.K (upd H D (.dK [])) σ δ (omD ω D (.dct [])) := by
      refine ⟨rl.len, fun i r hi => ?_, fun z o hz => ?_, ?_, there_mono rl.ro.th sm⟩
      · obtain ⟨v, h1, h2⟩ := rl.sl i r hi
        exact ⟨v, h1, sdv_mono (hid_in hD sm) h2⟩
      · rcases List.mem_cons.mp hz with w | w
        · cases w
          exact ⟨[], upd_same, .nil⟩
        · exact odv_mono (hid_in hD sm) sm (rl.ro.ob z o w)
      · show (D :: ω.os.map (·.1)).Nodup
        exact List.nodup_cons.mpr ⟨fun w => new_out rl.ro.there hD (List.mem_append_right _ w), rl.ro.nd⟩
    refine h D σ _ l0 (t.ext sm) _ fun kvs ω' vs H2 zz st l pr => ?_
    obtain ⟨z1, z2, j, ho, z3⟩ := zz
    obtain ⟨v0, g1, g2⟩ := l.ro.ob D _ (at_mem ho)
    cases g2
    have lv : vs.length = kvs.length := paired_len pr
    refine ⟨g1, vs, rfl, by omega, ?_⟩
    have em : mergeK [] vs = vs := by
      rw [merge_new (by rw [List.nil_append, kvp_keys pr]; exact z2), List.nil_append]
    rw [em]
    have am : D ∈ ads ω' := List.mem_append_right _ (List.mem_map.mpr ⟨_, at_mem ho, rfl⟩)
    have hh : Same (hid (ads ω') H2) (hid (ads ω') (upd H2 D (.dK vs))) := fun bb o h => by
      obtain ⟨n, e⟩ := hid_out h
      exact hid_of n (by rw [upd_ne (fun q => n (by rw [q]; exact am))]; exact e)
    obtain ⟨st2, l3⟩ := own_at (T := T) (o' := .dct kvs) (H' := upd H2 D (.dK vs)) l ho g1 (fun _ q => by cases q) (fun _ _ q => by unfold LamX.CodeO at q; cases q) (fun bb o nb h => by rw [upd_ne nb]; exact h) ⟨_, upd_same, kvp_mono hh pr⟩
    exact q _ _ _ _ z3 (((stp_new sm hD).trans st).trans st2) l3 rfl)
end
end FP

namespace FP
open PySem PySem.Spec PyProof.Rows L2
section
variable {X : Cx} {W : WX} {T : List (Addr × Str)} {δ : De} {ω : Om} {a b e o : Expr} {es : List Expr} {d : PyData} {ds : List PyData} {r : Sd} {pos p p1 sp : Pos} {R : Out → Prop} {ss : List Stmt} {x : Str}
theorem pd_abs {i : Int} (hm : X.mg "abs" = none) (ha : PD X δ ω a (.int i)) (hg : Gl X "abs" := by rfl) (he : starEach [a] X.env = (false, eval a X.env) :: starEach [] X.env := by rfl) : PD X δ ω (.Call (.Name "abs" p) [a] [] pos) (.int (if i < 0 then -i else i)) :=
  pd_callB call_abs (fun ps vs H _ h Q k => by
    cases h with
    | cons h1 h2 =>
      cases h2
      cases h1
      exact ⟨i, rfl, k _ H (Same.refl H) (.int _)⟩) hm (by decide +kernel) (pds_cons ha pds_nil he) hg (by decide) (by decide) he (by rfl)
/-- an object of one's own is left to itself -/
theorem sd_drop (j : Nat) {ps : List Addr} {os : Os} (h : SD X W T ss δ ⟨ps, os.eraseIdx j⟩ R) : SD X W T ss δ ⟨ps, os⟩ R := fun σ H D rl t k => by
  have sub : (os.eraseIdx j).Sublist os := List.eraseIdx_sublist os j
  have sm : Same (hid (ads ⟨ps, os⟩) H) (hid (ads ⟨ps, os.eraseIdx j⟩) H) := hid_more fun b hb => by
    rcases List.mem_append.mp hb with q | q
    · exact List.mem_append_left _ q
    · exact List.mem_append_right _ ((sub.map _).subset q)
  refine h σ H D ⟨rl.len, fun i r hi => ?_, fun z o hz => ?_, (sub.map _).nodup rl.ro.nd, rl.ro.th⟩ t (k.step ⟨fun b o e _ _ => e, fun a ha => .inl ((sub.map _).subset ha), rfl, fun t => t⟩)
  · obtain ⟨v, h1, h2⟩ := rl.sl i r hi
    exact ⟨v, h1, sdv_mono sm h2⟩
  · exact odv_mono sm (Same.refl H) (rl.ro.ob z o (sub.subset hz))
theorem sd_ifF' {c : Expr} {sa sb : List Stmt} (h : PTd X δ ω c false) (h2 : SD X W T sb δ ω (Nxt X W T ss R)) : SD X W T (.If c sa sb pos :: ss) δ ω R := sd_if h (fun z => by cases z) fun _ => h2
/-- int of a truth -/
theorem PS1.pd (h : PS1 X δ ω e (.im d)) : PD X δ ω e d := h
end
end FP

namespace FP
open PySem PySem.Spec PyProof.Rows L2
section
variable {X : Cx} {W : WX} {T : List (Addr × Str)} {δ : De} {ω : Om} {a b c e o : Expr} {es : List Expr} {d : PyData} {ds : List PyData} {r : Sd} {pos p p1 sp : Pos} {R : Out → Prop} {ss : List Stmt} {x : Str}
theorem EX.ye {d : PyData} {ω' : Om} (h : EX X (fun _ _ _ _ => False) T e δ ω (fun o => o = .rt (.im d) ω')) : YE X T δ ω e d ω' := fun σ H rl t Q q => h σ H rl t Q (fun r ω1 v H' z st l dv => by
  cases z
  exact q v H' st l dv) (fun C ω1 σ' H' z => by cases z)
/-- list of a list -/
theorem pn_listL (hm : X.mg "list" = none) (ha : PL X δ ω a ds) (hg : Gl X "list" := by rfl) (he : starEach [a] X.env = (false, eval a X.env) :: starEach [] X.env := by rfl) : PN X δ ω (.Call (.Name "list" p) [a] [] pos) ds := fun σ H rl Q k =>
  we (pe_callTy call_list_of hg hm (by decide +kernel) (pa_cons pe_w pa_nil he) (he := he)) (ha σ H rl _ fun v vs H1 s1 h1 d1 => ⟨v, vs, rfl, .inl h1, fun l hl => k l _ _ (s1.trans (same_new hl)) (s1.free hl) upd_same (dpam (hid_new hl (same_new hl)) d1)⟩)
/-- a new list of one's own, which the caller doesn't have -/
theorem sd_ownP (i : Nat) {pos' : Pos} (he : PN X δ ω e ds) (hk : ∀ D, D ∉ ω.ps → SD X W T ss (δ.set i (some (.ad D))) (omD ω D (.lst (ds.map .im))) R) (hN : X.N.Nodup) (hi : X.N[i]? = some x := by rfl) (hx : Loc X.env.scope x := by first | exact Or.inl rfl | exact Or.inr rfl) (hs : swapsWith e (some (.Name x pos')) pos.line X.env = pure false := by rfl)
    (hf : X.fn x = true ∨ X.env.scope.names.lookup x = some .local := by first | exact .inl rfl | exact .inr rfl | assumption) : SD X W T (.Assign [.Name x pos'] e pos :: ss) δ ω R :=
  sd_cons fun σ H D rl t k => ws (ps_set hN hi hx pe_w hs hf) (he σ H rl _ fun q vs H' s n hv dv => by
    have rl2 : Rl X.K H' σ δ (omD ω q (.lst (ds.map .im))) := rl.omD n s hv (dpam (hid_more fun b h => List.mem_cons.mpr (ads_omD.mp h)) dv)
    exact k.nx _ _ _ H' (hk q (fun z => rl.ro.th q z n)) (stp_new s n) (rl2.set (x := .ad q) (v := .ref q) rfl))
/-- it is handed back -/
theorem sd_retP (i : Nat) {D : Addr} {xs : List PyData} (hm : (D, Od.lst (xs.map .im)) ∈ ω.os) (hD : D ∉ ω.ps) (hR : R (.rt (.im (.list xs)) ⟨ω.ps, []⟩)) (hd : δ[i]? = some (some (.ad D)) := by rfl) (hN : X.N[i]? = some x := by rfl) (hv : Vis X.env.scope x := by first | exact Or.inl rfl | exact Or.inr (Or.inl rfl) | exact Or.inr (Or.inr rfl))
    (h1 : (x == ("__debug__" : Str)) = false := by decide) (h2 : (x == ("__classdict__" : Str)) = false := by decide) : SD X W T (.Return (some (.Name x p)) pos :: ss) δ ω R :=
  sd_cons fun σ H Dd rl t k => by
    obtain ⟨v, e1, e2⟩ := rl.sl i _ hd
    have e2 : v = .ref D := e2
    subst e2
    obtain ⟨vs, g1, g2⟩ := rl.ro.ob D _ hm
    refine ws (ps_ret (pe_var hN hv h1 h2)) ⟨_, e1, k.rt _ ⟨ω.ps, []⟩ (.ref D) H hR ⟨fun b o h _ _ => h, fun a h => (List.not_mem_nil h).elim, rfl, fun t => t⟩ (Ro.nil rl.ro.th) ?_⟩
    show Dp X.K (hid (ads ⟨ω.ps, []⟩) H) (.ref D) (.list xs)
    rw [ads_nil]
    exact .lst (SqL.of (hid_of hD g1)) (dpam (hid_more fun b h => List.mem_append_left _ h) (dpa_im g2))
/-- x, y, z = a, b, c -/
theorem sd_par3X (i j l : Nat) {x y z : Str} {px py pz pt pt2 : Pos} {kt k2 : Nat} (hc : X.calm = true) (hN : X.N.Nodup) (ha : AX X T δ ω [a, b, c] (fun rs ω' => ∃ r1 r2 r3, rs = [r1, r2, r3] ∧ SD X W T ss (((δ.set i (some r1)).set j (some r2)).set l (some r3)) ω' R))
    (hw : swappedStores [.Tuple [.Name x px, .Name y py, .Name z pz] kt pt] (.Tuple [a, b, c] k2 pt2) X.env = pure (some [x, y, z])) (hij : i ≠ j := by decide) (hil : i ≠ l := by decide) (hjl : j ≠ l := by decide) (hi : X.N[i]? = some x := by rfl) (hj : X.N[j]? = some y := by rfl) (hl : X.N[l]? = some z := by rfl)
    (hx : X.env.scope.names.lookup x = some .local := by rfl) (hy : X.env.scope.names.lookup y = some .local := by rfl) (hz : X.env.scope.names.lookup z = some .local := by rfl)
    (hs : swapsWithSole [.Tuple [.Name x px, .Name y py, .Name z pz] kt pt] (.Tuple [a, b, c] k2 pt2) pos.line X.env = pure false := by rfl) : SD X W T (.Assign [.Tuple [.Name x px, .Name y py, .Name z pz] kt pt] (.Tuple [a, b, c] k2 pt2) pos :: ss) δ ω R :=
  sd_cons fun σ H D rl t k => ws (ps_par3 hc hN hi hj hl hij hil hjl hx hy hz pa_w hw hs) (ha σ H rl t _ fun rs ω' vs H1 zz st l pr => by
    obtain ⟨r1, r2, r3, rfl, zz⟩ := zz
    cases pr with
    | cons b1 b2 =>
      cases b2 with
      | cons b3 b4 =>
        cases b4 with
        | cons b5 b6 =>
          cases b6
          exact ⟨_, _, _, rfl, k.nx _ ω' _ H1 zz st (((l.set (x := r1) b1).set (x := r2) b3).set (x := r3) b5)⟩)
end
end FP

namespace FP
open PySem PySem.Spec PyProof.Rows L2 HotX L2H
section
variable {X : Cx} {W : WX} {T : List (Addr × Str)} {δ : De} {ω ω1 ω2 : Om} {a b c e : Expr} {es r : List Expr} {d da db dz : PyData} {ds : List PyData} {pos p : Pos} {k : Nat} {R : Out → Prop} {ss sa sb : List Stmt} {C : Addr} {fs' : Fs}
/-- the maker runs, and what it raises may speak of the slots -/
def tMakeS (C : Addr) (sp : Sp) (E : L2.St → XK) (t : TA) : TE := fun σ H Q => t σ H fun vs H1 => ∀ x dx, H1 x = none → H1 dx = none → dx ≠ x → sp (.ref x :: vs) (upd (upd H1 dx (.own x)) x (.ins C dx [])) (fun v H2 => v = .non ∧ Q (.ref x) H2) (E σ)
theorem pe_makeS {cn : Str} {f : Addr} {fd : FuncData} {ps : List Str} {sp : Sp} {CX : CXT} {E : L2.St → XK} {t : TA} (M : Mk X.K C f) (F : FnOk X.prog X.w X.K X.mg X.base CX k f fd ps sp) (hr : Room (k + 1) X.A) (hg : Gl X cn) (hm : X.mg cn = some (.ref C)) (hb : L2.Binds X.K fd ps []) (hx : ∀ σ, PassesAt CX X σ (E σ))
    (ha : PA X (e :: es) t) (hdb : (cn == ("__debug__" : Str)) = false := by decide) (he : starEach (e :: es) X.env = (false, eval e X.env) :: starEach es X.env := by rfl) (hpl : (backTo pos (starEach es X.env)).any (·.1) = false := by rfl) :
    PE X (.Call (.Name cn p) (e :: es) [] pos) (tMakeS C sp E t) := by
  refine ⟨fun pins s σ H Q I h => wpAny_Call_Name_kw (ld_glob I hg hm ?_ hdb)⟩
  refine PySem.W.callWith_K (h₀ := X.base) I.ok.mod.kin M.kp (thn (ha.run pos pins s σ H _ I h) fun us s1 ⟨vs, H1, I1, r, q⟩ => ⟨I1.kIn, ?_⟩) he hpl
  have hq := q (s1.heap.objs.size + 1) s1.heap.objs.size (I1.hok.fresh (Nat.le_succ _)) (I1.hok.fresh (Nat.le_refl _)) (Nat.ne_of_lt (Nat.lt_succ_self _))
  have I2 := Inv.made (C := C) I1
  have r2 : Vals (V.ref (s1.heap.objs.size + 1) :: vs) (Value.ref (s1.heap.objs.size + 1) :: us) := .cons rfl r
  have hl : (Value.ref (s1.heap.objs.size + 1) :: us ++ []).length = ps.length := by
    have z := r2.length
    rw [F.len _ _ _ _ hq] at z
    rw [List.append_nil]
    exact z.symm
  have b := hb _ (Value.ref (s1.heap.objs.size + 1) :: us) I2.kIn hl
  rw [List.append_nil] at b
  refine wpAny_call (make_map (f := f) I1.kIn M.makes M.init (beq_iff_eq.mp M.fn) (codeAny_mono (F.run _ X.stack _ _ ⟨Value.ref (s1.heap.objs.size + 1) :: us, []⟩ (Value.ref (s1.heap.objs.size + 1) :: us) _ _ (E σ) (hr.make C us []) (I2.env0.make C us []) b r2 hq) fun r s' hq' => ?_))
  match r, hq' with
  | .error e, hq' => exact hx σ pins _ _ e s' I2 hq'
  | .ok (.ret u), hq' =>
    obtain ⟨v, H', I3, rv, ev, q3⟩ := I2.after hq'
    subst ev
    exact ⟨rv, ⟨V.ref (s1.heap.objs.size + 1), H', I3, rfl, q3⟩⟩
/-- C(..), where __init__ raises -/
theorem yr_makeE {cn : Str} {g Z : Addr} {fd : FuncData} {ps : List Str} {fr : Fs → List PyData → Rs → Fs → Prop} (M : Mk X.K C g) (F : FnOk X.prog X.w X.K X.mg X.base (L2N.CX X.prog X.w) k g fd ps (spW X.K C fr)) (hb : L2.Binds X.K fd ps []) (hr : Room (k + 1) X.A) (tk : L2N.Takes X W) (hmC : X.mg cn = some (.ref C))
    (ha : PDs X δ ω (e :: es) ds) (hf : fr [] ds (.er Z) fs') (hg : Gl X cn := by rfl) (hdb : (cn == ("__debug__" : Str)) = false := by decide) (he : starEach (e :: es) X.env = (false, eval e X.env) :: starEach es X.env := by rfl) (hpl : (backTo pos (starEach es X.env)).any (·.1) = false := by rfl) :
    YR X W T δ ω (.Call (.Name cn p) (e :: es) [] pos) (.er Z) ω := fun σ H rl t Q q =>
  we (pe_makeS (E := WE W) M F hr hg hmC hb (fun σ => L2N.passAt tk σ) pa_w hdb he hpl) (ha σ H rl _ fun vs H1 s1 d1 z dx nz ndx ne => by
    have rl1 := rl.mono s1
    have sm : Same H1 (upd (upd H1 dx (.own z)) z (.ins C dx [])) := fun b o h => by
      rw [upd_ne (ne_of_none h nz), upd_ne (ne_of_none h ndx)]
      exact h
    refine ⟨ads ω, z, [], ds, .er Z, fs', ⟨dx, [], vs, rfl, there_mono rl1.ro.there sm, upd_same, .nil, dpam (hid_new nz sm) d1⟩, hf, fun H' dx2 us2 kept l1 l2 => ?_⟩
    have kept1 : Same H1 H' := fun b o h => kept b o (ne_of_none h nz) (sm b o h)
    exact q H' (.of (s1.trans kept1)) (rl1.mono kept1))
/-- a value that raises is put nowhere -/
theorem sd_asgE {ts : List Expr} {kk : Nat} {p' : Pos} {Z : Addr} {g : TG} (he : PR X W δ ω e (.er Z)) (hg : PG X (.Tuple ts kk p') g) (h : R (.ex Z ω)) (hs : swapsWithSole [.Tuple ts kk p'] e pos.line X.env = pure false := by rfl) (hw : swappedStores [.Tuple ts kk p'] e X.env = pure none := by rfl) : SD X W T (.Assign [.Tuple ts kk p'] e pos :: ss) δ ω R :=
  sd_cons fun σ H D rl t kt => ws (ps_asg pe_w hg hs hw) (he σ H rl _ fun H' s => kt.ex Z ω σ H' h (.of s) (rl.mono s).ro)
theorem rd_isN0 {K : PySem.W.Frag} : RD K (fun x y H Q => y = .non ∧ Q (.bl (decide (x = .non))) H) .none .none (.bool true) := fun ps x y H _ hx hy Q q => by
  cases hx
  cases hy
  exact ⟨rfl, q _ H (Same.refl H) (.bl _)⟩
/-- a value is put into a dict of one's own -/
theorem dput_at {H : Hp} {σ : L2.St} {a : Addr} {j : Nat} {kvs : List (Key × Sd)} {z : Str} {rr : Sd} {v : V} (l : Rl X.K H σ δ ω) (ho : ω.os[j]? = some (a, .dct kvs)) (hz : kvs.length < 1000) (dv : SdV X.K (hid (ads ω) H) rr v) :
    ∃ H', DPut H a (.str z) v H' ∧ Stp T ω (putO ω j (a, .dct (putS kvs (.inr z) rr))) H H' ∧ Rl X.K H' σ δ (putO ω j (a, .dct (putS kvs (.inr z) rr))) ∧ Same (hid (ads ω) H) (hid (ads ω) H') := by
  obtain ⟨vs, g1, g2⟩ := l.ro.ob a _ (at_mem ho)
  have lv : vs.length = kvs.length := paired_len g2
  have am : a ∈ ads ω := List.mem_append_right _ (List.mem_map.mpr ⟨_, at_mem ho, rfl⟩)
  have hh : Same (hid (ads ω) H) (hid (ads ω) (upd H a (.dK (putK vs (.inr z) v)))) := fun bb o h => by
    obtain ⟨n, e⟩ := hid_out h
    exact hid_of n (by rw [upd_ne (fun q => n (by rw [q]; exact am))]; exact e)
  obtain ⟨st2, l3⟩ := own_at (T := T) (o' := .dct (putS kvs (.inr z) rr)) (H' := upd H a (.dK (putK vs (.inr z) v))) l ho g1 (fun _ q => by cases q) (fun _ _ q => by unfold LamX.CodeO at q; cases q) (fun bb o nb h => by rw [upd_ne nb]; exact h) ⟨_, upd_same, kvp_put (sdv_mono hh dv) (kvp_mono hh g2)⟩
  exact ⟨_, DPut.k (k := .inr z) g1 (by rw [lv]; exact small1000 (by omega)), st2, l3, hh⟩
/-- x[b], x[c] = e -/
theorem sd_dput2 (i j : Nat) {x z1 z2 : Str} {a : Addr} {d1 d2 : PyData} {kvs : List (Key × Sd)} {pb pc q1 q2 p1 p2 p' : Pos} {kk n1 n2 : Nat} (he : PD X δ ω e (.tuple [d1, d2])) (hc : X.calm = true) (ho : ω.os[j]? = some (a, .dct kvs)) (hz : kvs.length < 1000) (hz2 : (putS kvs (.inr z1) (.im d1)).length < 1000) (hu : X.A.units + 1 < cLine)
    (hk : SD X W T ss δ (putO (putO ω j (a, .dct (putS kvs (.inr z1) (.im d1)))) j (a, .dct (putS (putS kvs (.inr z1) (.im d1)) (.inr z2) (.im d2)))) R)
    (hd : δ[i]? = some (some (.ad a)) := by rfl) (hN : X.N[i]? = some x := by rfl) (hv : Vis X.env.scope x := by first | exact Or.inl rfl | exact Or.inr (Or.inl rfl) | exact Or.inr (Or.inr rfl)) (h1 : (x == ("__debug__" : Str)) = false := by decide) (h2 : (x == ("__classdict__" : Str)) = false := by decide)
    (hs : swapsWithSole [.Tuple [.Subscript (.Name x p1) (.Constant (.str z1) n1 pb) q1, .Subscript (.Name x p2) (.Constant (.str z2) n2 pc) q2] kk p'] e pos.line X.env = pure false := by rfl) (hw : swappedStores [.Tuple [.Subscript (.Name x p1) (.Constant (.str z1) n1 pb) q1, .Subscript (.Name x p2) (.Constant (.str z2) n2 pc) q2] kk p'] e X.env = pure none := by rfl) :
    SD X W T (.Assign [.Tuple [.Subscript (.Name x p1) (.Constant (.str z1) n1 pb) q1, .Subscript (.Name x p2) (.Constant (.str z2) n2 pc) q2] kk p'] e pos :: ss) δ ω R :=
  sd_cons fun σ H D rl t k => ws (ps_asg pe_w (pg_tup hc (pgs_cons (pg_sub (pe_var hN hv h1 h2) pe_w (set_dict hu)) (pgs_cons (pg_sub (pe_var hN hv h1 h2) pe_w (set_dict hu)) pgs_nil))) hs hw) (he σ H rl _ fun v H1 s1 dv => by
    cases dv with
    | tup hq hds =>
      cases hds with
      | cons b1 b2 =>
        cases b2 with
        | cons b3 b4 =>
          cases b4
          rename_i v1 v2
          have l1 := rl.mono s1
          refine ⟨_, _, rfl, same_sqt hid_sub hq, rfl, ?_⟩
          refine ⟨v1, _, rfl, ?_⟩
          obtain ⟨u, e1, e2⟩ := l1.sl i _ hd
          have e2 : u = .ref a := e2
          subst e2
          refine ⟨_, e1, (pd_str (X := X) (δ := δ) (ω := ω) (x := z1)) σ H1 l1 _ fun y H2 s2 dy => ?_⟩
          cases dy
          obtain ⟨H3, g3, st3, l3, hh3⟩ := dput_at (T := T) (z := z1) (rr := .im d1) (v := v1) (l1.mono s2) ho hz (dpm (hid_same s2) b1)
          refine ⟨a, H3, rfl, g3, ?_⟩
          refine ⟨v2, _, rfl, ?_⟩
          refine ⟨_, e1, (pd_str (X := X) (δ := δ) (ω := putO ω j (a, .dct (putS kvs (.inr z1) (.im d1)))) (x := z2)) σ H3 l3 _ fun y H4 s4 dy => ?_⟩
          cases dy
          have ho2 : (putO ω j (a, .dct (putS kvs (.inr z1) (.im d1)))).os[j]? = some (a, .dct (putS kvs (.inr z1) (.im d1))) := List.getElem?_set_self (List.getElem?_eq_some_iff.mp ho).1
          have b3' : SdV X.K (hid (ads (putO ω j (a, .dct (putS kvs (.inr z1) (.im d1))))) H4) (.im d2) v2 := by
            rw [ads_put ho]
            exact dpm (hid_same s4) (dpm hh3 (dpm (hid_same s2) b3))
          obtain ⟨H5, g5, st5, l5, hh5⟩ := dput_at (T := T) (z := z2) (rr := .im d2) (v := v2) (l3.mono s4) ho2 hz2 b3'
          refine ⟨a, H5, rfl, g5, rfl, ?_⟩
          exact k.nx δ _ σ H5 hk ((((Stp.of s1).trans (.of s2)).trans st3).trans ((Stp.of s4).trans st5)) l5)
end
end FP

namespace FP
open PySem PySem.Spec PyProof.Rows L2 HotX L2H
section
variable {X : Cx} {W : WX} {T : List (Addr × Str)} {δ : De} {ω : Om} {a e : Expr} {d : PyData} {pos p : Pos} {R : Out → Prop}
theorem PR.ex {rr : Rs} (h : PR X W δ ω e rr) (h1 : ∀ d, rr = .ok d → R (.rt (.im d) ω)) (h2 : ∀ Z, rr = .er Z → R (.ex Z ω)) : EX X W T e δ ω R := fun σ H rl t Q q q2 => h σ H rl Q (by
  cases rr with
  | ok d => exact fun v H' s dv => q _ ω v H' (h1 d rfl) (.of s) (rl.mono s) dv
  | er Z => exact fun H' s => q2 Z ω σ H' (h2 Z rfl) (.of s) (rl.mono s).ro)
theorem dpa_int {K : PySem.W.Frag} {H : Hp} : ∀ {ns : List Int} {vs : List V}, DpAll K H vs (ns.map .int) → vs = ns.map V.int
  | [], _, .nil => rfl
  | n :: ns, _, .cons h1 h2 => by
    cases h1
    rw [dpa_int h2]
    rfl
/-- sum of whole numbers -/
theorem pd_sumI {ns : List Int} (hc : X.calm = true) (hm : X.mg "sum" = none) (ha : PL X δ ω a (ns.map .int)) (hg : Gl X "sum" := by rfl) (he : starEach [a] X.env = (false, eval a X.env) :: starEach [] X.env := by rfl) : PD X δ ω (.Call (.Name "sum" p) [a] [] pos) (.int ns.sum) := fun σ H rl Q k =>
  we (pe_callB (cr_sum hc) hg hm boot_sum (pa_cons pe_w pa_nil he) (he := he)) (ha σ H rl _ fun q vs H1 s1 h1 d1 => by
    have ev : vs = ns.map V.int := dpa_int d1
    subst ev
    exact ⟨q, ns, rfl, h1, k _ H1 s1 (.int _)⟩)
end
end FP

namespace FP
open PySem PySem.Spec PyProof.Rows L2 HotX L2H
section
variable {X : Cx} {δ : De} {ω : Om} {k f : Expr} {pos dp apos cpos : Pos}
/-- {'a': 1, 'b': 2}.get(k, f) -/
theorem pd_get2 {z1 z2 y : Str} {i1 i2 j n : Int} {n1 n2 n3 n4 : Nat} {p1 p2 p3 p4 : Pos} (hu : X.A.units + 1 < cLine) (hk : PD X δ ω k (.str y)) (hf : PD X δ ω f (.int j)) (hv : (valV (mergeK [] [((Sum.inr z1 : Key), V.int i1), ((Sum.inr z2 : Key), V.int i2)]) (.inr y)).getD (.int j) = .int n)
    (m : M2 X (.Dict [some (.Constant (.str z1) n1 p1), some (.Constant (.str z2) n2 p2)] [.Constant (.int i1) n3 p3, .Constant (.int i2) n4 p4] dp) "get" apos k f cpos) :
    PD X δ ω (.Call (.Attribute (.Dict [some (.Constant (.str z1) n1 p1), some (.Constant (.str z2) n2 p2)] [.Constant (.int i1) n3 p3, .Constant (.int i2) n4 p4] dp) "get" apos) [k, f] [] cpos) (.int n) := fun σ H rl Q q =>
  we (pe_dget2 hu (pe_disp (pps_cons pe_w pe_w (pps_cons pe_w pe_w pps_nil)) rfl rfl (by simp) (show 2 ≤ 15 by decide)) pe_w pe_w m) (fun p hn => by
    refine we pe_str (we pe_int (we pe_str (we pe_int ?_)))
    refine ⟨upd_same, [(.inr z1, .int i1), (.inr z2, .int i2)], rfl, (show 2 ≤ 15 by decide), ?_⟩
    have sm : Same H (upd (upd H p (.dK [])) p (.dK (mergeK [] [((Sum.inr z1 : Key), V.int i1), ((Sum.inr z2 : Key), V.int i2)]))) := fun b o h => by
      rw [upd_ne (ne_of_none h hn), upd_ne (ne_of_none h hn)]
      exact h
    refine ⟨p, rfl, ?isd, ?_⟩
    case isd => exact .inl ⟨_, .inl upd_same⟩
    refine hk σ _ (rl.mono sm) _ fun v H3 s3 d3 => ?_
    cases d3
    refine hf σ H3 ((rl.mono sm).mono s3) _ fun u H4 s4 d4 => ?_
    cases d4
    refine ⟨_, DGet.k (k := .inr y) (s4 _ _ (s3 _ _ upd_same)), ?_⟩
    rw [hv]
    exact q _ H4 ((sm.trans s3).trans s4) (.int _))
end
end FP

namespace FP
open PySem PySem.Spec PyProof.Rows L2 HotX L2H
/-! ### a list of lists of one's own -/
def inL (As : List Addr) (rows : List (List PyData)) : Os := List.zipWith (fun a cs => (a, Od.lst (cs.map .im))) As rows
theorem inL_ads : ∀ {As : List Addr} {rows : List (List PyData)}, As.length = rows.length → (inL As rows).map (·.1) = As
  | [], _, _ => rfl
  | a :: As, [], h => by cases h
  | a :: As, r :: rows, h => by
    show a :: (inL As rows).map (·.1) = _
    rw [inL_ads (Nat.succ.inj h)]
theorem pair_ad {K : PySem.W.Frag} {H : Hp} : ∀ {As : List Addr} {vs : List V}, Paired (SdV K H) (As.map .ad) vs → vs = As.map V.ref
  | [], _, .nil => rfl
  | a :: As, v :: vs, .cons h1 h2 => by
    rw [pair_ad h2]
    have h1 : v = .ref a := h1
    rw [h1]
    rfl
theorem dpa_rows {K : PySem.W.Frag} {G : Hp} : ∀ {As : List Addr} {rows : List (List PyData)}, As.length = rows.length → (∀ a cs, (a, Od.lst (cs.map .im)) ∈ inL As rows → ∃ us, G a = some (.lst us) ∧ DpAll K G us cs) → DpAll K G (As.map V.ref) (rows.map .list)
  | [], [], _, _ => .nil
  | [], _ :: _, h, _ => by cases h
  | _ :: _, [], h, _ => by cases h
  | a :: As, r :: rows, h, k => by
    obtain ⟨us, g1, g2⟩ := k a r List.mem_cons_self
    exact .cons (.lst (SqL.of g1) g2) (dpa_rows (Nat.succ.inj h) fun b cs hb => k b cs (List.mem_cons_of_mem _ hb))
section
variable {X : Cx} {W : WX} {T : List (Addr × Str)} {δ : De} {R : Out → Prop} {ss : List Stmt}
/-- a list of lists of one's own becomes data -/
theorem sd_letgo (i : Nat) {D : Addr} {As : List Addr} {rows : List (List PyData)} {ps : List Addr} {rest : Os} (hl : As.length = rows.length) (hD : D ∉ ps) (hA : ∀ a ∈ As, a ∉ ps) (h : SD X W T ss (δ.set i (some (.im (.list (rows.map .list))))) ⟨ps, rest⟩ R) (hd : δ[i]? = some (some (.ad D)) := by rfl) :
    SD X W T ss δ ⟨ps, (D, .lst (As.map .ad)) :: (inL As rows ++ rest)⟩ R := fun σ H Dd rl t k => by
  have nd : (D :: (inL As rows ++ rest).map (·.1)).Nodup := rl.ro.nd
  rw [List.map_append, inL_ads hl] at nd
  obtain ⟨n1, n2⟩ := List.nodup_cons.mp nd
  have n3 := (List.nodup_append.mp n2)
  have nD : D ∉ ads (⟨ps, rest⟩ : Om) := fun z => (List.mem_append.mp z).elim hD fun z => n1 (List.mem_append_right _ z)
  have nA : ∀ a ∈ As, a ∉ ads (⟨ps, rest⟩ : Om) := fun a ha z => (List.mem_append.mp z).elim (hA a ha) fun z => n3.2.2 a ha a z rfl
  have sub : rest.Sublist ((D, .lst (As.map .ad)) :: (inL As rows ++ rest)) := List.Sublist.cons _ (List.sublist_append_right _ _)
  have sm : Same (hid (ads ⟨ps, (D, .lst (As.map .ad)) :: (inL As rows ++ rest)⟩) H) (hid (ads ⟨ps, rest⟩) H) := hid_more fun b hb => by
    rcases List.mem_append.mp hb with q | q
    · exact List.mem_append_left _ q
    · exact List.mem_append_right _ ((sub.map _).subset q)
  have r0 : Rl X.K H σ δ ⟨ps, rest⟩ := ⟨rl.len, fun i r hi => by
    obtain ⟨v, h1, h2⟩ := rl.sl i r hi
    exact ⟨v, h1, sdv_mono sm h2⟩, fun z o hz => odv_mono sm (Same.refl H) (rl.ro.ob z o (sub.subset hz)), (sub.map _).nodup rl.ro.nd, rl.ro.th⟩
  obtain ⟨v, e1, e2⟩ := rl.sl i _ hd
  have e2 : v = .ref D := e2
  subst e2
  obtain ⟨vs, g1, g2⟩ := rl.ro.ob D _ List.mem_cons_self
  have ev := pair_ad g2
  subst ev
  have dd : Dp X.K (hid (ads ⟨ps, rest⟩) H) (.ref D) (.list (rows.map .list)) := by
    refine .lst (SqL.of (hid_of nD g1)) (dpa_rows hl fun a cs ha => ?_)
    have haA : a ∈ As := by
      rw [← inL_ads hl]
      exact List.mem_map.mpr ⟨_, ha, rfl⟩
    obtain ⟨us, q1, q2⟩ := rl.ro.ob a _ (List.mem_cons_of_mem _ (List.mem_append_left _ ha))
    exact ⟨us, hid_of (nA a haA) q1, dpam sm (dpa_im q2)⟩
  have r1 := r0.set (i := i) (x := .im (.list (rows.map .list))) (v := .ref D) dd
  have es : σ.set i (some (.ref D)) = σ := by
    obtain ⟨hlt, e⟩ := List.getElem?_eq_some_iff.mp e1
    rw [← e, List.set_getElem_self]
  rw [es] at r1
  exact h σ H Dd r1 t (k.step ⟨fun b o e _ _ => e, fun a ha => .inl ((sub.map _).subset ha), rfl, fun t => t⟩)
end
end FP

namespace FP
open PySem PySem.Spec PyProof.Rows L2 HotX L2H
def inR (As : List Addr) (rows : List (List PyData)) : Os := (inL As rows).reverse
theorem inR_snoc {As : List Addr} {rows : List (List PyData)} {p : Addr} {r : List PyData} (h : As.length = rows.length) : inR (As ++ [p]) (rows ++ [r]) = (p, .lst (r.map .im)) :: inR As rows := by
  unfold inR inL
  rw [List.zipWith_append h, List.reverse_append]
  rfl
theorem inR_len {As : List Addr} {rows : List (List PyData)} (h : As.length = rows.length) : (inR As rows).length = As.length := by
  unfold inR inL
  rw [List.length_reverse, List.length_zipWith, h, Nat.min_self]
theorem set_mid {α : Type} (q : α) (xs ys : List α) (a b : α) : (q :: (xs ++ a :: ys)).set (xs.length + 1) b = q :: (xs ++ b :: ys) := by
  show q :: (xs ++ a :: ys).set xs.length b = _
  rw [List.set_append_right _ _ (Nat.le_refl _), Nat.sub_self]
  rfl
theorem get_mid {α : Type} (q : α) (xs ys : List α) (a : α) : (q :: (xs ++ a :: ys))[xs.length + 1]? = some a := by
  show (xs ++ a :: ys)[xs.length]? = some a
  rw [List.getElem?_append_right (Nat.le_refl _), Nat.sub_self]
  rfl
theorem ad_pair {K : PySem.W.Frag} {H : Hp} : ∀ As : List Addr, Paired (SdV K H) (As.map .ad) (As.map V.ref)
  | [] => .nil
  | a :: As => .cons rfl (ad_pair As)
section
variable {X : Cx} {δ : De} {ω : Om}
theorem lc_own {σ : L2.St} {H : Hp} {Q : VK} {wi : TI} {j : Nat} {te : TE} {items : List PyData} {rows : List (List PyData)} (rl : Rl X.K H σ δ ω)
    (hw : ∀ R : It → Hp → Prop, (∀ J H', Same H H' → Wk X.K (Same H') (hid (ads ω) H') J items → R J H') → wi σ H R) (hl : rows.length = items.length) (hz : items.length ≤ 10000)
    (he : ∀ (i : Nat) (d : PyData) (ds : List PyData), items[i]? = some d → rows[i]? = some ds → ∀ os' σ' H', Rl X.K H' σ' (δ.set j (some (.im d))) ⟨ω.ps, os' ++ ω.os⟩ → ∀ Q : VK, (∀ p vs H2, Same H' H2 → H' p = none → H2 p = some (.lst vs) → DpAll X.K (hid (p :: ads ⟨ω.ps, os' ++ ω.os⟩) H2) vs ds → Q (.ref p) H2) → te σ' H' Q)
    (k : ∀ D As H', As.length = rows.length → Same H H' → (∀ a ∈ D :: As, H a = none) → Rl X.K H' σ δ ⟨ω.ps, inR As rows ++ (D, .lst (As.map .ad)) :: ω.os⟩ → Q (.ref D) H') :
    tLc wi (gName j) tYes te [j] σ H Q := by
  refine hw _ fun J H1 s1 w => fun D hD => ?_
  have rl1 := rl.mono s1
  have rlD : Rl X.K (upd H1 D (.lst [])) σ δ (omD ω D (.lst (([] : List PyData).map .im))) := rl1.omD hD (same_new hD) upd_same .nil
  refine ⟨fun i m H2 => m = items.length - i ∧ i ≤ items.length ∧ Same H1 H2 ∧ ∃ As : List Addr, As.length = i ∧ (∀ a ∈ As, H1 a = none) ∧ Rl X.K H2 σ δ ⟨ω.ps, inR As (rows.take i) ++ (D, .lst (As.map .ad)) :: ω.os⟩, ⟨items.length, by omega, Nat.zero_le _, same_new hD, [], rfl, fun a h => (List.not_mem_nil h).elim, rlD⟩, ?_⟩
  rintro i m H2 ⟨em, hi, s2, As, lA, fA, r2⟩
  obtain ⟨go, stop, yld⟩ := w H2 s2
  by_cases hlt : i < items.length
  · refine .inr ⟨go i hlt, fun H3 => Same H1 H3 ∧ ∃ As : List Addr, As.length = i + 1 ∧ (∀ a ∈ As, H1 a = none) ∧ Rl X.K H3 σ δ ⟨ω.ps, inR As (rows.take (i + 1)) ++ (D, .lst (As.map .ad)) :: ω.os⟩, fun H3 ⟨s3, h3⟩ => ⟨items.length - (i + 1), by omega, rfl, hlt, s3, h3⟩, fun x H3 hy => ?_⟩
    obtain ⟨e3, d, ed, dx⟩ := yld i x H3 hlt hy
    subst e3
    have hys : i < rows.length := by omega
    have ey : rows[i]? = some rows[i] := List.getElem?_eq_getElem hys
    have lt : As.length = (rows.take i).length := by rw [List.length_take, lA]; omega
    show wipe (((wipe σ [j])).set j (some x)) [j] = wipe σ [j] ∧ _
    have ew : wipe σ [j] = σ.set j none := rfl
    refine ⟨?_, ?_⟩
    · show (((σ.set j none).set j (some x)).set j none) = σ.set j none
      rw [List.set_set, List.set_set]
    show te (((wipe σ [j])).set j (some x)) H3 _
    rw [ew, List.set_set]
    have r2' : Rl X.K H3 σ δ ⟨ω.ps, (inR As (rows.take i) ++ [(D, .lst (As.map .ad))]) ++ ω.os⟩ := by
      rw [List.append_assoc]
      exact r2
    have dx2 : Dp X.K (hid (ads ⟨ω.ps, (inR As (rows.take i) ++ [(D, .lst (As.map .ad))]) ++ ω.os⟩) H3) x d := by
      refine dpm (fun b o hb => ?_) dx
      obtain ⟨nb, eb⟩ := hid_out hb
      refine hid_of (fun z => ?_) (s2 b o eb)
      rcases List.mem_append.mp z with q | q
      · exact nb (List.mem_append_left _ q)
      · replace q : b ∈ ((inR As (rows.take i) ++ [(D, Od.lst (As.map .ad))]) ++ ω.os).map (·.1) := q
        rw [List.map_append, List.map_append] at q
        rcases List.mem_append.mp q with q | q
        · rcases List.mem_append.mp q with q | q
          · have q2 : b ∈ As := by
              rw [← inL_ads lt]
              unfold inR at q
              rw [List.map_reverse] at q
              exact List.mem_reverse.mp q
            rw [fA b q2] at eb
            cases eb
          · rw [List.mem_singleton.mp q, hD] at eb
            cases eb
        · exact nb (List.mem_append_right _ q)
    have r4 := r2'.set (i := j) (x := .im d) (v := x) dx2
    refine he i d rows[i] ed ey _ _ _ r4 _ fun p vs H4 s4 np hv dv => ?_
    obtain ⟨vs0, g1, g2⟩ := r2.ro.ob D (.lst (As.map .ad)) (List.mem_append_right _ List.mem_cons_self)
    have ev := pair_ad g2
    subst ev
    refine ⟨As.map V.ref, s4 D _ g1, ?_, same_upd_new hD (s2.trans s4), As ++ [p], by rw [List.length_append, lA]; rfl, fun a ha => ?_, ?_⟩
    · rw [List.length_map, lA]
      refine Nat.lt_of_lt_of_le hlt (Nat.le_trans hz ?_)
      rw [sizeLine_eq]
      decide
    · rcases List.mem_append.mp ha with q | q
      · exact fA a q
      · rw [List.mem_singleton.mp q]
        exact s2.free np
    · have r5 := r2.omD np s4 hv (xs := rows[i]) (dpam (hid_more fun b hb => by
        rw [List.append_assoc]
        exact List.mem_cons.mpr (ads_omD.mp hb)) dv)
      obtain ⟨st, r6⟩ := own_at (T := []) (j := (inR As (rows.take i)).length + 1) (o' := .lst (As.map .ad ++ [.ad p])) (H' := upd H4 D (.lst (As.map V.ref ++ [V.ref p]))) r5 (get_mid _ _ _ _) (s4 D _ g1) (fun _ q => by cases q) (fun _ _ q => by unfold LamX.CodeO at q; cases q) (fun b o nb h => by rw [upd_ne nb]; exact h) ⟨_, upd_same, paired_snoc (R := SdV X.K _) (x := Sd.ad p) (y := V.ref p) (show V.ref p = V.ref p from rfl) (ad_pair As)⟩
      have ew2 : putO (omD ⟨ω.ps, inR As (rows.take i) ++ (D, .lst (As.map .ad)) :: ω.os⟩ p (.lst (rows[i].map .im))) ((inR As (rows.take i)).length + 1) (D, .lst (As.map .ad ++ [.ad p])) = ⟨ω.ps, inR (As ++ [p]) (rows.take (i + 1)) ++ (D, .lst ((As ++ [p]).map .ad)) :: ω.os⟩ := by
        have et : rows.take (i + 1) = rows.take i ++ [rows[i]] := by rw [List.take_add_one, ey]; rfl
        rw [et, inR_snoc lt, List.map_append]
        show (⟨ω.ps, ((p, _) :: (inR As (rows.take i) ++ (D, .lst (As.map .ad)) :: ω.os)).set _ _⟩ : Om) = _
        rw [set_mid]
        rfl
      rw [ew2] at r6
      exact r6
  · have e : i = items.length := by omega
    subst e
    refine .inl ⟨stop, ?_⟩
    rw [List.take_of_length_le (by omega)] at r2
    refine k D As H2 (lA.trans hl.symm) (s1.trans s2) (fun a ha => ?_) r2
    rcases List.mem_cons.mp ha with q | q
    · rw [q]
      exact s1.free hD
    · exact s1.free (fA a q)
variable {W : WX} {T : List (Addr × Str)} {tg iter : Expr} {pos : Pos} {R : Out → Prop} {ss : List Stmt} {x : Str}
/-- x = [list(..) for tg in iter], a list of lists of one's own -/
theorem sd_ownLL (i : Nat) {py cpos : Pos} {elt : Expr} {scope : Scope} {y : Str} {j : Nat} {items : List PyData} {rows : List (List PyData)} (hc : X.calm = true) (hN : X.N.Nodup) (hw : PWs X δ ω tg iter items) (hl : rows.length = items.length) (ok : BlkOk X.N X.env.scope scope [(y, j)])
    (hg : ∀ (s : Shared) (H : Hp) (C : Addr) (cl : List (Str × Addr)) (fp : List Addr), PG (X.blk s H scope (compEnvC scope cl C X.env) fp) tg (gName j))
    (he : ∀ (i : Nat) (d : PyData) (ds : List PyData), items[i]? = some d → rows[i]? = some ds → ∀ os' (s : Shared) (H : Hp) (C : Addr) (cl : List (Str × Addr)) (fp : List Addr), PN (X.blk s H scope (compEnvC scope cl C X.env) fp) (δ.set j (some (.im d))) ⟨ω.ps, os' ++ ω.os⟩ elt ds)
    (hz : items.length ≤ 10000) (hsw : swapsWith (.ListComp elt [⟨tg, iter, [], 0⟩] scope cpos) (some (.Name x py)) pos.line X.env = pure true)
    (hk : ∀ D As, As.length = rows.length → D ∉ ω.ps → (∀ a ∈ As, a ∉ ω.ps) → SD X W T ss (δ.set i (some (.ad D))) ⟨ω.ps, inR As rows ++ (D, .lst (As.map .ad)) :: ω.os⟩ R)
    (hy : X.N[i]? = some x := by rfl) (hyl : X.env.scope.names.lookup x = some .local := by rfl) (hs : ∀ x, foldedSetIterable iter X.env x = pure x := by intro _; rfl) : SD X W T (.Assign [.Name x py] (.ListComp elt [⟨tg, iter, [], 0⟩] scope cpos) pos :: ss) δ ω R := by
  obtain ⟨wi, h1, h2⟩ := hw
  refine sd_cons fun σ H D rl t k => ws (ps_setLc (i := i) (own := [(y, j)]) hc hN hy hyl hsw h1 ok hg (fun _ _ _ _ _ => pts_nil) (fun s H0 C cl fp => pe_blk s H0 C cl fp) hs) ?_
  refine lc_own rl (fun R kk => h2 σ H rl R kk) hl hz (fun i d ds hd hy os' σ' H' rl' Q' k' s H0 C cl fp => he i d ds hd hy os' s H0 C cl fp σ' H' rl' Q' k') (fun q As H' lA s fr r => ?_)
  refine k.nx _ _ _ H' (hk q As lA (fun z => rl.ro.th q z (fr q List.mem_cons_self)) (fun a ha z => rl.ro.th a z (fr a (List.mem_cons_of_mem _ ha)))) ⟨fun b o h _ _ => s b o h, fun a h => ?_, rfl, fun t => t.ext s⟩ (r.set (x := .ad q) (v := .ref q) rfl)
  have h : a ∈ (inR As rows ++ (q, Od.lst (As.map .ad)) :: ω.os).map (·.1) := h
  rw [List.map_append, List.map_cons] at h
  have new : a ∈ q :: As → ∀ o, H a = some o → ¬ Pt T o := fun z o ho => by
    rw [fr a z] at ho
    cases ho
  rcases List.mem_append.mp h with z | z
  · refine .inr (new (List.mem_cons_of_mem _ ?_))
    unfold inR at z
    rw [List.map_reverse, inL_ads lA] at z
    exact List.mem_reverse.mp z
  · rcases List.mem_cons.mp z with z | z
    · exact .inr (new (by rw [z]; exact List.mem_cons_self))
    · exact .inl z
end
end FP

namespace FP
open PySem PySem.Spec PyProof.Rows L2 HotX L2H
/-! ### enumerate of a text -/
def ItES (x : Str) : It := ⟨fun i _ => i < x.cps.size, fun i H v H' => ∃ T c, v = .ref T ∧ H T = none ∧ H' = upd H T (.tup [.int (i : Nat), .str ⟨#[c]⟩]) ∧ x.cps[i]? = some c, fun i _ => i = x.cps.size⟩
structure EsSt (e it : Addr) (x : Str) (t : Tok) (i : Nat) (h : Heap) : Prop where
  en : ∃ old, IsEnum h e it (i : Int) old
  wk : h.IsStrIter it (strIterType x) x t i
theorem turn_enumS {P : Program} {w : World} {K : PySem.W.Frag} {elts : List Expr} {kk : Nat} {tpos : Pos} {e it : Addr} {x : Str} {t : Tok} (lt : it < e) : Turn P w K (.Tuple elts kk tpos) (ItES x) [e, it] e (EsSt e it x t) where
  mem := List.mem_cons_self
  obj := fun i h st c hc => by
    obtain ⟨⟨_, g1⟩, o, g2, _, d⟩ := st
    rcases List.mem_cons.mp hc with rfl | hc
    · exact ⟨_, g1, nofun⟩
    · exact (List.mem_singleton.mp hc) ▸ ⟨o, g2, fun v q => by rw [d] at q; cases q⟩
  keep := fun i h h' st k => ⟨st.en.imp fun _ q => k e List.mem_cons_self _ q, let ⟨o, g, r⟩ := st.wk; ⟨o, k it (by simp) o g, r⟩⟩
  item := by
    rintro X rfl rfl rfl calm i pins s σ H E I free st lti
    obtain ⟨old, he⟩ := st.en
    have old1 : ∀ c ∈ [e, it], c < s.heap.objs.size := fun c hc => by
      rcases List.mem_cons.mp hc with rfl | hc
      · exact Heap.lt_size he
      · obtain ⟨_, g, _⟩ := st.wk
        exact (List.mem_singleton.mp hc) ▸ Heap.lt_size g
    refine wpAny_pyNext_enum_itemD (Draws.text (prog := X.prog) (w := X.w) (A := X.A.in1) (I.ok.hd calm) it x t) he st.wk lti (Nat.ne_of_gt lt) (by simpa using Nat.ne_of_gt lt) fun v h1 tk ⟨c, u, hcx, ev⟩ out w1 hT sz k1 => ⟨_, rfl, wpAny_letOwnedTupleGo_enum (s := { s with heap := h1, toks := tk + 1 }) out fun h2 he2 sb => ?_⟩
    subst ev
    have up : ∀ c, c ≠ e → h2.get? c = h1.get? c := fun c hc => sb.2 c hc
    have I1 : Inv X pins σ (upd H s.heap.objs.size (.tup [.int (i : Nat), .str ⟨#[c]⟩])) { s with heap := h2, toks := tk + 1 } := I.turnedNew (ch := [e, it]) (fun b ob nb q => by
      have ne : b ≠ e ∧ b ≠ it := by simpa using nb
      exact (up b ne.1).trans (k1 b ob ne.1 ne.2 q)) free (Nat.le_refl _) ⟨by show 2 ≤ sizeLine; decide, [.int i tk, .str ⟨#[c]⟩ u], .cons ⟨_, rfl⟩ (.cons ⟨_, rfl⟩ .nil), _, (up _ (Nat.ne_of_gt (old1 e List.mem_cons_self))).trans hT, rfl, _, rfl⟩
    refine ⟨.ref s.heap.objs.size, _, I1, rfl, ⟨_, c, rfl, I.hok.fresh (Nat.le_refl _), rfl, hcx⟩, ⟨⟨_, by rw [Int.natCast_add]; exact he2⟩, let ⟨o, g, r⟩ := w1; ⟨o, (up it (Nat.ne_of_lt lt)).trans g, r⟩⟩, fun b hb => ?_⟩
    rw [upd_ne (Nat.ne_of_lt (old1 b hb))]
    exact (free b hb).1
  done := by
    rintro X rfl rfl rfl calm i pins s σ H E I free st stop
    obtain rfl : i = x.cps.size := stop
    obtain ⟨old, he⟩ := st.en
    exact wpAny_pyNext_enum_endD (Draws.text (prog := X.prog) (w := X.w) (A := X.A.in1) (I.ok.hd calm) it x t) he st.wk fun h1 ext => ⟨rfl, I.turnedL (t' := s.toks) (ch := [e, it]) (fun b o nb q => ext b o (fun z => nb (by simp [z])) q) free⟩
  self := fun A i s Q E st h => st.en.elim fun _ he => wpAny_pyIter_enum he h
def iEnumS (ta : TA) : TI := fun σ H R => ta σ H fun vs H1 => ∃ x, vs = [.str x] ∧ R (ItES x) H1
theorem pi_enumS {X : Cx} {e : Expr} {ta : TA} {p pos tpos : Pos} {elts : List Expr} {kk : Nat} (hg : Gl X "enumerate") (hm : X.mg "enumerate" = none) (ha : PA X [e] ta) (hs : starEach [e] X.env = [(false, eval e X.env)] := by rfl) :
    PI X (.Tuple elts kk tpos) (.Call (.Name "enumerate" p) [e] [] pos) (iEnumS ta) := ⟨fun pins s σ H R I h => by
  refine Call_ (ld_blt I hg hm boot_enumerate (PyProof.Rows.callWith_type1 (thn (ha.run pos pins s σ H _ I h) fun us s1 ⟨vs, H1, I1, r1, x, ex, q⟩ => ?_) hs rfl))
  subst ex
  rcases r1 with _ | ⟨⟨t, rfl⟩, r1⟩
  cases r1
  refine call_enumerate_str fun h1 he hit hsz hk => wpAny_pyIter_enum he ⟨_, [s1.heap.objs.size + 1, s1.heap.objs.size], _, _, H1, rfl, I1.kept (t' := s1.toks) hk, turn_enumS (t := t) (Nat.lt_succ_self _), ⟨⟨.none, he⟩, hit⟩, fun b hb => ?_, q⟩
  have hle : s1.heap.objs.size ≤ b := by
    rcases List.mem_cons.mp hb with rfl | hb
    · exact Nat.le_succ _
    · exact Nat.le_of_eq (List.mem_singleton.mp hb).symm
  exact I1.fpOk hle (I1.hok.fresh hle)⟩
/-! ### walks that make a tuple each turn -/
def WkT (K : PySem.W.Frag) (G : Hp → Prop) (B : Hp) (J : It) (items : List (List PyData)) : Prop :=
  ∀ H', G H' → (∀ i, i < items.length → J.go i H') ∧ J.stop items.length H' ∧ ∀ i x H'', i < items.length → J.yld i H' x H'' → ∃ T vs ds, x = .ref T ∧ H' T = none ∧ H'' = upd H' T (.tup vs) ∧ items[i]? = some ds ∧ DpAll K B vs ds
def PWt (X : Cx) (δ : De) (ω : Om) (tg iter : Expr) (items : List (List PyData)) : Prop :=
  ∃ wi, PI X tg iter wi ∧ ∀ σ H, Rl X.K H σ δ ω → ∀ R : It → Hp → Prop, (∀ J H', Same H H' → (∀ T, WkT X.K (Ke T (hid (ads ω) H')) (hid (ads ω) H') J items) → R J H') → wi σ H R
def enumD (ds : List PyData) : List (List PyData) := ds.mapIdx fun (i : Nat) d => [.int (i : Int), d]
theorem enumD_len (ds : List PyData) : (enumD ds).length = ds.length := by
  unfold enumD
  rw [List.length_mapIdx]
theorem enumD_get {ds : List PyData} {i : Nat} {x : List PyData} (h : (enumD ds)[i]? = some x) : ∃ d, ds[i]? = some d ∧ x = [.int (i : Int), d] := by
  unfold enumD at h
  rw [List.getElem?_mapIdx] at h
  cases e : ds[i]? with
  | none =>
    rw [e] at h
    cases h
  | some d =>
    rw [e] at h
    cases h
    exact ⟨d, rfl, rfl⟩
theorem enumD_two {ds x : List PyData} (h : x ∈ enumD ds) : x.length = 2 := by
  obtain ⟨i, hi⟩ := List.getElem?_of_mem h
  obtain ⟨d, _, rfl⟩ := enumD_get hi
  rfl
section
variable {X : Cx} {W : WX} {T : List (Addr × Str)} {δ : De} {ω : Om} {a b e o iter : Expr} {pos p tpos : Pos} {R : Out → Prop} {ss sa : List Stmt} {elts : List Expr} {kk : Nat} {c : Addr} {r : Sd}
theorem wt_enumS {z : Str} (hm : X.mg "enumerate" = none) (h : PD X δ ω a (.str z)) (hg : Gl X "enumerate" := by rfl) (hs : starEach [a] X.env = [(false, eval a X.env)] := by rfl) (he : starEach [a] X.env = (false, eval a X.env) :: starEach [] X.env := by rfl) :
    PWt X δ ω (.Tuple elts kk tpos) (.Call (.Name "enumerate" p) [a] [] pos) (enumD (signsD z)) := by
  refine ⟨_, pi_enumS hg hm (pa_cons pe_w pa_nil he) hs, fun σ H rl R k => h σ H rl _ fun v H1 s1 d1 => ?_⟩
  cases d1
  have hl : (enumD (signsD z)).length = z.cps.size := by
    rw [enumD_len]
    unfold signsD
    rw [List.length_map, Array.length_toList]
  refine ⟨z, rfl, k _ H1 s1 fun T H2 g => ⟨fun i hi => ?_, ?_, fun i y H3 hi w => ?_⟩⟩
  · show i < z.cps.size
    rw [← hl]
    exact hi
  · exact hl
  · obtain ⟨T', cc, e1, e2, e3, e4⟩ := w
    refine ⟨T', _, [.int (i : Int), .str ⟨#[cc]⟩], e1, e2, e3, ?_, .cons (.int _) (.cons (.str _) .nil)⟩
    unfold enumD
    rw [List.getElem?_mapIdx]
    unfold signsD
    rw [List.getElem?_map, Array.getElem?_toList, e4]
    rfl
theorem sd_forT (is : List Nat) {n : Nat} {ts : List Expr} {p' : Pos} {items : List (List PyData)} (inv : Nat → De → Om → Prop) (hw : PWt X δ ω (.Tuple ts kk p') iter items) (h0 : inv 0 δ ω)
    (hb : ∀ i ds δ' ω', items[i]? = some ds → inv i δ' ω' → SD X W T sa (setAll δ' is ds) ω' (Turn1 inv i (Nxt X W T ss R) R))
    (hd : ∀ δ' ω', inv items.length δ' ω' → SD X W T ss δ' ω' R) (hn : ∀ ds ∈ items, ds.length = n) (hi : is.length = n) (hg : PG X (.Tuple ts kk p') (gTup X.K n (gAll is))) (hp : PassesOwn (model X.prog X.w) X.A X.env X.xe) (hc : X.calm = true) (hs : ∀ x, foldedSetIterable iter X.env x = pure x := by intro _; rfl) : SD X W T (.For (.Tuple ts kk p') iter sa [] pos :: ss) δ ω R := by
  obtain ⟨wi, h1, h2⟩ := hw
  refine sd_cons fun σ H D rl t k => ws (ps_for hp hc h1 hg pss_w hs) (h2 σ H rl _ fun J H1 s1 w => ?_)
  refine ⟨fun i m σ' H' => ∃ δ' ω', m = items.length - i ∧ i ≤ items.length ∧ inv i δ' ω' ∧ Stp T ω ω' H1 H' ∧ Rl X.K H' σ' δ' ω', ⟨items.length, δ, ω, by omega, Nat.zero_le _, h0, .refl, rl.mono s1⟩, ?_⟩
  rintro i m σ' H' ⟨δ', ω', em, hi2, iv, st, rl'⟩
  obtain ⟨go, stop, yld⟩ := w T H' (fun b o z p => (hid_out (st.seen b o z p)).2)
  have k1 := k.step (Stp.of s1 : Stp T ω ω H H1)
  by_cases hlt : i < items.length
  · refine .inr ⟨go i hlt, fun σ2 H2 => ∃ δ2 ω2, inv (i + 1) δ2 ω2 ∧ Stp T ω ω2 H1 H2 ∧ Rl X.K H2 σ2 δ2 ω2, fun σ2 H2 ⟨δ2, ω2, a1, a2, a3⟩ => ⟨items.length - (i + 1), by omega, δ2, ω2, rfl, hlt, a1, a2, a3⟩, fun x H2 hy => ?_⟩
    obtain ⟨T', vs, ds, ex, nT, eH, ed, dvs⟩ := yld i x H2 hlt hy
    subst ex
    subst eH
    have sn : Same H' (upd H' T' (.tup vs)) := same_new nT
    have st2 : Stp T ω ω' H1 (upd H' T' (.tup vs)) := st.trans (.of sn)
    have k2 := k1.step st2
    have dx2 := dpam (hid_same sn) (dpa_ke st.seen ds vs dvs)
    have hds := hn ds (List.mem_of_getElem? ed)
    refine ⟨_, _, rfl, SqT.of upd_same, by rw [dpa_len dvs]; exact hds, gAll_ok (rl'.mono sn) dx2 (hi.trans hds.symm) fun σ3 l3 => ?_⟩
    refine hb i _ δ' ω' ed iv _ _ _ l3 (st2.tab (t.ext s1)) ?_
    exact ⟨fun δ2 ω2 σ2 H2 z q l => ⟨δ2, ω2, z, st2.trans q, l⟩, fun r ω2 v H2 z q l dv => k2.rt r ω2 v H2 z q l dv, fun C ω2 σ2 H2 z q l => k2.ex C ω2 σ2 H2 z q l, fun δ2 ω2 σ2 H2 z q l => k2.nx δ2 ω2 σ2 H2 z q l, fun δ2 ω2 σ2 H2 z q l => ⟨δ2, ω2, z, st2.trans q, l⟩⟩
  · have e : i = items.length := by omega
    subst e
    exact .inl ⟨stop, (k1.step st).nx δ' ω' σ' H' (hd δ' ω' iv) .refl rl'⟩
/-! ### lists of lists of one's own are read -/
theorem atI_sd {K : PySem.W.Frag} {H : Hp} {xs : List Sd} {vs : List V} {i : Int} (h : Paired (SdV K H) xs vs) (ha : atI xs i = some r) : ∃ v, atI vs i = some v ∧ SdV K H r v := by
  unfold atI at ha ⊢
  rw [paired_len h]
  cases e : ixN xs.length i with
  | none =>
    rw [e] at ha
    cases ha
  | some j =>
    rw [e] at ha
    exact paired_get h ha
theorem ps1_ixA {i : Int} {xs : List Sd} (ha : PS1 X δ ω a (.ad c)) (hm : (c, Od.lst xs) ∈ ω.os) (hb : PD X δ ω b (.int i)) (hi : atI xs i = some r) (hs : PlainIx b := by exact fun _ _ => rfl) : PS1 X δ ω (.Subscript a b pos) r := fun σ H rl Q k =>
  we (pe_ix ix_list pe_w pe_w hs) (ha σ H rl _ fun x H1 s1 d1 => hb σ H1 (rl.mono s1) _ fun y H2 s2 d2 => by
    cases d2
    have d1 : x = .ref c := d1
    subst d1
    obtain ⟨vs, g1, g2⟩ := (rl.mono (s1.trans s2)).ro.ob c _ hm
    obtain ⟨v, h1, h2⟩ := atI_sd g2 hi
    exact ⟨_, _, _, v, rfl, rfl, SqL.of g1, h1, k v H2 (s1.trans s2) h2⟩)
theorem pd_lenA {xs : List Sd} (hm : X.mg "len" = none) (ha : PS1 X δ ω a (.ad c)) (hc : (c, Od.lst xs) ∈ ω.os) (hg : Gl X "len" := by rfl) (hs : starEach [a] X.env = (false, eval a X.env) :: starEach [] X.env := by rfl) : PD X δ ω (.Call (.Name "len" p) [a] [] pos) (.int xs.length) := fun σ H rl Q k =>
  we (pe_callB call_len_seq hg hm PySem.boot_len (pa_cons pe_w pa_nil hs) (he := hs)) (ha σ H rl _ fun x H1 s1 d1 => by
    have d1 : x = .ref c := d1
    subst d1
    obtain ⟨vs, g1, g2⟩ := (rl.mono s1).ro.ob c _ hc
    refine ⟨_, _, rfl, .inl (SqL.of g1), ?_⟩
    rw [paired_len g2]
    exact k _ H1 s1 (.int _))
/-- x = [list(..) for tg in iter], the rows behind their list -/
theorem sd_ownLL2 (i : Nat) {tg : Expr} {x : Str} {py cpos : Pos} {elt : Expr} {scope : Scope} {y : Str} {j : Nat} {items : List PyData} {rows : List (List PyData)} (hc : X.calm = true) (hN : X.N.Nodup) (hw : PWs X δ ω tg iter items) (hl : rows.length = items.length) (ok : BlkOk X.N X.env.scope scope [(y, j)])
    (hg : ∀ (s : Shared) (H : Hp) (C : Addr) (cl : List (Str × Addr)) (fp : List Addr), PG (X.blk s H scope (compEnvC scope cl C X.env) fp) tg (gName j))
    (he : ∀ (i : Nat) (d : PyData) (ds : List PyData), items[i]? = some d → rows[i]? = some ds → ∀ os' (s : Shared) (H : Hp) (C : Addr) (cl : List (Str × Addr)) (fp : List Addr), PN (X.blk s H scope (compEnvC scope cl C X.env) fp) (δ.set j (some (.im d))) ⟨ω.ps, os' ++ ω.os⟩ elt ds)
    (hz : items.length ≤ 10000) (hk : ∀ D As, As.length = rows.length → D ∉ ω.ps → (∀ a ∈ As, a ∉ ω.ps) → SD X W T ss (δ.set i (some (.ad D))) ⟨ω.ps, (D, .lst (As.map .ad)) :: (inL As rows ++ ω.os)⟩ R)
    (hsw : swapsWith (.ListComp elt [⟨tg, iter, [], 0⟩] scope cpos) (some (.Name x py)) pos.line X.env = pure true := by rfl)
    (hy : X.N[i]? = some x := by rfl) (hyl : X.env.scope.names.lookup x = some .local := by rfl) (hs : ∀ x, foldedSetIterable iter X.env x = pure x := by intro _; rfl) : SD X W T (.Assign [.Name x py] (.ListComp elt [⟨tg, iter, [], 0⟩] scope cpos) pos :: ss) δ ω R :=
  sd_ownLL i hc hN hw hl ok hg he hz hsw (fun D As h1 h2 h3 => sd_perm (List.perm_middle.trans (.cons _ ((List.reverse_perm _).append_right _))) (hk D As h1 h2 h3)) hy hyl hs
theorem inL_get {As : List Addr} {rows : List (List PyData)} {r : Nat} {a : Addr} {cs : List PyData} (h1 : As[r]? = some a) (h2 : rows[r]? = some cs) : (inL As rows)[r]? = some (a, .lst (cs.map .im)) := by
  unfold inL
  rw [List.getElem?_zipWith, h1, h2]
theorem inL_set : ∀ {As : List Addr} {rows : List (List PyData)} {r : Nat} {a : Addr} {cs : List PyData}, As[r]? = some a → (inL As rows).set r (a, .lst (cs.map .im)) = inL As (rows.set r cs)
  | [], rows, r, a, cs, h => by simp at h
  | b :: As, [], r, a, cs, h => rfl
  | b :: As, x :: rows, 0, a, cs, h => by
    simp at h
    subst h
    rfl
  | b :: As, x :: rows, r + 1, a, cs, h => by
    have h2 : As[r]? = some a := by simpa using h
    show _ :: (inL As rows).set r _ = _ :: inL As (rows.set r cs)
    rw [inL_set h2]
end
end FP

namespace FP
open PySem PySem.Spec PyProof.Rows L2 HotX L2H
/-! ### fields, some of them objects of one's own -/
abbrev Fo := List (Str × Sd)
abbrev FvP (K : PySem.W.Frag) (H : Hp) : Fo → List (Str × V) → Prop := Paired (fun (p : Str × Sd) (q : Str × V) => p.1 = q.1 ∧ SdV K H p.2 q.2)
def putFs (f : Str) (r : Sd) : Fo → Fo
  | [] => [(f, r)]
  | (g, x) :: t => if g = f then (g, r) :: t else (g, x) :: putFs f r t
theorem sfv_get {K : PySem.W.Frag} {H : Hp} {f : Str} {r : Sd} : ∀ {fs : Fo} {vs : List (Str × V)}, FvP K H fs vs → fs.lookup f = some r → ∃ v, vs.lookup f = some v ∧ SdV K H r v
  | _, _, .nil, h => by cases h
  | (g, x) :: fs, (g2, v) :: vs, .cons a t, h => by
    obtain ⟨e1, a⟩ := a
    simp only at e1
    subst e1
    rw [List.lookup_cons] at h ⊢
    cases e : f == g with
    | true =>
      rw [e] at h
      cases h
      exact ⟨v, rfl, a⟩
    | false =>
      rw [e] at h
      exact sfv_get t h
theorem sfv_none {K : PySem.W.Frag} {H : Hp} {f : Str} : ∀ {fs : Fo} {vs : List (Str × V)}, FvP K H fs vs → (fs.map (·.1)).contains f = false → vs.lookup f = none
  | _, _, .nil, _ => rfl
  | (g, x) :: fs, (g2, v) :: vs, .cons a t, h => by
    obtain ⟨e1, a⟩ := a
    simp only at e1
    subst e1
    simp only [List.map_cons, List.contains_cons, Bool.or_eq_false_iff] at h
    rw [List.lookup_cons, h.1]
    exact sfv_none t h.2
theorem sfv_put {K : PySem.W.Frag} {H : Hp} {f : Str} {r : Sd} {y : V} (h : SdV K H r y) : ∀ {fs : Fo} {vs : List (Str × V)}, FvP K H fs vs → FvP K H (putFs f r fs) (putF f y vs)
  | _, _, .nil => .cons ⟨rfl, h⟩ .nil
  | (g, _) :: _, (g2, _) :: _, .cons a t => by
    obtain ⟨e1, a⟩ := a
    simp only at e1
    subst e1
    unfold putFs putF
    by_cases e : g = f
    · rw [if_pos e, if_pos e]
      exact .cons ⟨rfl, h⟩ t
    · rw [if_neg e, if_neg e]
      exact .cons ⟨rfl, a⟩ (sfv_put h t)
theorem sfv_mono {K : PySem.W.Frag} {H H' : Hp} (e : Same H H') {fs : Fo} {vs : List (Str × V)} (h : FvP K H fs vs) : FvP K H' fs vs := L2.Paired.mapP h fun _ _ q => ⟨q.1, sdv_mono e q.2⟩
section
variable {X : Cx} {W : WX} {T : List (Addr × Str)} {δ : De} {ω ω1 : Om} {a b c e o iter tg : Expr} {es : List Expr} {d : PyData} {ds : List PyData} {r : Sd} {rs : List Sd} {pos p p1 apos : Pos} {R : Out → Prop} {ss sa sb : List Stmt} {z C : Addr} {fs : Fo} {f x m : Str} {k : Nat} {fr : FrG}
/-- x.f -/
theorem ps1_fld (i : Nat) (Cl : Cls X.K C) (Na : NoAttr X.K C f) (hm : (z, Od.ins C fs) ∈ ω.os) (hl : fs.lookup f = some r) (hd : δ[i]? = some (some (.ad z)) := by rfl) (hN : X.N[i]? = some x := by rfl) (hv : Vis X.env.scope x := by first | exact Or.inl rfl | exact Or.inr (Or.inl rfl) | exact Or.inr (Or.inr rfl))
    (h1 : (x == ("__debug__" : Str)) = false := by decide) (h2 : (x == ("__classdict__" : Str)) = false := by decide) (hb : attributeBase (.Name x p1) f X.env (eval (.Name x p1) X.env) = eval (.Name x p1) X.env := by rfl) : PS1 X δ ω (.Attribute (.Name x p1) f pos) r := fun σ H rl Q q => by
  obtain ⟨v, e1, e2⟩ := rl.sl i _ hd
  have e2 : v = .ref z := e2
  subst e2
  obtain ⟨dx, vs, g1, g2⟩ := rl.ro.ob z _ hm
  obtain ⟨y, g3, g4⟩ := sfv_get g2 hl
  exact we (pe_fld (pe_var hN hv h1 h2) hb) ⟨_, e1, z, C, dx, vs, y, rfl, g1, Cl, Na, g3, q y H (Same.refl H) g4⟩
theorem fld_at {H : Hp} {σ : L2.St} {j : Nat} {v : V} {dx : Addr} {vs : List (Str × V)} (l : Rl X.K H σ δ ω) (ho : ω.os[j]? = some (z, .ins C fs)) (g1 : H z = some (.ins C dx vs)) (g2 : FvP X.K (hid (ads ω) H) fs vs) (dv : SdV X.K (hid (ads ω) H) r v) :
    Stp T ω (putO ω j (z, .ins C (putFs f r fs))) H (upd H z (.ins C dx (putF f v vs))) ∧ Rl X.K (upd H z (.ins C dx (putF f v vs))) σ δ (putO ω j (z, .ins C (putFs f r fs))) := by
  have am : z ∈ ads ω := List.mem_append_right _ (List.mem_map.mpr ⟨_, at_mem ho, rfl⟩)
  have hh : Same (hid (ads ω) H) (hid (ads ω) (upd H z (.ins C dx (putF f v vs)))) := fun bb o h => by
    obtain ⟨n, e⟩ := hid_out h
    exact hid_of n (by rw [upd_ne (fun q => n (by rw [q]; exact am))]; exact e)
  exact own_at (T := T) (o' := .ins C (putFs f r fs)) (H' := upd H z (.ins C dx (putF f v vs))) l ho g1 (fun _ q => by cases q) (fun _ _ q => by unfold LamX.CodeO at q; cases q) (fun bb o nb h => by rw [upd_ne nb]; exact h) ⟨dx, _, upd_same, sfv_put (sdv_mono hh dv) (sfv_mono hh g2)⟩
/-- x.f = e -/
theorem sd_fldS (i : Nat) {pos' : Pos} (Cl : Cls X.K C) (Na : NoAttr X.K C f) (he : EX X W T e δ ω (Val1 (fun r ω1 => ∃ j fs, ω1.os[j]? = some (z, .ins C fs) ∧ fs.length < 1000 ∧ SD X W T ss δ (putO ω1 j (z, .ins C (putFs f r fs))) R) R)) (hd : δ[i]? = some (some (.ad z)) := by rfl) (hN : X.N[i]? = some x := by rfl)
    (hv : Vis X.env.scope x := by first | exact Or.inl rfl | exact Or.inr (Or.inl rfl) | exact Or.inr (Or.inr rfl)) (h1 : (x == ("__debug__" : Str)) = false := by decide) (h2 : (x == ("__classdict__" : Str)) = false := by decide)
    (hs : swapsWith e (some (.Attribute (.Name x p1) f pos')) pos.line X.env = pure false := by rfl) : SD X W T (.Assign [.Attribute (.Name x p1) f pos'] e pos :: ss) δ ω R :=
  sd_cons fun σ H D rl t kt => ws (ps_fld (pe_var hN hv h1 h2) pe_w hs) (he σ H rl t _ (fun r ω1 y H1 z1 st l dv => by
    obtain ⟨j, fs, ho, hz, z1⟩ := z1
    obtain ⟨v, e1, e2⟩ := l.sl i _ hd
    have e2 : v = .ref z := e2
    subst e2
    obtain ⟨dx, vs, g1, g2⟩ := l.ro.ob z _ (at_mem ho)
    obtain ⟨st2, l2⟩ := fld_at (T := T) (f := f) l ho g1 g2 dv
    exact ⟨_, e1, z, C, dx, vs, rfl, g1, Cl, Na, by rw [paired_len g2]; exact hz, kt.nx δ _ σ _ z1 (st.trans st2) l2⟩) (fun C ω' σ' H' z q l => kt.ex C ω' σ' H' z q l))
/-- x.f += e, whole numbers -/
theorem sd_fldaddS (i j : Nat) {tpos : Pos} {m n : Int} (Cl : Cls X.K C) (Na : NoAttr X.K C f) (ho : ω.os[j]? = some (z, .ins C fs)) (hl : fs.lookup f = some (.im (.int m))) (he : PD X δ ω e (.int n)) (hk : SD X W T ss δ (putO ω j (z, .ins C (putFs f (.im (.int (m + n))) fs))) R) (hz : fs.length < 1000) (hd : δ[i]? = some (some (.ad z)) := by rfl) (hN : X.N[i]? = some x := by rfl)
    (hv : Vis X.env.scope x := by first | exact Or.inl rfl | exact Or.inr (Or.inl rfl) | exact Or.inr (Or.inr rfl)) (h1 : (x == ("__debug__" : Str)) = false := by decide) (h2 : (x == ("__classdict__" : Str)) = false := by decide) :
    SD X W T (.AugAssign (.Attribute (.Name x p1) f tpos) .Add e pos :: ss) δ ω R :=
  sd_cons fun σ H D rl t kt => ws (ps_fldaug (pe_var hN hv h1 h2) pe_w in_add) (by
    obtain ⟨v, e1, e2⟩ := rl.sl i _ hd
    have e2 : v = .ref z := e2
    subst e2
    obtain ⟨dx, vs, g1, g2⟩ := rl.ro.ob z _ (at_mem ho)
    obtain ⟨y, g3, g4⟩ := sfv_get g2 hl
    cases g4
    refine ⟨_, e1, z, C, dx, vs, _, rfl, g1, Cl, Na, g3, he σ H rl _ fun w H1 s1 d1 => ?_⟩
    cases d1
    have rl1 := rl.mono s1
    obtain ⟨dx1, vs1, k1, k2⟩ := rl1.ro.ob z _ (at_mem ho)
    obtain ⟨st, l2⟩ := fld_at (T := T) (f := f) (r := .im (.int (m + n))) (v := .int (m + n)) rl1 ho k1 k2 (Dp.int (m + n))
    exact ⟨m, n, rfl, rfl, dx1, vs1, k1, by rw [paired_len k2]; exact hz, kt.nx δ _ σ _ hk ((Stp.of s1).trans st) l2⟩)
/-- y.m(), a method -/
theorem ex_methG0 (i : Nat) {Rr : Rg → Os → Prop} {ps : List Addr} (os rest : Os) (G : GMOk X.prog X.w X.K X.mg X.base k C m fr) (hr : Room k X.A) (tk : L2N.Takes X W) (Cl : Cls X.K C) (hm : (z, Od.ins C fs) ∈ os ++ rest) (hl : (fs.map (·.1)).contains m = false) (hf : fr os [.ad z] Rr)
    (hR : ∀ r os', Rr r os' → match r with | .ok r => R (.rt r ⟨ps, os' ++ rest⟩) | .er Z => R (.ex Z ⟨ps, os' ++ rest⟩)) (hd : δ[i]? = some (some (.ad z)) := by rfl) (hN : X.N[i]? = some x := by rfl)
    (hv : Vis X.env.scope x := by first | exact Or.inl rfl | exact Or.inr (Or.inl rfl) | exact Or.inr (Or.inr rfl)) (h1 : (x == ("__debug__" : Str)) = false := by decide) (h2 : (x == ("__classdict__" : Str)) = false := by decide) {pl : Sem Bool}
    (ht : MthAs X (.Name x p1) m apos pos [] pl := by rfl) : EX X W T (.Call (.Attribute (.Name x p1) m apos) [] [] pos) δ ⟨ps, os ++ rest⟩ R := fun σ H rl t Q q q2 => by
  obtain ⟨f, fd, pn, F, M, b⟩ := G.ex
  obtain ⟨v, e1, e2⟩ := rl.sl i _ hd
  have e2 : v = .ref z := e2
  subst e2
  obtain ⟨dx, us, g1, g2⟩ := rl.ro.ob z _ hm
  have nl : us.lookup m = none := sfv_none g2 hl
  refine we (pe_mthS0 (pl := pl) (E := WE W) (pe_var hN hv h1 h2) Cl M F hr b (fun σ => L2N.passAt tk σ) ht) ⟨_, e1, z, dx, us, rfl, g1, nl, ?_⟩
  refine callG_end (T := T) (rs := [.ad z]) rl (.cons rfl .nil) hf fun r os' H' hr st l => ?_
  have w := hR r os' hr
  cases r with
  | ok r => exact fun v hv => q r _ v H' w st l hv
  | er Z => exact q2 Z _ σ H' w st l.ro
/-- C(..), an __init__ that makes objects -/
theorem ex_makeG {cn : Str} {g : Addr} {fd : FuncData} {pn : List Str} {ps : List Addr} {rest : Os} (M : Mk X.K C g) (F : FnOk X.prog X.w X.K X.mg X.base (L2N.CX X.prog X.w) k g fd pn (spG X.K fr)) (hb : L2.Binds X.K fd pn []) (hr : Room (k + 1) X.A) (tk : L2N.Takes X W) (hmC : X.mg cn = some (.ref C))
    (ha : PSs X δ ⟨ps, rest⟩ (e :: es) rs) (hf : ∀ z, ∃ Rr, fr [(z, .ins C [])] (.ad z :: rs) Rr ∧ ∀ r os', Rr r os' → match r with | .ok r => r = .im .none ∧ R (.rt (.ad z) ⟨ps, os' ++ rest⟩) | .er Z => R (.ex Z ⟨ps, os' ++ rest⟩)) (hg : Gl X cn := by rfl) (hdb : (cn == ("__debug__" : Str)) = false := by decide) (he : starEach (e :: es) X.env = (false, eval e X.env) :: starEach es X.env := by rfl) (hpl : (backTo pos (starEach es X.env)).any (·.1) = false := by rfl) :
    EX X W T (.Call (.Name cn p) (e :: es) [] pos) δ ⟨ps, rest⟩ R := fun σ H rl t Q q q2 =>
  we (pe_makeS (E := WE W) M F hr hg hmC hb (fun σ => L2N.passAt tk σ) pa_w hdb he hpl) (ha σ H rl _ fun vs H1 s1 d1 z dx nz ndx ne => by
    have rl1 := rl.mono s1
    have sm : Same H1 (upd (upd H1 dx (.own z)) z (.ins C dx [])) := fun b o h => by
      rw [upd_ne (ne_of_none h nz), upd_ne (ne_of_none h ndx)]
      exact h
    have l0 : Rl X.K (upd (upd H1 dx (.own z)) z (.ins C dx [])) σ δ ⟨ps, [(z, .ins C [])] ++ rest⟩ := by
      refine ⟨rl1.len, fun i r hi => ?_, fun b o hz => ?_, ?_, there_mono rl1.ro.th sm⟩
      · obtain ⟨v, h1, h2⟩ := rl1.sl i r hi
        exact ⟨v, h1, sdv_mono (hid_in (ω := ⟨ps, rest⟩) nz sm) h2⟩
      · rcases List.mem_cons.mp hz with w | w
        · cases w
          exact ⟨dx, [], upd_same, .nil⟩
        · exact odv_mono (hid_in (ω := ⟨ps, rest⟩) nz sm) sm (rl1.ro.ob b o w)
      · show (z :: rest.map (·.1)).Nodup
        exact List.nodup_cons.mpr ⟨fun w => new_out rl1.ro.there nz (List.mem_append_right _ w), rl1.ro.nd⟩
    have st0 : Stp T ⟨ps, rest⟩ ⟨ps, [(z, .ins C [])] ++ rest⟩ H1 (upd (upd H1 dx (.own z)) z (.ins C dx [])) := stp_new (ω := ⟨ps, rest⟩) sm nz
    obtain ⟨Rr, hf1, hf2⟩ := hf z
    refine callG_end (T := T) (os := [(z, .ins C [])]) (rest := rest) (rs := .ad z :: rs) l0 (.cons rfl (L2.Paired.mapP d1 fun _ _ w => sdv_mono (hid_in (ω := ⟨ps, rest⟩) nz sm) w)) hf1 fun r os' H' hr st l => ?_
    have w := hf2 r os' hr
    cases r with
    | ok r =>
      intro v hv
      obtain ⟨rfl, w⟩ := w
      cases hv
      exact ⟨rfl, q _ _ _ H' w (((Stp.of s1).trans st0).trans st) l rfl⟩
    | er Z => exact q2 Z _ σ H' w (((Stp.of s1).trans st0).trans st) l.ro)
/-! ### the value, or what is raised, and the slots as they were -/
def YX (X : Cx) (W : WX) (T : List (Addr × Str)) (δ : De) (ω : Om) (e : Expr) (R : Rg → Om → Prop) : Prop := ∀ σ H, Rl X.K H σ δ ω → LamX.Tabs T H → ∀ Q : VK,
  (∀ r ω' v H', R (.ok r) ω' → Stp T ω ω' H H' → Rl X.K H' σ δ ω' → SdV X.K (hid (ads ω') H') r v → Q v H') → (∀ Z ω' H', R (.er Z) ω' → Stp T ω ω' H H' → Rl X.K H' σ δ ω' → W (.ref Z) none σ H') → wpe X e σ H Q
def ZE (X : Cx) (T : List (Addr × Str)) (δ : De) (ω : Om) (e : Expr) (R : PyData → Om → Prop) : Prop := ∀ σ H, Rl X.K H σ δ ω → LamX.Tabs T H → ∀ Q : VK, (∀ d ω' v H', R d ω' → Stp T ω ω' H H' → Rl X.K H' σ δ ω' → Dp X.K (hid (ads ω') H') v d → Q v H') → wpe X e σ H Q
def ZT (X : Cx) (T : List (Addr × Str)) (δ : De) (ω : Om) (e : Expr) (R : Bool → Om → Prop) : Prop := ∀ σ H, Rl X.K H σ δ ω → LamX.Tabs T H → ∀ Q : Bool → Hp → Prop, (∀ k ω' H', R k ω' → Stp T ω ω' H H' → Rl X.K H' σ δ ω' → Q k H') → wpt X e σ H Q
def ZW (X : Cx) (T : List (Addr × Str)) (δ : De) (ω : Om) (e : Expr) (R : Bool → Om → Prop) : Prop := ∀ σ H, Rl X.K H σ δ ω → LamX.Tabs T H → ∀ Q : Bool → Hp → Prop, (∀ k ω' H', R k ω' → Stp T ω ω' H H' → Rl X.K H' σ δ ω' → Q k H') → wpw X e σ H Q
theorem ZE.imp {R1 R2 : PyData → Om → Prop} (h : ZE X T δ ω e R1) (q : ∀ d ω', R1 d ω' → R2 d ω') : ZE X T δ ω e R2 := fun σ H rl t Q k => h σ H rl t Q fun d ω' v H' z => k d ω' v H' (q d ω' z)
theorem PD.ze {Z : PyData → Om → Prop} (h : PD X δ ω e d) (q : Z d ω) : ZE X T δ ω e Z := fun σ H rl t Q k => h σ H rl Q fun v H' s dv => k d ω v H' q (.of s) (rl.mono s) dv
theorem YE.ze {Z : PyData → Om → Prop} (h : YE X T δ ω e d ω1) (q : Z d ω1) : ZE X T δ ω e Z := fun σ H rl t Q k => h σ H rl t Q fun v H' s l dv => k d ω1 v H' q s l dv
theorem YX.ze {Z : PyData → Om → Prop} (h : YX X (fun _ _ _ _ => False) T δ ω e (fun r ω' => match r with | .ok (.im d) => Z d ω' | _ => False)) : ZE X T δ ω e Z := fun σ H rl t Q k => h σ H rl t Q (fun r ω' v H' z s l dv => by
    cases r with
    | im d => exact k d ω' v H' z s l dv
    | ad a => exact False.elim z) (fun Z ω' H' z _ _ => False.elim z)
theorem YX.ex {Rr : Rg → Om → Prop} (h : YX X W T δ ω e Rr) (q : ∀ r ω', Rr r ω' → match r with | .ok r => R (.rt r ω') | .er Z => R (.ex Z ω')) : EX X W T e δ ω R := fun σ H rl t Q k1 k2 => h σ H rl t Q (fun r ω' v H' z s l dv => k1 r ω' v H' (q _ _ z) s l dv) (fun Z ω' H' z s l => k2 Z ω' σ H' (q _ _ z) s l.ro)
theorem YX.imp {R1 R2 : Rg → Om → Prop} (h : YX X W T δ ω e R1) (q : ∀ r ω', R1 r ω' → R2 r ω') : YX X W T δ ω e R2 := fun σ H rl t Q k1 k2 => h σ H rl t Q (fun r ω' v H' z => k1 r ω' v H' (q _ _ z)) (fun Z ω' H' z => k2 Z ω' H' (q _ _ z))
theorem PTd.zt {k : Bool} {Z : Bool → Om → Prop} (h : PTd X δ ω e k) (q : Z k ω) : ZT X T δ ω e Z := fun σ H rl t Q kk => h σ H rl Q fun H' s => kk k ω H' q (.of s) (rl.mono s)
theorem ZW.zt {Z : Bool → Om → Prop} (h : ZW X T δ ω e Z) : ZT X T δ ω e Z := fun σ H rl t Q q => wt (PW.pt pw_w) (h σ H rl t Q q)
theorem zt_cmp {op : CmpOp} {r : R2} {Z : Bool → Om → Prop} (ho : OpR X (compareOp op) r) (ha : ZE X T δ ω a (fun da ω1 => ZE X T δ ω1 b (fun db ω2 => ∃ k, RD X.K r da db (.bool k) ∧ Z k ω2))) (hm : behindInMarks op b = false) : ZT X T δ ω (.Compare a [op] [b] pos) Z := fun σ H rl t Q q =>
  wt (pt_cmpR ho pe_w pe_w hm) (ha σ H rl t _ fun da ω1 x H1 hb s1 l1 d1 => hb σ H1 l1 (s1.tab t) _ fun db ω2 y H2 hr s2 l2 d2 => by
    obtain ⟨k, hr, z⟩ := hr
    exact hr _ x y H2 l2.ro.there (stp_sd (X := X) (r := .im da) s2 d1) d2 _ fun w H3 s3 d3 => by
      cases d3
      exact ⟨_, rfl, q k ω2 H3 z ((s1.trans s2).trans (.of s3)) (l2.mono s3)⟩)
theorem zt_not {Z : Bool → Om → Prop} (h : ZT X T δ ω e (fun k ω' => Z (!k) ω')) : ZT X T δ ω (.UnaryOp .Not e pos) Z := fun σ H rl t Q q => wt (pt_not pt_w) (h σ H rl t _ fun k ω' H1 z s1 l1 => q (!k) ω' H1 z s1 l1)
theorem zw_or1 {Z : Bool → Om → Prop} (h : ZT X T δ ω a Z) : ZW X T δ ω (.BoolOp .Or [a] pos) Z := fun σ H rl t Q q => ww (pw_or1 pt_w) (h σ H rl t Q q)
theorem zw_or {rr : List Expr} {Z : Bool → Om → Prop} (h : ZT X T δ ω a (fun k ω1 => (k = true → Z true ω1) ∧ (k = false → ZW X T δ ω1 (.BoolOp .Or (b :: rr) pos) Z))) : ZW X T δ ω (.BoolOp .Or (a :: b :: rr) pos) Z := fun σ H rl t Q q =>
  ww (pw_or pt_w pw_w) (h σ H rl t _ fun k ω1 H1 z s1 l1 => by
    cases k with
    | true => exact iteT (q true ω1 H1 (z.1 rfl) s1 l1)
    | false => exact iteF (z.2 rfl σ H1 l1 (s1.tab t) Q fun k2 ω2 H2 z2 s2 l2 => q k2 ω2 H2 z2 (s1.trans s2) l2))
theorem sd_ifZ (h : ZT X T δ ω c (fun k ω1 => (k = true → SD X W T sa δ ω1 (Nxt X W T ss R)) ∧ (k = false → SD X W T sb δ ω1 (Nxt X W T ss R)))) : SD X W T (.If c sa sb pos :: ss) δ ω R :=
  sd_cons fun σ H D rl t k => ws (ps_if pt_w pss_w pss_w) (h σ H rl t _ fun kk ω1 H' z s l => by
    cases kk with
    | true => exact iteT (z.1 rfl σ H' D l (s.tab t) (k.step s))
    | false => exact iteF (z.2 rfl σ H' D l (s.tab t) (k.step s)))
/-- if that is not so -/
theorem sd_ifZF (h : ZT X T δ ω c (fun k ω1 => k = false ∧ SD X W T ss δ ω1 R)) : SD X W T (.If c sa [] pos :: ss) δ ω R := sd_ifZ (fun σ H rl t Q q => h σ H rl t Q fun k ω' H' z => q k ω' H' ⟨fun e => (by rw [z.1] at e; cases e), fun _ => sd_nil z.2⟩)
theorem sd_setZ (i : Nat) {pos' : Pos} (he : ZE X T δ ω e (fun d ω1 => SD X W T ss (δ.set i (some (.im d))) ω1 R)) (hN : X.N.Nodup) (hi : X.N[i]? = some x := by rfl) (hx : Loc X.env.scope x := by first | exact Or.inl rfl | exact Or.inr rfl) (hs : swapsWith e (some (.Name x pos')) pos.line X.env = pure false := by rfl)
    (hf : X.fn x = true ∨ X.env.scope.names.lookup x = some .local := by first | exact .inl rfl | exact .inr rfl | assumption) : SD X W T (.Assign [.Name x pos'] e pos :: ss) δ ω R :=
  sd_cons (s1_set i (fun σ H rl t Q q _ => he σ H rl t Q fun d ω1 v H' z s l dv => q (.im d) ω1 v H' z s l dv) hN hi hx hs hf)
theorem sd_unpZ (is : List Nat) {ts : List Expr} {n kk : Nat} {p' : Pos} (he : ZE X T δ ω e (fun d ω1 => ∃ ds, d = .tuple ds ∧ ds.length = n ∧ SD X W T ss (setAll δ is ds) ω1 R)) (hg : PG X (.Tuple ts kk p') (gTup X.K n (gAll is))) (hi : is.length = n)
    (hs : swapsWithSole [.Tuple ts kk p'] e pos.line X.env = pure false := by rfl) (hw : swappedStores [.Tuple ts kk p'] e X.env = pure none := by rfl) : SD X W T (.Assign [.Tuple ts kk p'] e pos :: ss) δ ω R :=
  sd_cons fun σ H D rl t k => ws (ps_asg pe_w hg hs hw) (he σ H rl t _ fun d ω1 v H' z s l dv => by
    obtain ⟨ds, rfl, hn, hk⟩ := z
    cases dv with
    | tup h1 h2 => exact ⟨_, _, rfl, same_sqt hid_sub h1, by rw [dpa_len h2]; exact hn, gAll_ok l h2 (hi.trans hn.symm) fun σ' l2 => k.nx _ ω1 σ' H' hk s l2⟩)
/-- y.m(..), a method -/
theorem yx_methG (i : Nat) {Rr : Rg → Os → Prop} {ps : List Addr} (os rest : Os) {Z : Rg → Om → Prop} (G : GMOk X.prog X.w X.K X.mg X.base k C m fr) (hr : Room k X.A) (tk : L2N.Takes X W) (Cl : Cls X.K C) (hm : (z, Od.ins C fs) ∈ os ++ rest) (hl : (fs.map (·.1)).contains m = false) (ha : PSs X δ ⟨ps, os ++ rest⟩ (e :: es) rs) (hf : fr os (.ad z :: rs) Rr)
    (hR : ∀ r os', Rr r os' → Z r ⟨ps, os' ++ rest⟩) (hd : δ[i]? = some (some (.ad z)) := by rfl) (hN : X.N[i]? = some x := by rfl)
    (hv : Vis X.env.scope x := by first | exact Or.inl rfl | exact Or.inr (Or.inl rfl) | exact Or.inr (Or.inr rfl)) (h1 : (x == ("__debug__" : Str)) = false := by decide) (h2 : (x == ("__classdict__" : Str)) = false := by decide) {pl : Sem Bool}
    (hst : starEach (e :: es) X.env = (false, eval e X.env) :: starEach es X.env := by rfl) (hpl : (backTo pos (starEach es X.env)).any (·.1) = false := by rfl)
    (ht : MthAs X (.Name x p1) m apos pos (e :: es) pl := by rfl) : YX X W T δ ⟨ps, os ++ rest⟩ (.Call (.Attribute (.Name x p1) m apos) (e :: es) [] pos) Z := fun σ H rl t Q q q2 => by
  obtain ⟨f, fd, pn, F, M, b⟩ := G.ex
  obtain ⟨v, e1, e2⟩ := rl.sl i _ hd
  have e2 : v = .ref z := e2
  subst e2
  obtain ⟨dx, us, g1, g2⟩ := rl.ro.ob z _ hm
  have nl : us.lookup m = none := sfv_none g2 hl
  refine we (pe_mthS (pl := pl) (E := WE W) (pe_var hN hv h1 h2) Cl M F hr b (fun σ => L2N.passAt tk σ) pa_w hst hpl ht) ⟨_, e1, z, dx, us, rfl, g1, nl, ha σ H rl _ fun vs H1 s1 d1 => ?_⟩
  refine callG_end (T := T) (rs := .ad z :: rs) (rl.mono s1) (.cons rfl d1) hf fun r os' H' hr st l => ?_
  have w := hR r os' hr
  cases r with
  | ok r => exact fun v hv => q r _ v H' w ((Stp.of s1).trans st) l hv
  | er Z => exact q2 Z _ H' w ((Stp.of s1).trans st) l
theorem yx_methG0 (i : Nat) {Rr : Rg → Os → Prop} {ps : List Addr} (os rest : Os) {Z : Rg → Om → Prop} (G : GMOk X.prog X.w X.K X.mg X.base k C m fr) (hr : Room k X.A) (tk : L2N.Takes X W) (Cl : Cls X.K C) (hm : (z, Od.ins C fs) ∈ os ++ rest) (hl : (fs.map (·.1)).contains m = false) (hf : fr os [.ad z] Rr)
    (hR : ∀ r os', Rr r os' → Z r ⟨ps, os' ++ rest⟩) (hd : δ[i]? = some (some (.ad z)) := by rfl) (hN : X.N[i]? = some x := by rfl)
    (hv : Vis X.env.scope x := by first | exact Or.inl rfl | exact Or.inr (Or.inl rfl) | exact Or.inr (Or.inr rfl)) (h1 : (x == ("__debug__" : Str)) = false := by decide) (h2 : (x == ("__classdict__" : Str)) = false := by decide) {pl : Sem Bool}
    (ht : MthAs X (.Name x p1) m apos pos [] pl := by rfl) : YX X W T δ ⟨ps, os ++ rest⟩ (.Call (.Attribute (.Name x p1) m apos) [] [] pos) Z := fun σ H rl t Q q q2 => by
  obtain ⟨f, fd, pn, F, M, b⟩ := G.ex
  obtain ⟨v, e1, e2⟩ := rl.sl i _ hd
  have e2 : v = .ref z := e2
  subst e2
  obtain ⟨dx, us, g1, g2⟩ := rl.ro.ob z _ hm
  have nl : us.lookup m = none := sfv_none g2 hl
  refine we (pe_mthS0 (pl := pl) (E := WE W) (pe_var hN hv h1 h2) Cl M F hr b (fun σ => L2N.passAt tk σ) ht) ⟨_, e1, z, dx, us, rfl, g1, nl, ?_⟩
  refine callG_end (T := T) (rs := [.ad z]) rl (.cons rfl .nil) hf fun r os' H' hr st l => ?_
  have w := hR r os' hr
  cases r with
  | ok r => exact fun v hv => q r _ v H' w st l hv
  | er Z => exact q2 Z _ H' w st l
/-- C(..), an __init__ that makes objects -/
theorem yx_makeG {cn : Str} {g : Addr} {fd : FuncData} {pn : List Str} {ps : List Addr} {rest : Os} {Z : Rg → Om → Prop} (M : Mk X.K C g) (F : FnOk X.prog X.w X.K X.mg X.base (L2N.CX X.prog X.w) k g fd pn (spG X.K fr)) (hb : L2.Binds X.K fd pn []) (hr : Room (k + 1) X.A) (tk : L2N.Takes X W) (hmC : X.mg cn = some (.ref C))
    (ha : PSs X δ ⟨ps, rest⟩ (e :: es) rs) (hf : ∀ z, ∃ Rr, fr [(z, .ins C [])] (.ad z :: rs) Rr ∧ ∀ r os', Rr r os' → match r with | .ok r => r = .im .none ∧ Z (.ok (.ad z)) ⟨ps, os' ++ rest⟩ | .er U => Z (.er U) ⟨ps, os' ++ rest⟩) (hg : Gl X cn := by rfl) (hdb : (cn == ("__debug__" : Str)) = false := by decide) (he : starEach (e :: es) X.env = (false, eval e X.env) :: starEach es X.env := by rfl) (hpl : (backTo pos (starEach es X.env)).any (·.1) = false := by rfl) :
    YX X W T δ ⟨ps, rest⟩ (.Call (.Name cn p) (e :: es) [] pos) Z := fun σ H rl t Q q q2 =>
  we (pe_makeS (E := WE W) M F hr hg hmC hb (fun σ => L2N.passAt tk σ) pa_w hdb he hpl) (ha σ H rl _ fun vs H1 s1 d1 z dx nz ndx ne => by
    have rl1 := rl.mono s1
    have sm : Same H1 (upd (upd H1 dx (.own z)) z (.ins C dx [])) := fun b o h => by
      rw [upd_ne (ne_of_none h nz), upd_ne (ne_of_none h ndx)]
      exact h
    have l0 : Rl X.K (upd (upd H1 dx (.own z)) z (.ins C dx [])) σ δ ⟨ps, [(z, .ins C [])] ++ rest⟩ := by
      refine ⟨rl1.len, fun i r hi => ?_, fun b o hz => ?_, ?_, there_mono rl1.ro.th sm⟩
      · obtain ⟨v, h1, h2⟩ := rl1.sl i r hi
        exact ⟨v, h1, sdv_mono (hid_in (ω := ⟨ps, rest⟩) nz sm) h2⟩
      · rcases List.mem_cons.mp hz with w | w
        · cases w
          exact ⟨dx, [], upd_same, .nil⟩
        · exact odv_mono (hid_in (ω := ⟨ps, rest⟩) nz sm) sm (rl1.ro.ob b o w)
      · show (z :: rest.map (·.1)).Nodup
        exact List.nodup_cons.mpr ⟨fun w => new_out rl1.ro.there nz (List.mem_append_right _ w), rl1.ro.nd⟩
    have st0 : Stp T ⟨ps, rest⟩ ⟨ps, [(z, .ins C [])] ++ rest⟩ H1 (upd (upd H1 dx (.own z)) z (.ins C dx [])) := stp_new (ω := ⟨ps, rest⟩) sm nz
    obtain ⟨Rr, hf1, hf2⟩ := hf z
    refine callG_end (T := T) (os := [(z, .ins C [])]) (rest := rest) (rs := .ad z :: rs) l0 (.cons rfl (L2.Paired.mapP d1 fun _ _ w => sdv_mono (hid_in (ω := ⟨ps, rest⟩) nz sm) w)) hf1 fun r os' H' hr st l => ?_
    have w := hf2 r os' hr
    cases r with
    | ok r =>
      intro v hv
      obtain ⟨rfl, w⟩ := w
      cases hv
      exact ⟨rfl, q _ _ _ H' w (((Stp.of s1).trans st0).trans st) l rfl⟩
    | er Z => exact q2 Z _ H' w (((Stp.of s1).trans st0).trans st) l)
/-! ### own lists that stand somewhere -/
theorem pt_truA {xs : List Sd} {ad : Addr} (ha : PS1 X δ ω e (.ad ad)) (hm : (ad, Od.lst xs) ∈ ω.os) (he : ∀ whole, isTrue e X.env whole = (do let v ← whole; standAt e.pos; holding [v] (truthy v)) := by intro _; rfl) : PTd X δ ω e (!xs.isEmpty) := fun σ H r Q q =>
  wt (pt_truth pe_w he) (ha σ H r _ fun v H1 s1 d1 => by
    have d1 : v = .ref ad := d1
    subst d1
    obtain ⟨vs, g1, g2⟩ := (r.mono s1).ro.ob ad _ hm
    refine ⟨!xs.isEmpty, .inl ⟨vs, SqL.of g1, ?_⟩, q H1 s1⟩
    cases g2 <;> rfl)
theorem pd_any {bs : List Bool} (hc : X.calm = true) (hm : X.mg "any" = none) (ha : PL X δ ω a (bs.map .bool)) (hg : Gl X "any" := by rfl)
    (he : starEach [a] X.env = (false, eval a X.env) :: starEach [] X.env := by rfl) : PD X δ ω (.Call (.Name "any" p) [a] [] pos) (.bool (bs.any id)) := fun σ H rl Q k =>
  we (pe_callB (cr_any hc) hg hm (by decide +kernel) (pa_cons pe_w pa_nil he) (he := he)) (ha σ H rl _ fun q vs H1 s1 h1 d1 => by
    have ev : vs = bs.map V.bl := dpa_bl d1
    subst ev
    exact ⟨q, bs, rfl, h1, k _ H1 s1 (.bl _)⟩)
/-- o.append(e), o a list of one's own that stands somewhere -/
theorem sd_appS {ad : Addr} {xs : List Sd} {j : Nat} {apos cpos : Pos} (ho : PS1 X δ ω o (.ad ad)) (hm : ω.os[j]? = some (ad, .lst xs)) (he : PD X δ ω e d) (hk : SD X W T ss δ (putO ω j (ad, .lst (xs ++ [.im d]))) R) (hz : xs.length < 10000)
    (hs : swapsWith (.Call (.Attribute o "append" apos) [e] [] cpos) none pos.line X.env = pure false := by rfl)
    (hbase : attributeBase o "append" X.env (eval o X.env) = eval o X.env := by rfl)
    (hfew : ((backTo cpos (starEach [e] X.env)).all (fun x => !x.1) && (backToKw cpos (keywordEach [] X.env)).all (fun x => x.1.isSome)
      && decide (([e] : List Expr).length + ([] : List Keyword).length + (if ([] : List Keyword).isEmpty then 0 else 1) < 30)) = true := by rfl)
    (hline : (apos.endLine == cpos.line) = true := by rfl) (hst : starEach [e] X.env = (false, eval e X.env) :: starEach [] X.env := by rfl) :
    SD X W T (.Expr (.Call (.Attribute o "append" apos) [e] [] cpos) pos :: ss) δ ω R :=
  sd_cons fun σ H Dd rl t kt => ws (ps_expr (pe_bm PySem.F.plainAttrs_list PySem.F.slot_list_append PySem.F.type_list_append mt_append pe_w (pa_cons pe_w pa_nil hst) hbase hfew hline hst) hs) (ho σ H rl _ fun v H1 s1 d1 => by
    have d1 : v = .ref ad := d1
    subst d1
    obtain ⟨vs, e3, e4⟩ := (rl.mono s1).ro.ob ad _ (at_mem hm)
    refine ⟨.inl ⟨rfl, vs, SqL.of e3⟩, he σ H1 (rl.mono s1) _ fun y H2 s2 d2 => ⟨ad, vs, y, rfl, rfl, s2 ad _ e3, ?_, ?_⟩⟩
    · rw [paired_len e4]
      exact Nat.lt_of_lt_of_le hz (by rw [sizeLine_eq]; decide)
    · have l2 := rl.mono (s1.trans s2)
      have am : ad ∈ ads ω := List.mem_append_right _ (List.mem_map.mpr ⟨_, at_mem hm, rfl⟩)
      have hh : Same (hid (ads ω) H2) (hid (ads ω) (upd H2 ad (.lst (vs ++ [y])))) := fun bb o h => by
        obtain ⟨n, e⟩ := hid_out h
        exact hid_of n (by rw [upd_ne (fun q => n (by rw [q]; exact am))]; exact e)
      obtain ⟨st, l3⟩ := own_at (T := T) (o' := .lst (xs ++ [.im d])) (H' := upd H2 ad (.lst (vs ++ [y]))) l2 hm (s2 ad _ e3) (fun _ q => by cases q) (fun _ _ q => by unfold LamX.CodeO at q; cases q) (fun bb o nb h => by rw [upd_ne nb]; exact h) ⟨_, upd_same, paired_snoc (R := SdV X.K _) (x := Sd.im d) (y := y) (dpm hh d2) (L2.Paired.mapP e4 fun _ _ q => sdv_mono ((hid_same s2).trans hh) q)⟩
      exact kt.nx δ _ σ _ hk ((Stp.of (s1.trans s2)).trans st) l3)
/-- for x in a list of one's own -/
theorem sd_forO (j : Nat) {ad : Addr} {xs : List PyData} (inv : Nat → De → Om → Prop) (he : PS1 X δ ω iter (.ad ad)) (hm : (ad, Od.lst (xs.map .im)) ∈ ω.os) (h0 : inv 0 δ ω) (hin : ∀ i δ' ω', inv i δ' ω' → (ad, Od.lst (xs.map .im)) ∈ ω'.os)
    (hb : ∀ i d δ' ω', xs[i]? = some d → inv i δ' ω' → SD X W T sa (δ'.set j (some (.im d))) ω' (Turn1 inv i (Nxt X W T ss R) R))
    (hd : ∀ δ' ω', inv xs.length δ' ω' → SD X W T ss δ' ω' R) (hg : PG X tg (gName j)) (hp : PassesOwn (model X.prog X.w) X.A X.env X.xe) (hc : X.calm = true) (hs : ∀ x, foldedSetIterable iter X.env x = pure x := by intro _; rfl) : SD X W T (.For tg iter sa [] pos :: ss) δ ω R := by
  refine sd_cons fun σ H D rl t k => ws (ps_for hp hc (pi_list pe_w) hg pss_w hs) (he σ H rl _ fun v H1 s1 d1 => ?_)
  have d1 : v = .ref ad := d1
  subst d1
  obtain ⟨vs0, g0, _⟩ := (rl.mono s1).ro.ob ad _ hm
  refine ⟨ad, rfl, ⟨vs0, SqL.of g0⟩, ?_⟩
  refine ⟨fun i m σ' H' => ∃ δ' ω', m = xs.length - i ∧ i ≤ xs.length ∧ inv i δ' ω' ∧ Stp T ω ω' H1 H' ∧ Rl X.K H' σ' δ' ω', ⟨xs.length, δ, ω, by omega, Nat.zero_le _, h0, .refl, rl.mono s1⟩, ?_⟩
  rintro i m σ' H' ⟨δ', ω', em, hi, iv, st, rl'⟩
  obtain ⟨vs, g1, g2⟩ := rl'.ro.ob ad _ (hin i δ' ω' iv)
  have g3 := dpa_im g2
  have k1 := k.step (Stp.of s1 : Stp T ω ω H H1)
  by_cases hlt : i < xs.length
  · obtain ⟨y, ey, dy⟩ := dpa_get g3 (List.getElem?_eq_getElem hlt)
    refine .inr ⟨⟨vs, y, SqL.of g1, ey⟩, fun σ2 H2 => ∃ δ2 ω2, inv (i + 1) δ2 ω2 ∧ Stp T ω ω2 H1 H2 ∧ Rl X.K H2 σ2 δ2 ω2, fun σ2 H2 ⟨δ2, ω2, a1, a2, a3⟩ => ⟨xs.length - (i + 1), by omega, δ2, ω2, rfl, hlt, a1, a2, a3⟩, fun x H2 hy => ?_⟩
    obtain ⟨e2, e3⟩ := hy
    subst e2
    have e4 := e3 vs (SqL.of g1)
    rw [ey] at e4
    cases e4
    refine hb i _ δ' ω' (List.getElem?_eq_getElem hlt) iv _ _ _ (rl'.set (x := .im _) dy) (st.tab (t.ext s1)) ?_
    have k2 := k1.step st
    exact ⟨fun δ2 ω2 σ2 H2 z q l => ⟨δ2, ω2, z, st.trans q, l⟩, fun r ω2 v H2 z q l dv => k2.rt r ω2 v H2 z q l dv, fun C ω2 σ2 H2 z q l => k2.ex C ω2 σ2 H2 z q l, fun δ2 ω2 σ2 H2 z q l => k2.nx δ2 ω2 σ2 H2 z q l, fun δ2 ω2 σ2 H2 z q l => ⟨δ2, ω2, z, st.trans q, l⟩⟩
  · have e : i = xs.length := by omega
    subst e
    exact .inl ⟨⟨vs, SqL.of g1, Nat.le_of_eq (dpa_len g3)⟩, (k1.step st).nx δ' ω' σ' H' (hd δ' ω' iv) .refl rl'⟩
/-- a if c else b, whatever they are -/
theorem ex_if {kk : Bool} (h : PTd X δ ω c kk) (h1 : kk = true → EX X W T a δ ω R) (h2 : kk = false → EX X W T b δ ω R) : EX X W T (.IfExp c a b pos) δ ω R := fun σ H rl t Q q q2 =>
  we (pe_ifExp pt_w pe_w pe_w) (h σ H rl _ fun H1 s1 => by
    have go : EX X W T a δ ω R → wpe X a σ H1 Q := fun g => g σ H1 (rl.mono s1) (t.ext s1) Q (fun r ω' v H' z st l dv => q r ω' v H' z ((Stp.of s1).trans st) l dv) (fun C ω' σ' H' z st l => q2 C ω' σ' H' z ((Stp.of s1).trans st) l)
    have go2 : EX X W T b δ ω R → wpe X b σ H1 Q := fun g => g σ H1 (rl.mono s1) (t.ext s1) Q (fun r ω' v H' z st l dv => q r ω' v H' z ((Stp.of s1).trans st) l dv) (fun C ω' σ' H' z st l => q2 C ω' σ' H' z ((Stp.of s1).trans st) l)
    cases kk with
    | true => exact iteT (go (h1 rfl))
    | false => exact iteF (go2 (h2 rfl)))
end
end FP

namespace FP
open PySem PySem.Spec PyProof.Rows L2 HotX L2H
section
variable {X : Cx} {T : List (Addr × Str)} {δ : De} {ω : Om} {d : PyData} {pos p : Pos} {k : Nat}
theorem ze_told {Rz : PyData → Om → Prop} {x a e n wd : Str} {st : Stmt} {Ng : List Str} {CS : Addr} {fw : Addr → PyData → Prop} {p1 p2 p3 p4 p5 p6 p7 p8 p9 p10 lpos : Pos} {params : Arguments} {body : Expr} {scope : Scope} (G : Told X.K X.mg x st) (L : LamT X T) (hT : T ≠ []) (hps : ω.ps = []) (hr : Room (k + 2) X.A)
    (WK : WordOk X.prog X.w X.K X.mg X.base (k + 1) wd fw)
    (hst : defBody st = [.Try [.Return (some (.Call (.Name a p1) [] [] p2)) p3] [.ExceptHandler (some (.Name e p4)) (some n) [.Return (some (.Call (.Name wd p5) [.Name n p6] [] p7)) p8] p9] [] [] p10]) (S : FnScope Ng [a] (defScope st)) (hNd : Ng.Nodup) (hNg : Ng[0]? = some a) (hva : Vis (defScope st) a)
    (hN1 : Ng[1]? = some n) (hkn : (defScope st).names.lookup n = some .local) (hge : (defScope st).names.lookup e = some .globalImplicit) (hgw : (defScope st).names.lookup wd = some .globalImplicit) (hme : X.mg e = some (.ref CS))
    (hbn : ∀ (kV doc pm : Value) (an : Option Addr) (cdv ct : Value) (us : List Value), us.length = [a].length → bindArgs (PySem.W.fnOf x x (defArgs st) (defBody st) (defScope st) .none kV doc pm an cdv ct) ⟨us, []⟩ = pure ([a].zip us))
    (hb : ∀ (A : Around) (outer : List Env) (s : Shared) (H : Hp) (E : XK) (f c' : Addr), Room k (A.deeper (LamX.lamEnv X scope s.heap.objs.size f c')) → YX (lamN X A outer s H E scope f c') (WOf E) T δ ω body (fun r ω1 => match r with | .ok (.im d) => Rz d ω1 | .ok (.ad _) => False | .er Z => PySem.W.exmOne X.K (.ref Z) (.ref CS) = some true ∧ ∃ d, fw Z d ∧ Rz d ω1))
    (hL : LamX.LamS X.env.scope scope) (hdef : defaultsOf params X.env = ([], []) := by rfl) (hbind : ∀ (q : Str) (cl : List (Str × Addr)) (pm cv ctv : Value), bindArgs (PySem.W.kla_fn "<lambda>" q params body scope cl pm cv ctv) ⟨[], []⟩ = pure [] := by intros; rfl)
    (hg : Gl X x := by rfl) (hdb : (x == ("__debug__" : Str)) = false := by decide) (hd1 : (a == ("__debug__" : Str)) = false := by decide) (hcd1 : (a == ("__classdict__" : Str)) = false := by decide) (hde : (e == ("__debug__" : Str)) = false := by decide) (hdw : (wd == ("__debug__" : Str)) = false := by decide)
    (hdn : (n == ("__debug__" : Str)) = false := by decide) (hcn : (n == ("__classdict__" : Str)) = false := by decide) : ZE X T δ ω (.Call (.Name x p) [.Lambda params body scope lpos] [] pos) Rz := fun σ H rl tb Q q => by
  obtain ⟨g, fd, F, hm⟩ := G.ex
  obtain ⟨c, P, TB, hcode, hmT, hu⟩ := L.ex
  have hbs := FunD.bindsN (ps := [a]) F hbn
  have kp := F.kp
  obtain ⟨oc, od, dV, kV, doc, pm, an, cdv, ct, osl, rfl, lk, hcd, hD, hK⟩ := F.ex
  unfold wpe
  intro pins s I
  refine wpAny_Call_Name_kw (ld_glob I hg hm ?_ hdb)
  refine PySem.W.callWith_K (h₀ := X.base) I.ok.mod.kin kp ?_ (by rfl) (by rfl)
  show wpAny _ _ (spliced ((false, eval (.Lambda params body scope lpos) X.env) :: backTo pos (starEach [] X.env))) _ _ s
  refine Calls.spliced_cons (LamX.lam_make2 I TB hcode hmT hu tb hdef (hL.has I.ok) fun f c' pm' ctv H1 s' I1 eN T1 hf hfn hfr hco => Calls.spliced_nil ⟨I1.kIn, ?_⟩)
  have rl1 : Rl X.K H1 σ δ ω := rl_ext (T := T) eN hps rl
  have st0 : Stp T ω ω H H1 := ⟨fun b o h _ p => eN b o h (p.resolve_left hT), fun a h => .inl h, rfl, fun _ => T1⟩
  have done : ∀ d ω1 v H2, Rz d ω1 → Stp T ω ω1 H1 H2 → Rl X.K H2 σ δ ω1 → Dp X.K (hid (ads ω1) H2) v d → Q v H2 := fun d ω1 v H2 z s2 l2 d2 => q d ω1 v H2 z (st0.trans s2) l2 d2
  refine wpAny_call (codeAny_mono (R := CR C8.CX0 X.stack X.prog X.w H1 s' Q C8.E0) (LamX.run_ofS (N := Ng) (ps := [a]) (us := [.ref f]) (vs := [.ref f]) lk hcd S hr I1.env0 (hbs s' [.ref f] I1.kIn rfl) (.cons rfl .nil) rfl fun hr' => ?_) fun rr s2 z => ?_)
  · rw [hst]
    -- the def's own context
    have tryW := L2N.ps_try_as (X := (cxOf C8.CX0 X.prog X.w X.K X.mg X.base Ng x (defScope st) g cdv X.A X.stack s' H1 C8.E0).nox) (x := e) (n := n) (c := .ref CS) (i := 1) (np := p4) (pos := p10) (pos' := p9) (b₀ := .Return (some (.Call (.Name wd p5) [.Name n p6] [] p7)) p8) (suite := [])
      (body := [.Return (some (.Call (.Name a p1) [] [] p2)) p3]) (Wout := fun _ _ _ _ => False)
      (tb := fun W D τ G => τ[0]? = some (some (.ref f)) ∧ G c' = some (LamX.CodeO c' (X.env.qual ++ "<lambda>")) ∧ ∀ (A : Around) (outer : List Env) (t : Shared), Room k (A.deeper (LamX.lamEnv X scope t.heap.objs.size f c')) → wpe (lamN X A outer t G (WE W τ) scope f c') body σ G D.rt)
      (ts := fun b cls dd D τ G => ∃ C d ω1, cls = .ref C ∧ dd = none ∧ fw C d ∧ τ[1]? = some (some (.ref b)) ∧ (∀ a ∈ ads ω1, G a ≠ none) ∧ ∀ v G', Same G G' → Dp X.K (hid (ads ω1) G') v d → D.rt v G')
      rfl rfl hNd hN1 hkn ⟨hge, hde, .inl hme⟩ takesF
      (fun W pn xe tk _ => pss_one (ps_ret (pe_lamN (X := X) (Z := ((cxOf C8.CX0 X.prog X.w X.K X.mg X.base Ng x (defScope st) g cdv X.A X.stack s' H1 C8.E0).nox).tr pn xe) rfl rfl rfl rfl rfl rfl rfl rfl rfl I1 hL hf hfn hfr (hbind _ _ _ _ _) tk hr' hNg hva hd1 hcd1)))
      (fun b oe cls dd pn hz hfd => ⟨fun pins2 s2 τ G D J h => ?_⟩)
    · refine ⟨_, (pss_one tryW).nox, ?_⟩
      refine ⟨rfl, hco, fun A outer t hr2 => ?_⟩
      refine hb A outer t H1 _ f c' hr2 σ H1 rl1 T1 Q (fun r ω1 v H2 z s2 l2 dv => ?_) (fun C ω1 H2 z s2 l2 => ?_)
      · cases r with
        | im d => exact done d ω1 v H2 z s2 l2 dv
        | ad _ => exact False.elim z
      · obtain ⟨hx, d, hfw, z⟩ := z
        exact ⟨true, hx, fun _ b nb => ⟨C, d, ω1, rfl, rfl, hfw, by
          rw [List.getElem?_set_self]
          unfold L2.start
          have := (List.getElem?_eq_some_iff.mp hN1).1
          simp
          omega, l2.ro.there, fun v G' s3 dv => done d ω1 v G' z (s2.trans (.of s3)) (l2.mono s3) dv⟩, fun z => by cases z⟩
    · obtain ⟨C, d, ω1, rfl, rfl, hfw, h1, h2, h3⟩ := h
      obtain ⟨vs, hv⟩ := hfd
      have pw := pe_word (X := ((cxOf C8.CX0 X.prog X.w X.K X.mg X.base Ng x (defScope st) g cdv X.A X.stack s' H1 C8.E0).nox).suite b ((b, oe) :: pn)) (q := (b, oe)) (i := 1) (p5 := p5) (p6 := p6) (p7 := p7) WK ⟨(roomH_of hr').dp, (roomH_of hr').un⟩ ⟨rfl, vs, hv, hz.2.2 vs hv⟩ List.mem_cons_self hz.1 hz.2.1 hfw hgw hN1 (.inl hkn) hdw hdn hcn
      exact (pss_one (ps_ret (pos := p8) pw)).run pins2 s2 τ G D J ⟨h1, ads ω1, h2, h3⟩
  · cases rr with
    | error e => exact False.elim z
    | ok fl =>
      cases fl with
      | ret u => exact I1.after z
      | next => exact False.elim z
      | brk => exact False.elim z
      | cont => exact False.elim z
end
/-! ### [elt for tg in iter if c] -/
def pick (sel : List (Option PyData)) : List PyData := sel.filterMap id
theorem pick_snoc {sel : List (Option PyData)} {i : Nat} {s : Option PyData} (h : sel[i]? = some s) : pick (sel.take (i + 1)) = pick (sel.take i) ++ s.toList := by
  unfold pick
  rw [List.take_add_one, h, List.filterMap_append]
  cases s <;> rfl
theorem pick_len (sel : List (Option PyData)) : (pick sel).length ≤ sel.length := List.length_filterMap_le _ _
section
variable {X : Cx} {W : WX} {T : List (Addr × Str)} {δ : De} {ω : Om} {a b c e tg iter : Expr} {es : List Expr} {d : PyData} {ds : List PyData} {pos p : Pos} {R : Out → Prop} {ss : List Stmt} {x : Str}
theorem lc_dataIf {σ : L2.St} {H : Hp} {Q : VK} {wi : TI} {j : Nat} {te : TE} {tt : TT} {items : List PyData} {sel : List (Option PyData)} (rl : Rl X.K H σ δ ω)
    (hw : ∀ R : It → Hp → Prop, (∀ J H', Same H H' → Wk X.K (Same H') (hid (ads ω) H') J items → R J H') → wi σ H R) (hl : sel.length = items.length) (hz : items.length ≤ 10000)
    (ht : ∀ (i : Nat) (d : PyData) (s : Option PyData), items[i]? = some d → sel[i]? = some s → ∀ D o σ' H', Rl X.K H' σ' (δ.set j (some (.im d))) (omD ω D o) → ∀ Q : Bool → Hp → Prop, (∀ H2, Same H' H2 → Q s.isSome H2) → tt σ' H' Q)
    (he : ∀ (i : Nat) (d y : PyData), items[i]? = some d → sel[i]? = some (some y) → ∀ D o σ' H', Rl X.K H' σ' (δ.set j (some (.im d))) (omD ω D o) → ∀ Q : VK, (∀ v H2, Same H' H2 → Dp X.K (hid (ads (omD ω D o)) H2) v y → Q v H2) → te σ' H' Q)
    (k : ∀ p vs H', Same H H' → H p = none → H' p = some (.lst vs) → DpAll X.K (hid (p :: ads ω) H') vs (pick sel) → Q (.ref p) H') :
    tLc wi (gName j) tt te [j] σ H Q := by
  refine hw _ fun J H1 s1 w => fun D hD => ?_
  have rl1 := rl.mono s1
  refine ⟨fun i m H2 => m = items.length - i ∧ i ≤ items.length ∧ Same H1 H2 ∧ ∃ vs, H2 D = some (.lst vs) ∧ DpAll X.K (hid (ads (FP.omD ω D (.lst ((pick (sel.take i)).map .im)))) H2) vs (pick (sel.take i)), ⟨items.length, by omega, Nat.zero_le _, same_new hD, [], upd_same, ?_⟩, ?_⟩
  · rw [List.take_zero]
    exact .nil
  rintro i m H2 ⟨em, hi, s2, vs, hv, dv⟩
  obtain ⟨go, stop, yld⟩ := w H2 s2
  by_cases hlt : i < items.length
  · refine .inr ⟨go i hlt, fun H3 => Same H1 H3 ∧ ∃ vs, H3 D = some (.lst vs) ∧ DpAll X.K (hid (ads (FP.omD ω D (.lst ((pick (sel.take (i + 1))).map .im)))) H3) vs (pick (sel.take (i + 1))), fun H3 ⟨s3, h3⟩ => ⟨items.length - (i + 1), by omega, rfl, hlt, s3, h3⟩, fun x H3 hy => ?_⟩
    obtain ⟨e3, d, ed, dx⟩ := yld i x H3 hlt hy
    subst e3
    have hys : i < sel.length := by omega
    have ey : sel[i]? = some sel[i] := List.getElem?_eq_getElem hys
    show wipe (((wipe σ [j])).set j (some x)) [j] = wipe σ [j] ∧ _
    have ew : wipe σ [j] = σ.set j none := rfl
    refine ⟨?_, ?_⟩
    · show (((σ.set j none).set j (some x)).set j none) = σ.set j none
      rw [List.set_set, List.set_set]
    show tt (((wipe σ [j])).set j (some x)) H3 _
    rw [ew, List.set_set]
    have rl3 := (rl1.omD hD s2 hv dv)
    have rl4 := rl3.set (i := j) (x := .im d) (v := x) (dpm (hid_in hD s2) dx)
    generalize hsel : sel[i] = sv at ey
    refine ht i d sv ed ey D _ _ _ rl4 _ fun H4 s4 => ?_
    cases sv with
    | none =>
      refine iteF ⟨s2.trans s4, vs, s4 D _ hv, ?_⟩
      rw [pick_snoc ey]
      show DpAll _ _ vs (pick (sel.take i) ++ [])
      rw [List.append_nil]
      exact dpam (hid_same s4) dv
    | some y =>
      refine iteT (he i d y ed ey D _ _ _ (rl4.mono s4) _ fun v H5 s5 d5 => ⟨vs, s5 D _ (s4 D _ hv), ?_, same_upd_new hD ((s2.trans s4).trans s5), vs ++ [v], upd_same, ?_⟩)
      · rw [dpa_len dv]
        refine Nat.lt_of_le_of_lt (pick_len _) ?_
        rw [List.length_take]
        refine Nat.lt_of_le_of_lt (Nat.min_le_left _ _) (Nat.lt_of_lt_of_le hlt (Nat.le_trans hz ?_))
        rw [sizeLine_eq]
        decide
      · rw [pick_snoc ey]
        exact dpa_app (dpam hid_upd (dpam (hid_same (s4.trans s5)) dv)) (.cons (dpm hid_upd d5) .nil)
  · have e : i = items.length := by omega
    subst e
    refine .inl ⟨stop, ?_⟩
    rw [List.take_of_length_le (by omega)] at dv
    exact k D vs H2 (s1.trans s2) (s1.free hD) hv (dpam (hid_more fun b h => ads_omD.mpr (List.mem_cons.mp h)) dv)
def tBlkT (X : Cx) (scope : Scope) (c : Expr) : TT := fun σ H Q => ∀ (s : Shared) (H0 : Hp) (C : Addr) (cl : List (Str × Addr)) (fp : List Addr), wpt (X.blk s H0 scope (compEnvC scope cl C X.env) fp) c σ H Q
theorem pts_blk {scope : Scope} {c : Expr} (s : Shared) (H0 : Hp) (C : Addr) (cl : List (Str × Addr)) (fp : List Addr) : PTs (X.blk s H0 scope (compEnvC scope cl C X.env) fp) [c] (tBlkT X scope c) := pts_one ⟨fun pins s' σ H Q I h => pt_w.run pins s' σ H Q I (h s H0 C cl fp)⟩
theorem pn_lcIf {elt : Expr} {scope : Scope} {y : Str} {j : Nat} {items : List PyData} {sel : List (Option PyData)} (hc : X.calm = true) (hN : X.N.Nodup) (hw : PWs X δ ω tg iter items) (hl : sel.length = items.length) (ok : BlkOk X.N X.env.scope scope [(y, j)])
    (hg : ∀ (s : Shared) (H : Hp) (C : Addr) (cl : List (Str × Addr)) (fp : List Addr), PG (X.blk s H scope (compEnvC scope cl C X.env) fp) tg (gName j))
    (ht : ∀ (i : Nat) (d : PyData) (s : Option PyData), items[i]? = some d → sel[i]? = some s → ∀ D o (sh : Shared) (H : Hp) (C : Addr) (cl : List (Str × Addr)) (fp : List Addr), PTd (X.blk sh H scope (compEnvC scope cl C X.env) fp) (δ.set j (some (.im d))) (omD ω D o) c s.isSome)
    (he : ∀ (i : Nat) (d y : PyData), items[i]? = some d → sel[i]? = some (some y) → ∀ D o (s : Shared) (H : Hp) (C : Addr) (cl : List (Str × Addr)) (fp : List Addr), PD (X.blk s H scope (compEnvC scope cl C X.env) fp) (δ.set j (some (.im d))) (omD ω D o) elt y)
    (hz : items.length ≤ 10000) (hs : ∀ x, foldedSetIterable iter X.env x = pure x := by intro _; rfl) : PN X δ ω (.ListComp elt [⟨tg, iter, [c], 0⟩] scope pos) (pick sel) := fun σ H rl Q k => by
  obtain ⟨wi, h1, h2⟩ := hw
  refine we (pe_lc (own := [(y, j)]) hc hN h1 ok hg (fun s H0 C cl fp => pts_blk s H0 C cl fp) (fun s H0 C cl fp => pe_blk s H0 C cl fp) hs) ?_
  exact lc_dataIf rl (fun R kk => h2 σ H rl R kk) hl hz (fun i d sv hd hy D o σ' H' rl' Q' k' s H0 C cl fp => ht i d sv hd hy D o s H0 C cl fp σ' H' rl' Q' k') (fun i d y hd hy D o σ' H' rl' Q' k' s H0 C cl fp => he i d y hd hy D o s H0 C cl fp σ' H' rl' Q' k') k
/-- x = [elt for tg in iter if c], a list of one's own -/
theorem sd_ownLcIf (i : Nat) {py cpos : Pos} {elt : Expr} {scope : Scope} {y : Str} {j : Nat} {items : List PyData} {sel : List (Option PyData)} (hc : X.calm = true) (hN : X.N.Nodup) (hw : PWs X δ ω tg iter items) (hl : sel.length = items.length) (ok : BlkOk X.N X.env.scope scope [(y, j)])
    (hg : ∀ (s : Shared) (H : Hp) (C : Addr) (cl : List (Str × Addr)) (fp : List Addr), PG (X.blk s H scope (compEnvC scope cl C X.env) fp) tg (gName j))
    (ht : ∀ (i : Nat) (d : PyData) (s : Option PyData), items[i]? = some d → sel[i]? = some s → ∀ D o (sh : Shared) (H : Hp) (C : Addr) (cl : List (Str × Addr)) (fp : List Addr), PTd (X.blk sh H scope (compEnvC scope cl C X.env) fp) (δ.set j (some (.im d))) (omD ω D o) c s.isSome)
    (he : ∀ (i : Nat) (d y : PyData), items[i]? = some d → sel[i]? = some (some y) → ∀ D o (s : Shared) (H : Hp) (C : Addr) (cl : List (Str × Addr)) (fp : List Addr), PD (X.blk s H scope (compEnvC scope cl C X.env) fp) (δ.set j (some (.im d))) (omD ω D o) elt y)
    (hz : items.length ≤ 10000) (hk : ∀ D, SD X W T ss (δ.set i (some (.ad D))) (omD ω D (.lst ((pick sel).map .im))) R) (hsw : swapsWith (.ListComp elt [⟨tg, iter, [c], 0⟩] scope cpos) (some (.Name x py)) pos.line X.env = pure true := by rfl)
    (hy : X.N[i]? = some x := by rfl) (hyl : X.env.scope.names.lookup x = some .local := by rfl) (hs : ∀ x, foldedSetIterable iter X.env x = pure x := by intro _; rfl) : SD X W T (.Assign [.Name x py] (.ListComp elt [⟨tg, iter, [c], 0⟩] scope cpos) pos :: ss) δ ω R := by
  obtain ⟨wi, h1, h2⟩ := hw
  refine sd_cons fun σ H D rl t k => ws (ps_setLc (i := i) (own := [(y, j)]) hc hN hy hyl hsw h1 ok hg (fun s H0 C cl fp => pts_blk s H0 C cl fp) (fun s H0 C cl fp => pe_blk s H0 C cl fp) hs) ?_
  refine lc_dataIf rl (fun R kk => h2 σ H rl R kk) hl hz (fun i d sv hd hy D o σ' H' rl' Q' k' s H0 C cl fp => ht i d sv hd hy D o s H0 C cl fp σ' H' rl' Q' k') (fun i d y hd hy D o σ' H' rl' Q' k' s H0 C cl fp => he i d y hd hy D o s H0 C cl fp σ' H' rl' Q' k') (fun q vs H' s n hv dv => ?_)
  have rl2 : Rl X.K H' σ δ (omD ω q (.lst ((pick sel).map .im))) := rl.omD n s hv (dpam (hid_more fun b h => List.mem_cons.mpr (ads_omD.mp h)) dv)
  exact k.nx _ _ _ H' (hk q) (stp_new s n) (rl2.set (x := .ad q) (v := .ref q) rfl)
end
end FP

namespace FP
open PySem PySem.Spec PyProof.Rows L2 HotX L2H
theorem call_str_bool {X : Cx} : CallR X (.type "str") (fun xs H Q => ∃ b, xs = [.bl b] ∧ Q (.str (if b then "True" else "False")) H) := by
  intro pins s σ H xs us Q I r h
  obtain ⟨b, rfl, q⟩ := h
  obtain ⟨u, rfl, r1⟩ := vals1 r
  cases r1
  exact PySem.P.str_of_bool ⟨.str _, H, I.tok _, ⟨_, rfl⟩, q⟩
def boolS (b : Bool) : Str := if b then "True" else "False"
/-- an own object at the end -/
abbrev omB (ω : Om) (D : Addr) (o : Od) : Om := ⟨ω.ps, ω.os ++ [(D, o)]⟩
section
variable {X : Cx} {W : WX} {T : List (Addr × Str)} {δ : De} {ω ω1 : Om} {a b c e o iter tg : Expr} {es : List Expr} {d : PyData} {ds : List PyData} {r : Sd} {rs : List Sd} {pos p p1 apos : Pos} {R : Out → Prop} {ss sa sb : List Stmt} {x m : Str} {k : Nat} {Z : PyData → Om → Prop}
theorem ze_strB (h : ZE X T δ ω a (fun da ω' => ∃ b, da = .bool b ∧ Z (.str (boolS b)) ω')) (hm : X.mg "str" = none) (hg : Gl X "str" := by rfl) (he : starEach [a] X.env = (false, eval a X.env) :: starEach [] X.env := by rfl) : ZE X T δ ω (.Call (.Name "str" p) [a] [] pos) Z := fun σ H rl t Q q =>
  we (pe_callTy call_str_bool hg hm (by decide +kernel) (pa_cons pe_w pa_nil he) (he := he)) (h σ H rl t _ fun da ω' v H1 z s1 l1 d1 => by
    obtain ⟨b, rfl, z⟩ := z
    cases d1
    exact ⟨b, rfl, q _ ω' _ H1 z s1 l1 (.str _)⟩)
theorem pd_strB {b : Bool} (h : PD X δ ω a (.bool b)) (hm : X.mg "str" = none) (hg : Gl X "str" := by rfl) (he : starEach [a] X.env = (false, eval a X.env) :: starEach [] X.env := by rfl) : PD X δ ω (.Call (.Name "str" p) [a] [] pos) (.str (boolS b)) := fun σ H rl Q q =>
  we (pe_callTy call_str_bool hg hm (by decide +kernel) (pa_cons pe_w pa_nil he) (he := he)) (h σ H rl _ fun v H1 s1 d1 => by
    cases d1
    exact ⟨b, rfl, q _ H1 s1 (.str _)⟩)
theorem ze_ixT (ha : ZE X T δ ω a (fun da ω1 => ∃ ds i d, da = .tuple ds ∧ PD X δ ω1 b (.int i) ∧ atI ds i = some d ∧ Z d ω1)) (hs : PlainIx b := by exact fun _ _ => rfl) : ZE X T δ ω (.Subscript a b pos) Z := fun σ H rl t Q q =>
  we (pe_ix ix_tup pe_w pe_w hs) (ha σ H rl t _ fun da ω1 v H1 z s1 l1 d1 => by
    obtain ⟨ds, i, d, rfl, hb, hi, z⟩ := z
    refine hb σ H1 l1 _ fun y H2 s2 d2 => ?_
    cases d2
    cases d1 with
    | tup g1 g2 =>
      obtain ⟨u, h1, h2⟩ := atI_dp g2 hi
      exact ⟨_, _, _, u, rfl, rfl, same_sqt s2 (same_sqt hid_sub g1), h1, q d ω1 u H2 z (s1.trans (.of s2)) (l1.mono s2) (dpm (hid_same s2) h2)⟩)
theorem rd_isntB {K : PySem.W.Frag} {a b : Bool} : RD K (fun x y H Q => ∃ a b, x = .bl a ∧ y = .bl b ∧ Q (.bl (!decide (a = b))) H) (.bool a) (.bool b) (.bool (!decide (a = b))) := fun ps x y H _ hx hy Q q => by
  cases hx
  cases hy
  exact ⟨a, b, rfl, rfl, q _ H (Same.refl H) (.bl _)⟩
theorem rd_isB {K : PySem.W.Frag} {a b : Bool} : RD K (fun x y H Q => ∃ a b, x = .bl a ∧ y = .bl b ∧ Q (.bl (decide (a = b))) H) (.bool a) (.bool b) (.bool (decide (a = b))) := fun ps x y H _ hx hy Q q => by
  cases hx
  cases hy
  exact ⟨a, b, rfl, rfl, q _ H (Same.refl H) (.bl _)⟩
/-! ### a comprehension whose elements write -/
theorem Rl.keep {H H' : Hp} {σ : L2.St} {ω ω' : Om} (rl : Rl X.K H σ δ ω) (st : Stp T ω ω' H H') (ro : Ro X.K H' ω') : Rl X.K H' σ δ ω' := ⟨rl.len, fun i r hi => by
  obtain ⟨v, h1, h2⟩ := rl.sl i r hi
  exact ⟨v, h1, stp_sd (X := X) st h2⟩, ro⟩
theorem Rl.permO {H : Hp} {σ : L2.St} {ps : List Addr} {os os' : Os} (hp : os.Perm os') (rl : Rl X.K H σ δ ⟨ps, os⟩) : Rl X.K H σ δ ⟨ps, os'⟩ := by
  have hma : ∀ a, a ∈ os.map (·.1) ↔ a ∈ os'.map (·.1) := fun a => (hp.map _).mem_iff
  have hh : hid (ads ⟨ps, os⟩) H = hid (ads ⟨ps, os'⟩) H := by
    funext b
    unfold hid
    have e : b ∈ ads ⟨ps, os⟩ ↔ b ∈ ads ⟨ps, os'⟩ := by
      show b ∈ ps ++ os.map (·.1) ↔ b ∈ ps ++ os'.map (·.1)
      rw [List.mem_append, List.mem_append, hma]
    by_cases h : b ∈ ads ⟨ps, os⟩
    · rw [if_pos h, if_pos (e.mp h)]
    · rw [if_neg h, if_neg (fun z => h (e.mpr z))]
  refine ⟨rl.len, fun i r hi => ?_, fun z o hz => ?_, (hp.map _).nodup rl.ro.nd, rl.ro.th⟩
  · obtain ⟨v, h1, h2⟩ := rl.sl i r hi
    rw [hh] at h2
    exact ⟨v, h1, h2⟩
  · have g := rl.ro.ob z o (hp.mem_iff.mpr hz)
    rw [hh] at g
    exact g
theorem stp_perm {H H' : Hp} {ps : List Addr} {os os' : Os} {ω : Om} (hp : os.Perm os') (st : Stp T ω ⟨ps, os⟩ H H') : Stp T ω ⟨ps, os'⟩ H H' := ⟨st.keep, fun a ha => st.new a ((hp.map _).mem_iff.mpr ha), st.ps, st.tab⟩
theorem lc_X {σ : L2.St} {H : Hp} {Q : VK} {wi : TI} {j : Nat} {te : TE} {items ys : List PyData} {ωs : Nat → Om} (rl : Rl X.K H σ δ (ωs 0)) (tb : LamX.Tabs T H)
    (hw : ∀ R : It → Hp → Prop, (∀ J H', Same H H' → (∀ T, Wk X.K (Ke T (hid (ads (ωs 0)) H')) (hid (ads (ωs 0)) H') J items) → R J H') → wi σ H R) (hl : ys.length = items.length) (hz : items.length ≤ 10000)
    (he : ∀ (i : Nat) (d y : PyData), items[i]? = some d → ys[i]? = some y → ∀ D o σ' H', Rl X.K H' σ' (δ.set j (some (.im d))) (omB (ωs i) D o) → LamX.Tabs T H' → ∀ Q : VK, (∀ v H2, Stp T (omB (ωs i) D o) (omB (ωs (i + 1)) D o) H' H2 → Rl X.K H2 σ' (δ.set j (some (.im d))) (omB (ωs (i + 1)) D o) → Dp X.K (hid (ads (omB (ωs (i + 1)) D o)) H2) v y → Q v H2) → te σ' H' Q)
    (k : ∀ D H', Stp T (ωs 0) (ωs items.length) H H' → Rl X.K H' σ δ (ωs items.length) → Dp X.K (hid (ads (ωs items.length)) H') (.ref D) (.list ys) → Q (.ref D) H') :
    tLc wi (gName j) tYes te [j] σ H Q := by
  refine hw _ fun J H1 s1 w => fun D hD => ?_
  have rl1 := rl.mono s1
  have perm0 : ((D, Od.lst (([] : List PyData).map .im)) :: (ωs 0).os).Perm ((ωs 0).os ++ [(D, Od.lst (([] : List PyData).map .im))]) := (List.perm_append_singleton _ _).symm
  have rlD0 : Rl X.K (upd H1 D (.lst [])) σ δ (omD (ωs 0) D (.lst (([] : List PyData).map .im))) := rl1.omD hD (same_new hD) upd_same .nil
  have rlD : Rl X.K (upd H1 D (.lst [])) σ δ (omB (ωs 0) D (.lst (([] : List PyData).map .im))) := rlD0.permO perm0
  have stD : Stp T (ωs 0) (omB (ωs 0) D (.lst (([] : List PyData).map .im))) H1 (upd H1 D (.lst [])) := stp_perm perm0 (stp_new (same_new hD) hD)
  refine ⟨fun i m H2 => m = items.length - i ∧ i ≤ items.length ∧ Stp T (ωs 0) (omB (ωs i) D (.lst ((ys.take i).map .im))) H1 H2 ∧ Rl X.K H2 σ δ (omB (ωs i) D (.lst ((ys.take i).map .im))), ⟨items.length, by omega, Nat.zero_le _, stD, rlD⟩, ?_⟩
  rintro i m H2 ⟨em, hi, st, r2⟩
  obtain ⟨go, stop, yld⟩ := w T H2 (fun b o z p => (hid_out (st.seen b o z p)).2)
  by_cases hlt : i < items.length
  · refine .inr ⟨go i hlt, fun H3 => Stp T (ωs 0) (omB (ωs (i + 1)) D (.lst ((ys.take (i + 1)).map .im))) H1 H3 ∧ Rl X.K H3 σ δ (omB (ωs (i + 1)) D (.lst ((ys.take (i + 1)).map .im))), fun H3 ⟨s3, h3⟩ => ⟨items.length - (i + 1), by omega, rfl, hlt, s3, h3⟩, fun x H3 hy => ?_⟩
    obtain ⟨e3, d, ed, dx⟩ := yld i x H3 hlt hy
    subst e3
    have hys : i < ys.length := by omega
    have ey : ys[i]? = some ys[i] := List.getElem?_eq_getElem hys
    show wipe (((wipe σ [j])).set j (some x)) [j] = wipe σ [j] ∧ _
    have ew : wipe σ [j] = σ.set j none := rfl
    refine ⟨?_, ?_⟩
    · show (((σ.set j none).set j (some x)).set j none) = σ.set j none
      rw [List.set_set, List.set_set]
    show te (((wipe σ [j])).set j (some x)) H3 _
    rw [ew, List.set_set]
    have dx2 : Dp X.K (hid (ads (omB (ωs i) D (.lst ((ys.take i).map .im)))) H3) x d := dp_ke st.seen _ x dx
    have r4 := r2.set (i := j) (x := .im d) (v := x) dx2
    refine he i d ys[i] ed ey D _ _ _ r4 (st.tab (tb.ext s1)) _ fun v H4 s4 l4 d4 => ?_
    have om : ((ωs (i + 1)).os ++ [(D, Od.lst ((ys.take i).map .im))])[(ωs (i + 1)).os.length]? = some (D, .lst ((ys.take i).map .im)) := by
      rw [List.getElem?_append_right (Nat.le_refl _), Nat.sub_self]
      rfl
    obtain ⟨vs, g1, g2⟩ := l4.ro.ob D (.lst ((ys.take i).map .im)) (List.mem_append_right _ List.mem_cons_self)
    refine ⟨vs, g1, ?_, ?_⟩
    · rw [paired_len g2, List.length_map, List.length_take]
      refine Nat.lt_of_le_of_lt (Nat.min_le_left _ _) (Nat.lt_of_lt_of_le hlt (Nat.le_trans hz ?_))
      rw [sizeLine_eq]
      decide
    · have r5 : Rl X.K H4 σ δ (omB (ωs (i + 1)) D (.lst ((ys.take i).map .im))) := Rl.keep r2 s4 l4.ro
      have am : D ∈ ads (omB (ωs (i + 1)) D (.lst ((ys.take i).map .im))) := List.mem_append_right _ (List.mem_map.mpr ⟨_, List.mem_append_right _ List.mem_cons_self, rfl⟩)
      have hh : Same (hid (ads (omB (ωs (i + 1)) D (.lst ((ys.take i).map .im)))) H4) (hid (ads (omB (ωs (i + 1)) D (.lst ((ys.take i).map .im)))) (upd H4 D (.lst (vs ++ [v])))) := fun bb o h => by
        obtain ⟨n, e⟩ := hid_out h
        exact hid_of n (by rw [upd_ne (fun q => n (by rw [q]; exact am))]; exact e)
      obtain ⟨st6, r6⟩ := own_at (T := T) (j := (ωs (i + 1)).os.length) (o' := .lst ((ys.take i).map .im ++ [.im ys[i]])) (H' := upd H4 D (.lst (vs ++ [v]))) r5 om g1 (fun _ q => by cases q) (fun _ _ q => by unfold LamX.CodeO at q; cases q) (fun b o nb h => by rw [upd_ne nb]; exact h) ⟨_, upd_same, paired_snoc (R := SdV X.K _) (x := Sd.im ys[i]) (y := v) (dpm hh d4) (L2.Paired.mapP g2 fun _ _ q => sdv_mono hh q)⟩
      have e7 : putO (omB (ωs (i + 1)) D (.lst ((ys.take i).map .im))) (ωs (i + 1)).os.length (D, .lst ((ys.take i).map .im ++ [.im ys[i]])) = omB (ωs (i + 1)) D (.lst ((ys.take (i + 1)).map .im)) := by
        have et : ys.take (i + 1) = ys.take i ++ [ys[i]] := by rw [List.take_add_one, ey]; rfl
        rw [et, List.map_append]
        show (⟨_, ((ωs (i + 1)).os ++ [_]).set _ _⟩ : Om) = _
        rw [List.set_append_right _ _ (Nat.le_refl _), Nat.sub_self]
        rfl
      rw [e7] at st6 r6
      exact ⟨(st.trans s4).trans st6, r6⟩
  · have e : i = items.length := by omega
    subst e
    refine .inl ⟨stop, ?_⟩
    rw [List.take_of_length_le (by omega)] at st r2
    have sub : (ωs items.length).os.Sublist ((ωs items.length).os ++ [(D, Od.lst (ys.map .im))]) := List.sublist_append_left _ _
    have nd : (((ωs items.length).os ++ [(D, Od.lst (ys.map .im))]).map (·.1)).Nodup := r2.ro.nd
    rw [List.map_append] at nd
    have nD : D ∉ ads (ωs items.length) := fun z => by
      rcases List.mem_append.mp z with q | q
      · rw [st.ps] at q
        exact rl1.ro.th D q hD
      · exact (List.nodup_append.mp nd).2.2 D q D (by simp) rfl
    have sm : Same (hid (ads (omB (ωs items.length) D (.lst (ys.map .im)))) H2) (hid (ads (ωs items.length)) H2) := hid_more fun b hb => by
      rcases List.mem_append.mp hb with q | q
      · exact List.mem_append_left _ q
      · exact List.mem_append_right _ ((sub.map _).subset q)
    have r0 : Rl X.K H2 σ δ (ωs items.length) := ⟨r2.len, fun i r hi => by
      obtain ⟨v, h1, h2⟩ := r2.sl i r hi
      exact ⟨v, h1, sdv_mono sm h2⟩, fun z o hz => odv_mono sm (Same.refl H2) (r2.ro.ob z o (sub.subset hz)), (sub.map _).nodup r2.ro.nd, r2.ro.th⟩
    obtain ⟨vs, g1, g2⟩ := r2.ro.ob D (.lst (ys.map .im)) (List.mem_append_right _ List.mem_cons_self)
    refine k D H2 ((Stp.of s1).trans ⟨st.keep, fun a ha => st.new a ((sub.map _).subset ha), st.ps, st.tab⟩) r0 (.lst (SqL.of (hid_of nD g1)) (dpam sm (dpa_im g2)))
theorem ze_lcX {elt : Expr} {scope : Scope} {y : Str} {j : Nat} {items ys : List PyData} (ωs : Nat → Om) (h0 : ωs 0 = ω) (hc : X.calm = true) (hN : X.N.Nodup) (hw : PWk X δ ω tg iter items) (hl : ys.length = items.length) (ok : BlkOk X.N X.env.scope scope [(y, j)])
    (hg : ∀ (s : Shared) (H : Hp) (C : Addr) (cl : List (Str × Addr)) (fp : List Addr), PG (X.blk s H scope (compEnvC scope cl C X.env) fp) tg (gName j))
    (he : ∀ (i : Nat) (d y : PyData), items[i]? = some d → ys[i]? = some y → ∀ D o (s : Shared) (H : Hp) (C : Addr) (cl : List (Str × Addr)) (fp : List Addr), YE (X.blk s H scope (compEnvC scope cl C X.env) fp) T (δ.set j (some (.im d))) (omB (ωs i) D o) elt y (omB (ωs (i + 1)) D o))
    (hz : items.length ≤ 10000) (hk : Z (.list ys) (ωs items.length)) (hs : ∀ x, foldedSetIterable iter X.env x = pure x := by intro _; rfl) : ZE X T δ ω (.ListComp elt [⟨tg, iter, [], 0⟩] scope pos) Z := fun σ H rl t Q q => by
  subst h0
  obtain ⟨wi, h1, h2⟩ := hw
  refine we (pe_lc (own := [(y, j)]) hc hN h1 ok hg (fun _ _ _ _ _ => pts_nil) (fun s H0 C cl fp => pe_blk s H0 C cl fp) hs) ?_
  exact lc_X rl t (fun R kk => h2 σ H rl R kk) hl hz (fun i d y hd hy D o σ' H' rl' t' Q' k' s H0 C cl fp => he i d y hd hy D o s H0 C cl fp σ' H' rl' t' Q' k') (fun D H' st l dv => q _ _ _ H' hk st l dv)
end
end FP

namespace FP
open PySem PySem.Spec PyProof.Rows L2 HotX L2H
def cutA {α : Type} (xs : List α) (lo hi : Option Int) : List α := (xs.drop (HT.sIx xs.length 0 lo)).take (HT.sIx xs.length xs.length hi - HT.sIx xs.length 0 lo)
theorem cutA_to {α : Type} (ds : List α) (n : Nat) : cutA ds none (some (n : Int)) = ds.take n := by
  unfold cutA
  rw [HT.sIx_none, HT.sIx_nat, List.drop_zero, Nat.sub_zero]
  rcases Nat.le_total n ds.length with h | h
  · rw [Nat.min_eq_left h]
  · rw [Nat.min_eq_right h, List.take_length, List.take_of_length_le h]
theorem cutA_from {α : Type} (ds : List α) (n : Nat) : cutA ds (some (n : Int)) none = ds.drop n := by
  unfold cutA
  rw [HT.sIx_none, HT.sIx_nat]
  rcases Nat.le_total n ds.length with h | h
  · rw [Nat.min_eq_left h, List.take_of_length_le (by rw [List.length_drop]; exact Nat.le_refl _)]
  · rw [Nat.min_eq_right h, List.drop_length, List.drop_of_length_le h, List.take_nil]
theorem cutV_ref (As : List Addr) (lo hi : Option Int) : cutV (As.map V.ref) lo hi = (cutA As lo hi).map V.ref := by
  unfold cutV cutA
  rw [List.length_map, List.map_take, List.map_drop]
section
variable {X : Cx} {W : WX} {T : List (Addr × Str)} {δ : De} {ω ω1 : Om} {a b c e o iter tg : Expr} {es : List Expr} {d : PyData} {ds : List PyData} {r : Sd} {rs : List Sd} {pos p p1 apos : Pos} {R : Out → Prop} {ss sa sb : List Stmt} {x m : Str} {k : Nat}
/-- a list of own lists -/
def PLa (X : Cx) (δ : De) (ω : Om) (e : Expr) (As : List Addr) : Prop := ∀ σ H, Rl X.K H σ δ ω → ∀ Q : VK, (∀ p H', Same H H' → SqL X.K H' p (As.map V.ref) → Q (.ref p) H') → wpe X e σ H Q
theorem pla_var (i : Nat) {D : Addr} {As : List Addr} (hm : (D, Od.lst (As.map .ad)) ∈ ω.os) (hd : δ[i]? = some (some (.ad D)) := by rfl) (hN : X.N[i]? = some x := by rfl) (hv : Vis X.env.scope x := by first | exact Or.inl rfl | exact Or.inr (Or.inl rfl) | exact Or.inr (Or.inr rfl))
    (h1 : (x == ("__debug__" : Str)) = false := by decide) (h2 : (x == ("__classdict__" : Str)) = false := by decide) : PLa X δ ω (.Name x pos) As := fun σ H rl Q k => by
  obtain ⟨v, e1, e2⟩ := rl.sl i _ hd
  have e2 : v = .ref D := e2
  subst e2
  obtain ⟨vs, g1, g2⟩ := rl.ro.ob D _ hm
  have ev := pair_ad g2
  subst ev
  exact we (pe_var hN hv h1 h2) ⟨_, e1, k D H (Same.refl H) (SqL.of g1)⟩
theorem pla_sl {lo hi : Option Expr} {i j : Option Int} {p2 : Pos} {As : List Addr} (ha : PLa X δ ω a As) (hl : PO1 X δ ω lo i) (hh : PO1 X δ ω hi j) : PLa X δ ω (.Subscript a (.Slice lo hi none p2) pos) (cutA As i j) := fun σ H rl Q k =>
  we (pe_slice sl_list pe_w po_w po_w) (ha σ H rl _ fun l H1 s1 h1 => po_run hl σ H1 (rl.mono s1) _ fun H2 s2 => po_run hh σ H2 (rl.mono (s1.trans s2)) _ fun H3 s3 =>
    ⟨l, _, rfl, (s2.trans s3).seq h1, fun p hp => k p _ (((s1.trans s2).trans s3).trans (same_new hp)) (by rw [← cutV_ref]; exact SqL.of upd_same)⟩)
theorem PLa.eq {As Bs : List Addr} (h : PLa X δ ω e As) (q : As = Bs) : PLa X δ ω e Bs := q ▸ h
/-- x = a + b, lists of own lists -/
theorem nw_catA {As Bs : List Addr} (ha : PLa X δ ω a As) (hb : PLa X δ ω b Bs) (hz : As.length + Bs.length ≤ 10000) : NW X T δ ω (.BinOp a .Add b pos) (.lst ((As ++ Bs).map .ad)) := fun σ H rl t Q k =>
  we (pe_op op_catQ pe_w pe_w) (ha σ H rl _ fun q H1 s1 h1 => hb σ H1 (rl.mono s1) _ fun r H2 s2 h2 =>
    ⟨q, r, _, _, rfl, rfl, s2.seq h1, h2, by rw [List.length_map, List.length_map, sizeLine_eq]; omega, fun p hp => by
      have sm : Same H2 (upd H2 p (.lst (As.map V.ref ++ Bs.map V.ref))) := same_new hp
      have l2 := rl.mono (s1.trans s2)
      refine k p _ (((Stp.of (s1.trans s2)).trans (stp_new sm hp))) ⟨l2.len, fun i r hi => ?_, fun z o hz => ?_, ?_, there_mono l2.ro.th sm⟩
      · obtain ⟨v, h1, h2⟩ := l2.sl i r hi
        exact ⟨v, h1, sdv_mono (hid_in hp sm) h2⟩
      · rcases List.mem_cons.mp hz with w | w
        · cases w
          exact ⟨_, upd_same, by rw [← List.map_append]; exact ad_pair _⟩
        · exact odv_mono (hid_in hp sm) sm (l2.ro.ob z o w)
      · show (p :: ω.os.map (·.1)).Nodup
        exact List.nodup_cons.mpr ⟨fun w => new_out l2.ro.there hp (List.mem_append_right _ w), l2.ro.nd⟩⟩)
theorem stp_permL {H H' : Hp} {ps : List Addr} {os os' : Os} {ω : Om} (hp : os.Perm os') (st : Stp T ⟨ps, os'⟩ ω H H') : Stp T ⟨ps, os⟩ ω H H' := ⟨fun b x h n p => st.keep b x h (fun z => n ((hp.map _).mem_iff.mpr z)) p, fun a ha => (st.new a ha).imp (fun z => (hp.map _).mem_iff.mpr z) id, st.ps, st.tab⟩
theorem ZE.perm {ps : List Addr} {os os' : Os} {Z : PyData → Om → Prop} (hp : os.Perm os') (h : ZE X T δ ⟨ps, os'⟩ e Z) : ZE X T δ ⟨ps, os⟩ e Z := fun σ H rl t Q q => h σ H (rl.permO hp) t Q fun d ω' v H' z s l dv => q d ω' v H' z (stp_permL hp s) l dv
theorem YX.perm {ps : List Addr} {os os' : Os} {Z : Rg → Om → Prop} (hp : os.Perm os') (h : YX X W T δ ⟨ps, os'⟩ e Z) : YX X W T δ ⟨ps, os⟩ e Z := fun σ H rl t Q q q2 => h σ H (rl.permO hp) t Q (fun r ω' v H' z s l dv => q r ω' v H' z (stp_permL hp s) l dv) (fun Z ω' H' z s l => q2 Z ω' H' z (stp_permL hp s) l)
theorem ax_yx {Z : List Sd → Om → Prop} (h : YX X (fun _ _ _ _ => False) T δ ω e (fun r ω' => ∃ r', r = .ok r' ∧ AX X T δ ω' es (fun rs ω'' => Z (r' :: rs) ω''))) (hs : starEach (e :: es) X.env = (false, eval e X.env) :: starEach es X.env := by rfl) : AX X T δ ω (e :: es) Z := fun σ H rl t Q k =>
  wa (pa_cons pe_w pa_w hs) (h σ H rl t _ (fun r ω' v H1 z s1 l1 d1 => by
    obtain ⟨r', e1, hr⟩ := z
    cases e1
    exact hr σ H1 l1 (s1.tab t) _ fun rs ω2 vs H2 z2 s2 l2 d2 => k (r :: rs) ω2 (v :: vs) H2 z2 (s1.trans s2) l2 (.cons (stp_sd (X := X) s2 d1) d2)) (fun Z ω' H' z _ _ => by
    obtain ⟨r', e1, _⟩ := z
    cases e1))
theorem sd_cont (hR : R (.ct δ ω)) : SD X W T (.Continue pos :: ss) δ ω R := sd_cons fun σ H D rl t k => ws ps_continue (k.ct δ ω σ H hR .refl rl)
end
/-- y = a new object, none of the caller's -/
theorem sd_newP {X : Cx} {W : WX} {δ : De} {ω : Om} {e : Expr} {pos : Pos} {R : Out → Prop} {ss : List Stmt} (i : Nat) {y : Str} {o : Od} {py : Pos} (he : NW X [] δ ω e o) (hk : ∀ D, D ∉ ω.ps → SD X W [] ss (δ.set i (some (.ad D))) (omD ω D o) R) (hN : X.N.Nodup) (hi : X.N[i]? = some y := by rfl) (hx : Loc X.env.scope y := by first | exact Or.inl rfl | exact Or.inr rfl)
    (hs : swapsWith e (some (.Name y py)) pos.line X.env = pure false := by rfl) (hf : X.fn y = true ∨ X.env.scope.names.lookup y = some .local := by first | exact .inl rfl | exact .inr rfl | assumption) : SD X W [] (.Assign [.Name y py] e pos :: ss) δ ω R :=
  sd_cons fun σ H D rl t kt => ws (ps_set hN hi hx pe_w hs hf) (he σ H rl t _ fun z H' st l => by
    have nz : z ∉ ω.ps := fun hz => by
      rcases st.new z (List.mem_cons_self) with q | q
      · have nd : (z :: ω.os.map (·.1)).Nodup := l.ro.nd
        exact (List.nodup_cons.mp nd).1 q
      · have := rl.ro.th z hz
        cases e : H z with
        | none => exact this e
        | some o => exact q o e (.inl rfl)
    exact kt.nx _ _ _ H' (hk z nz) st (l.set (x := .ad z) (v := .ref z) rfl))
theorem inL_app {As Bs : List Addr} {rs ts : List (List PyData)} (h : As.length = rs.length) : inL (As ++ Bs) (rs ++ ts) = inL As rs ++ inL Bs ts := by
  unfold inL
  rw [List.zipWith_append h]
theorem inL_rot {As : List Addr} {rows : List (List PyData)} (h : As.length = rows.length) (n : Nat) : (inL As rows).Perm (inL (As.drop n ++ As.take n) (rows.drop n ++ rows.take n)) := by
  have e : inL As rows = inL (As.take n) (rows.take n) ++ inL (As.drop n) (rows.drop n) := by
    rw [← inL_app (by rw [List.length_take, List.length_take, h]), List.take_append_drop, List.take_append_drop]
  rw [e, inL_app (by rw [List.length_drop, List.length_drop, h])]
  exact List.perm_append_comm
/-- x is b, b a truth -/
def flatV : V → Prop
  | .non => True
  | .bl _ => True
  | .int _ => True
  | .str _ => True
  | _ => False
theorem op_isFlat {X : Cx} : OpR X (compareOp .Is) (fun x y H Q => ∃ b, y = .bl b ∧ flatV x ∧ Q (.bl (decide (x = .bl b))) H) := by
  intro pins s σ H x y v u Q I rx ry h
  obtain ⟨b, rfl, hf, q⟩ := h
  cases (show u = Value.bool b from ry)
  cases x with
  | non =>
    cases rx
    exact wpAny_is_other rfl (fun z => by cases z) ⟨.bl false, H, I, rfl, by simpa using q⟩
  | bl a =>
    cases (show v = Value.bool a from rx)
    by_cases e : a = b
    · subst e
      exact wpAny_is_self rfl ⟨.bl true, H, I, rfl, by simpa using q⟩
    · exact wpAny_is_other rfl (fun z => e (Value.bool.inj z)) ⟨.bl false, H, I, rfl, by simpa [e] using q⟩
  | int i =>
    obtain ⟨t, rfl⟩ := rx
    exact wpAny_is_other rfl (fun z => by cases z) ⟨.bl false, H, I, rfl, by simpa using q⟩
  | str z =>
    obtain ⟨t, rfl⟩ := rx
    exact wpAny_is_other rfl (fun z => by cases z) ⟨.bl false, H, I, rfl, by simpa using q⟩
  | _ => exact False.elim hf
def isTrueD : PyData → Bool
  | .bool true => true
  | _ => false
def flatD : PyData → Bool
  | .list _ => false
  | .tuple _ => false
  | .dict _ => false
  | _ => true
theorem rd_isT {K : PySem.W.Frag} {d : PyData} (hf : flatD d = true) : RD K (fun x y H Q => ∃ b, y = .bl b ∧ flatV x ∧ Q (.bl (decide (x = .bl b))) H) d (.bool true) (.bool (isTrueD d)) := fun ps x y H _ hx hy Q q => by
  cases hy
  cases hx with
  | non => exact ⟨true, rfl, trivial, q _ H (Same.refl H) (.bl _)⟩
  | bl b =>
    refine ⟨true, rfl, trivial, ?_⟩
    cases b with
    | true => exact q _ H (Same.refl H) (.bl true)
    | false => exact q _ H (Same.refl H) (.bl false)
  | int i => exact ⟨true, rfl, trivial, q _ H (Same.refl H) (.bl _)⟩
  | str z => exact ⟨true, rfl, trivial, q _ H (Same.refl H) (.bl _)⟩
  | lst _ _ => cases hf
  | tup _ _ => cases hf
end FP

namespace FP
open PySem PySem.Spec PyProof.Rows L2 HotX L2H
theorem eqv_nil (xs : List PyData) : PyData.eqv (.list xs) (.list []) = xs.isEmpty := by
  cases xs <;> rfl
section
variable {X : Cx} {W : WX} {T : List (Addr × Str)} {δ : De} {ω ω1 : Om} {a b c e o iter tg : Expr} {es : List Expr} {d da db : PyData} {ds : List PyData} {r : Sd} {rs : List Sd} {pos p p1 apos : Pos} {R : Out → Prop} {ss sa sb : List Stmt} {x m : Str} {k : Nat} {fr : FrG}
theorem pt_eqL (hu : X.A.units + 64 < cLine) (h1 : SeqAt.shaped (.list ds) = true) (h2 : SeqAt.shaped db = true) (ha : PL X δ ω a ds) (hb : PD X δ ω b db) : PTd X δ ω (.Compare a [.Eq] [b] pos) (PyData.eqv (.list ds) db) := fun σ H rl Q q =>
  wt (pt_cmpR (op_eqD hu) pe_w pe_w (nomark _)) (ha σ H rl _ fun p vs H1 s1 h3 d1 => hb σ H1 (rl.mono s1) _ fun y H2 s2 d2 =>
    ⟨.list ds, db, .lst (s2.seq h3) (dpam hid_sub (dpam (hid_same s2) d1)), dpm hid_sub d2, h1, h2, _, rfl, q H2 (s1.trans s2)⟩)
theorem pd_eqL (hu : X.A.units + 64 < cLine) (h1 : SeqAt.shaped (.list ds) = true) (h2 : SeqAt.shaped db = true) (ha : PL X δ ω a ds) (hb : PD X δ ω b db) : PD X δ ω (.Compare a [.Eq] [b] pos) (.bool (PyData.eqv (.list ds) db)) := fun σ H rl Q q =>
  we (pe_cmpR (op_eqD hu) pe_w pe_w (nomark _)) (ha σ H rl _ fun p vs H1 s1 h3 d1 => hb σ H1 (rl.mono s1) _ fun y H2 s2 d2 =>
    ⟨.list ds, db, .lst (s2.seq h3) (dpam hid_sub (dpam (hid_same s2) d1)), dpm hid_sub d2, h1, h2, q _ H2 (s1.trans s2) (.bl _)⟩)
theorem pd_neL (hu : X.A.units + 64 < cLine) (h1 : SeqAt.shaped (.list ds) = true) (h2 : SeqAt.shaped db = true) (ha : PL X δ ω a ds) (hb : PD X δ ω b db) : PD X δ ω (.Compare a [.NotEq] [b] pos) (.bool (!PyData.eqv (.list ds) db)) := fun σ H rl Q q =>
  we (pe_cmpR (op_neD hu) pe_w pe_w (nomark _)) (ha σ H rl _ fun p vs H1 s1 h3 d1 => hb σ H1 (rl.mono s1) _ fun y H2 s2 d2 =>
    ⟨.list ds, db, .lst (s2.seq h3) (dpam hid_sub (dpam (hid_same s2) d1)), dpm hid_sub d2, h1, h2, q _ H2 (s1.trans s2) (.bl _)⟩)
/-- x(..), a def that is handed own objects -/
theorem yx_callG {Rr : Rg → Os → Prop} {ps : List Addr} (os rest : Os) {Z : Rg → Om → Prop} (G : GOk X.prog X.w X.K X.mg X.base k x fr) (hr : Room k X.A) (tk : L2N.Takes X W) (ha : PSs X δ ⟨ps, os ++ rest⟩ (e :: es) rs) (hf : fr os rs Rr)
    (hR : ∀ r os', Rr r os' → Z r ⟨ps, os' ++ rest⟩) (hg : Gl X x := by rfl)
    (hdb : (x == ("__debug__" : Str)) = false := by decide) (he : starEach (e :: es) X.env = (false, eval e X.env) :: starEach es X.env := by rfl) (hpl : (backTo pos (starEach es X.env)).any (·.1) = false := by rfl) : YX X W T δ ⟨ps, os ++ rest⟩ (.Call (.Name x p) (e :: es) [] pos) Z := fun σ H rl t Q q q2 => by
  obtain ⟨f, fd, pn, F, m, kp, b⟩ := G.ex
  refine we (pe_callS (E := WE W) F hr hg m kp b (fun σ => L2N.passAt tk σ) pa_w hdb he hpl) (ha σ H rl _ fun vs H1 s1 d1 => ?_)
  refine callG_end (T := T) (rl.mono s1) d1 hf fun r os' H' hr st l => ?_
  have z := hR r os' hr
  cases r with
  | ok r => exact fun v hv => q r _ v H' z ((Stp.of s1).trans st) l hv
  | er Z => exact q2 Z _ H' z ((Stp.of s1).trans st) l
/-- a value is told, an own object is dropped -/
theorem sd_retD (j : Nat) {ps : List Addr} {os : Os} (he : PD X δ ⟨ps, os⟩ e d) (hR : R (.rt (.im d) ⟨ps, os.eraseIdx j⟩)) : SD X W T (.Return (some e) pos :: ss) δ ⟨ps, os⟩ R :=
  sd_cons fun σ H D rl t k => ws (ps_ret pe_w) (he σ H rl _ fun v H' s dv => by
    have sub : (os.eraseIdx j).Sublist os := List.eraseIdx_sublist os j
    have sm : Same (hid (ads ⟨ps, os⟩) H') (hid (ads ⟨ps, os.eraseIdx j⟩) H') := hid_more fun b hb => by
      rcases List.mem_append.mp hb with q | q
      · exact List.mem_append_left _ q
      · exact List.mem_append_right _ ((sub.map _).subset q)
    have l := rl.mono s
    exact k.rt _ ⟨ps, os.eraseIdx j⟩ v H' hR ((Stp.of s).trans ⟨fun b o e _ _ => e, fun a ha => .inl ((sub.map _).subset ha), rfl, fun t => t⟩) ⟨fun z o hz => odv_mono sm (Same.refl H') (l.ro.ob z o (sub.subset hz)), (sub.map _).nodup l.ro.nd, l.ro.th⟩ (dpm sm dv))
theorem sd_retZ (he : ZE X T δ ω e (fun d ω1 => R (.rt (.im d) ω1))) : SD X W T (.Return (some e) pos :: ss) δ ω R :=
  sd_cons fun σ H D rl t k => ws (ps_ret pe_w) (he σ H rl t _ fun d ω1 v H' z s l dv => k.rt _ ω1 v H' z s l.ro dv)
theorem ze_op {op : Operator} {r : R2} {Z : PyData → Om → Prop} (ho : OpR X (binaryOp op) r) (ha : ZE X T δ ω a (fun da ω1 => ZE X T δ ω1 b (fun db ω2 => ∃ dz, RD X.K r da db dz ∧ Z dz ω2))) : ZE X T δ ω (.BinOp a op b pos) Z := fun σ H rl t Q q =>
  we (pe_op ho pe_w pe_w) (ha σ H rl t _ fun da ω1 x H1 hb s1 l1 d1 => hb σ H1 l1 (s1.tab t) _ fun db ω2 y H2 hr s2 l2 d2 => by
    obtain ⟨dz, hr, z⟩ := hr
    exact hr _ x y H2 l2.ro.there (stp_sd (X := X) (r := .im da) s2 d1) d2 _ fun w H3 s3 d3 => q dz ω2 w H3 z ((s1.trans s2).trans (.of s3)) (l2.mono s3) d3)
theorem ze_tupleT {Z : PyData → Om → Prop} (hm : X.mg "tuple" = none) (ha : ZE X T δ ω a (fun da ω1 => ∃ ds, da = .tuple ds ∧ Z (.tuple ds) ω1)) (hg : Gl X "tuple" := by rfl) (he : starEach [a] X.env = (false, eval a X.env) :: starEach [] X.env := by rfl) : ZE X T δ ω (.Call (.Name "tuple" p) [a] [] pos) Z := fun σ H rl t Q q =>
  we (pe_callTy call_tuple_of hg hm (by decide +kernel) (pa_cons pe_w pa_nil he) (he := he)) (ha σ H rl t _ fun da ω1 v H1 z s1 l1 d1 => by
    obtain ⟨ds, rfl, z⟩ := z
    cases d1 with
    | tup g1 g2 => exact ⟨_, _, rfl, .inr ⟨same_sqt hid_sub g1, q _ ω1 _ H1 z s1 l1 (.tup g1 g2)⟩⟩)
end
end FP

namespace FP
open PySem PySem.Spec PyProof.Rows L2 HotX L2H
theorem paired_app {α β : Type} {R : α → β → Prop} : ∀ {xs xs2 : List α} {ys ys2 : List β}, Paired R xs ys → Paired R xs2 ys2 → Paired R (xs ++ xs2) (ys ++ ys2)
  | _, _, _, _, .nil, h => h
  | _, _, _, _, .cons a b, h => .cons a (paired_app b h)
section
variable {X : Cx} {W : WX} {T : List (Addr × Str)} {δ : De} {ω : Om} {a b e o iter : Expr} {pos p tpos : Pos} {R : Out → Prop} {ss sa : List Stmt}
/-- how often a number stands in a list of numbers -/
theorem pd_count {ns : List Int} {k : Int} {apos : Pos} (ha : PL X δ ω a (ns.map .int)) (hb : PD X δ ω b (.int k)) (hbase : attributeBase a "count" X.env (eval a X.env) = eval a X.env := by rfl)
    (hfew : ((backTo pos (starEach [b] X.env)).all (fun x => !x.1) && (backToKw pos (keywordEach [] X.env)).all (fun x => x.1.isSome)
      && decide (([b] : List Expr).length + ([] : List Keyword).length + (if ([] : List Keyword).isEmpty then 0 else 1) < 30)) = true := by rfl)
    (hline : (apos.endLine == pos.line) = true := by rfl) (hst : starEach [b] X.env = (false, eval b X.env) :: starEach [] X.env := by rfl) : PD X δ ω (.Call (.Attribute a "count" apos) [b] [] pos) (.int ((ns.count k : Nat) : Int)) := fun σ H rl Q q =>
  we (pe_bm PySem.F.plainAttrs_list PySem.F.slot_list_count PySem.F.type_list_count mt_lcount pe_w (pa_cons pe_w pa_nil hst) hbase hfew hline hst) (ha σ H rl _ fun l vs H1 s1 h1 d1 => ⟨.inl ⟨rfl, vs, h1⟩, hb σ H1 (rl.mono s1) _ fun v H2 s2 d2 => by
    cases d2
    have e := dpa_int d1
    subst e
    exact ⟨l, ns, k, rfl, rfl, s2.seq h1, q _ H2 (s1.trans s2) (.int _)⟩⟩)
/-- o.extend(e), o a list of one's own, e a new list -/
theorem sd_extS {ad : Addr} {xs : List Sd} {ds : List PyData} {j : Nat} {apos cpos : Pos} (ho : PS1 X δ ω o (.ad ad)) (hm : ω.os[j]? = some (ad, .lst xs)) (he : PN X δ ω e ds) (hk : SD X W T ss δ (putO ω j (ad, .lst (xs ++ ds.map .im))) R) (hz : xs.length + ds.length < 10000)
    (hs : swapsWith (.Call (.Attribute o "extend" apos) [e] [] cpos) none pos.line X.env = pure false := by rfl)
    (hbase : attributeBase o "extend" X.env (eval o X.env) = eval o X.env := by rfl)
    (hfew : ((backTo cpos (starEach [e] X.env)).all (fun x => !x.1) && (backToKw cpos (keywordEach [] X.env)).all (fun x => x.1.isSome)
      && decide (([e] : List Expr).length + ([] : List Keyword).length + (if ([] : List Keyword).isEmpty then 0 else 1) < 30)) = true := by rfl)
    (hline : (apos.endLine == cpos.line) = true := by rfl) (hst : starEach [e] X.env = (false, eval e X.env) :: starEach [] X.env := by rfl) :
    SD X W T (.Expr (.Call (.Attribute o "extend" apos) [e] [] cpos) pos :: ss) δ ω R :=
  sd_cons fun σ H Dd rl t kt => ws (ps_expr (pe_bm PySem.F.plainAttrs_list PySem.F.slot_list_extend PySem.F.type_list_extend mt_extend pe_w (pa_cons pe_w pa_nil hst) hbase hfew hline hst) hs) (ho σ H rl _ fun v H1 s1 d1 => by
    have d1 : v = .ref ad := d1
    subst d1
    obtain ⟨vs, e3, e4⟩ := (rl.mono s1).ro.ob ad _ (at_mem hm)
    refine ⟨.inl ⟨rfl, vs, SqL.of e3⟩, he σ H1 (rl.mono s1) _ fun p ys H2 s2 np h2 d2 => ⟨ad, p, vs, ys, rfl, rfl, s2 ad _ e3, h2, ?_, ?_⟩⟩
    · rw [paired_len e4, dpa_len d2]
      exact Nat.le_of_lt (Nat.lt_of_lt_of_le hz (by rw [sizeLine_eq]; decide))
    · have l2 := rl.mono (s1.trans s2)
      have am : ad ∈ ads ω := List.mem_append_right _ (List.mem_map.mpr ⟨_, at_mem hm, rfl⟩)
      have hh : Same (hid (ads ω) H2) (hid (ads ω) (upd H2 ad (.lst (vs ++ ys)))) := fun bb o h => by
        obtain ⟨n, e⟩ := hid_out h
        exact hid_of n (by rw [upd_ne (fun q => n (by rw [q]; exact am))]; exact e)
      obtain ⟨st, l3⟩ := own_at (T := T) (o' := .lst (xs ++ ds.map .im)) (H' := upd H2 ad (.lst (vs ++ ys))) l2 hm (s2 ad _ e3) (fun _ q => by cases q) (fun _ _ q => by unfold LamX.CodeO at q; cases q) (fun bb o nb h => by rw [upd_ne nb]; exact h) ⟨_, upd_same, paired_app (L2.Paired.mapP e4 fun _ _ q => sdv_mono ((hid_same s2).trans hh) q) (im_dpa (dpam hh (dpam hid_cons d2)))⟩
      exact kt.nx δ _ σ _ hk ((Stp.of (s1.trans s2)).trans st) l3)
/-- o[b] = e, the place told from the end, or from the front -/
theorem sd_lsetK {c : Addr} {sp : Pos} {n : Nat} {k : Int} (he : EX X W T e δ ω (Val1 (fun r ω1 => ∃ j xs, PS1 X δ ω1 o (.ad c) ∧ ω1.os[j]? = some (c, .lst xs) ∧ PD X δ ω1 b (.int k) ∧ ixN xs.length k = some n ∧ SD X W T ss δ (putO ω1 j (c, .lst (xs.set n r))) R) R))
    (ha : ∀ v, assign (.Subscript o b sp) X.env v = (do
      let ov ← holding [v] (eval o X.env)
      let iv ← holding [v, ov] (eval b X.env)
      standAt sp
      holding [v, ov, iv] (setItem ov iv v)
      release [v, ov, iv] []) := by intro _; rfl)
    (hs : swapsWithSole [.Subscript o b sp] e pos.line X.env = pure false := by rfl) (hw : swappedStores [.Subscript o b sp] e X.env = pure none := by rfl) (h3 : (assignEach [.Subscript o b sp] X.env).map (·.2) = [assign (.Subscript o b sp) X.env] := by rfl) :
    SD X W T (.Assign [.Subscript o b sp] e pos :: ss) δ ω R :=
  sd_cons fun σ H Dd rl t kt => ws (ps_asg pe_w (pg_sub pe_w pe_w set_list ha) hs hw h3) (he σ H rl t _ (fun r ω1 y H1 z1 st l dv => by
    obtain ⟨j, xs, hx, ho, hb, hn, z1⟩ := z1
    refine hx σ H1 l _ fun v H2 s2 d2 => hb σ H2 (l.mono s2) _ fun iv H3 s3 d3 => ?_
    have d2 : v = .ref c := d2
    subst d2
    cases d3
    have l3 := l.mono (s2.trans s3)
    obtain ⟨vs, g1, g2⟩ := l3.ro.ob c _ (at_mem ho)
    have lv : vs.length = xs.length := paired_len g2
    refine ⟨c, vs, k, n, rfl, rfl, g1, ?_, ?_⟩
    · rw [lv]
      exact hn
    · have am : c ∈ ads ω1 := List.mem_append_right _ (List.mem_map.mpr ⟨_, at_mem ho, rfl⟩)
      have hh : Same (hid (ads ω1) H3) (hid (ads ω1) (upd H3 c (.lst (vs.set n y)))) := fun bb o h => by
        obtain ⟨n, e⟩ := hid_out h
        exact hid_of n (by rw [upd_ne (fun q => n (by rw [q]; exact am))]; exact e)
      obtain ⟨st2, l4⟩ := own_at (T := T) (o' := .lst (xs.set n r)) (H' := upd H3 c (.lst (vs.set n y))) l3 ho g1 (fun _ q => by cases q) (fun _ _ q => by unfold LamX.CodeO at q; cases q) (fun bb o nb h => by rw [upd_ne nb]; exact h) ⟨_, upd_same, paired_set (sdv_mono ((hid_same (s2.trans s3)).trans hh) dv) n (L2.Paired.mapP g2 fun _ _ q => sdv_mono hh q)⟩
      exact kt.nx δ _ σ _ z1 ((st.trans (.of (s2.trans s3))).trans st2) l4) (fun C ω' σ' H' z q l => kt.ex C ω' σ' H' z q l))
end
end FP

namespace FP
open PySem PySem.Spec PyProof.Rows L2 HotX L2H
/-! ### min(xs, key=f), f a def that raises nothing -/
section
variable {X : Cx}
theorem run_fn1 {k : Nat} {f : Addr} {fd : FuncData} {ps : List Str} {sp : Sp} {pins : List (Addr × Obj)} {σ : L2.St} {H : Hp} {s : Shared} {Q : VK} {us : List Value} {vs : List V} (F : FnOk X.prog X.w X.K X.mg X.base (L2N.CX X.prog X.w) k f fd ps sp) (hr : Room k X.A.in1) (hb : Binds X.K fd ps [])
    (I : Inv X pins σ H s) (r : Vals vs us) (h : sp vs H Q (fun _ _ _ => False)) : wpAny (model X.prog X.w) X.A.in1 (call (.ref f) us) (EP X pins σ Q) (fun _ _ => False) s := by
  have hl : us.length = ps.length := by rw [← r.length]; exact F.len _ _ _ _ h
  have hb2 := hb s us I.kIn (by rw [List.append_nil]; exact hl)
  rw [List.append_nil] at hb2
  refine wpAny_call (codeAny_mono (F.run X.A.in1 X.stack s H ⟨us, []⟩ us vs Q (fun _ _ _ => False) hr I.env0.in1 hb2 r h) fun r s' hq => ?_)
  cases r with
  | error e =>
    obtain ⟨_, _, _, _, _, _, _, _, _, _, _, _, z⟩ := hq
    exact z
  | ok fl =>
    cases fl with
    | ret u => exact I.after hq
    | next => exact False.elim hq
    | brk => exact False.elim hq
    | cont => exact False.elim hq
/-- the two objects of the loop -/
theorem two_pins {pins : List (Addr × Obj)} {σ : L2.St} {H : Hp} {s : Shared} {S I : Addr} {oS oI : Obj} (J : Inv X pins σ H s) (fS : FpOk X pins H S) (fI : FpOk X pins H I) (gS : s.heap.get? S = some oS) (gI : s.heap.get? I = some oI) (dS : ∀ v, oS.data ≠ .cell v) (dI : ∀ v, oI.data ≠ .cell v) :
    Inv X (pins ++ [(S, oS), (I, oI)]) σ H s := J.pins_of fun p hp => by
  rcases List.mem_append.mp hp with z | z
  · exact J.pin p (List.mem_append_right _ z)
  · rcases List.mem_cons.mp z with rfl | z
    · exact ⟨gS, fS.1, fS.2.1, fS.2.2.1, dS⟩
    · rw [List.mem_singleton.mp z]
      exact ⟨gI, fI.1, fI.2.1, fI.2.2.1, dI⟩
/-- what the loop keeps: nothing yet, or the best so far and its key -/
inductive MinSt (items : List V) (kf : Nat → Int) : Nat → Array Value → Prop
  | nil : MinSt items kf 0 #[]
  | best {j i : Nat} {x : V} {vb : Value} {tb : Tok} (lt : i < j) (at_ : items[i]? = some x) (rel : RelV x vb) (first : ∀ j', j' < j → kf i ≤ kf j' ∧ (j' < i → kf i < kf j')) : MinSt items kf j #[vb, .int (kf i) tb]
theorem MinSt.one {items : List V} {kf : Nat → Int} {x : V} {v : Value} {t : Tok} (h : items[0]? = some x) (r : RelV x v) : MinSt items kf 1 #[v, .int (kf 0) t] :=
  .best Nat.one_pos h r fun j' hj => by
    obtain rfl : j' = 0 := by omega
    exact ⟨Int.le_refl _, fun z => absurd z (Nat.lt_irrefl _)⟩
theorem MinSt.less {items : List V} {kf : Nat → Int} {j i : Nat} {x : V} {v : Value} {t : Tok} (f : ∀ j', j' < j → kf i ≤ kf j' ∧ (j' < i → kf i < kf j')) (hx : items[j]? = some x) (r : RelV x v) (lt : kf j < kf i) : MinSt items kf (j + 1) #[v, .int (kf j) t] :=
  .best (Nat.lt_succ_self j) hx r fun j' hj => by
    rcases Nat.lt_or_ge j' j with z | z
    · have := (f j' z).1
      omega
    · obtain rfl : j' = j := by omega
      omega
theorem MinSt.more {items : List V} {kf : Nat → Int} {j i : Nat} {x : V} {v : Value} {t : Tok} (lt : i < j) (hx : items[i]? = some x) (r : RelV x v) (f : ∀ j', j' < j → kf i ≤ kf j' ∧ (j' < i → kf i < kf j')) (ge : ¬ kf j < kf i) : MinSt items kf (j + 1) #[v, .int (kf i) t] :=
  .best (Nat.lt_succ_of_lt lt) hx r fun j' hj => by
    rcases Nat.lt_or_ge j' j with z | z
    · exact f j' z
    · obtain rfl : j' = j := by omega
      omega
set_option maxHeartbeats 16000000 in
/-- one theorem for all turns: by how many are still to come -/
theorem min_loop {k : Nat} {q l S I : Addr} {fd : FuncData} {ps : List Str} {sp : Sp} (F : FnOk X.prog X.w X.K X.mg X.base (L2N.CX X.prog X.w) k q fd ps sp) (hr : Room k X.A.in1) (hb : Binds X.K fd ps []) (hc : X.calm = true) {items : List V} (kf : Nat → Int) {H0 : Hp} (hl : H0 l = some (.lst items)) (hne : 0 < items.length)
    (turn : ∀ i x H, Same H0 H → items[i]? = some x → ∀ Q : VK, (∀ H', Same H H' → Q (.int (kf i)) H') → sp [x] H Q (fun _ _ _ => False)) {pins : List (Addr × Obj)} {σ : L2.St} {R : Result → Shared → Prop} (hSI : S ≠ I)
    (hR : ∀ i x u H s, Inv X pins σ H s → Same H0 H → items[i]? = some x → RelV x u → (∀ j, j < items.length → kf i ≤ kf j ∧ (j < i → kf i < kf j)) → R (.ok (.ret u)) s) :
    ∀ (n j : Nat) (s : Shared) (H : Hp) (arr : Array Value) (c : Nat), j + n = items.length → MinSt items kf j arr → Inv X pins σ H s → Same H0 H → FpOk X pins H S → FpOk X pins H I → s.heap.get? S = some (seqObj "list" arr c) → s.heap.IsListIter I l j →
      codeAny (model X.prog X.w) X.A (.builtin "min.loop" ⟨[.ref I, .ref q, .ref S], []⟩) R s := by
  have again : "min.loop" = (toString "min" ++ toString ".loop" : String) := by decide
  intro n
  induction n with
  | zero =>
    intro j s H arr c hj st J sm fS fI gS hit
    have hj : j = items.length := hj
    cases st with
    | nil => exact absurd hne (by omega)
    | best lt hx rx first =>
      rename_i i x vb tb
      subst hj
      obtain ⟨us, rv, pl, _⟩ := J.list (SqL.of (sm l _ hl))
      have apart : l ≠ I := fun z => nomatch (z ▸ sm l _ hl).symm.trans fI.1
      have size : us.toArray.size = items.length := by rw [List.size_toArray, ← rv.length]
      refine codeAny_builtin PySem.F.entry_min_loop ?_; rw [Around.under_plainId PySem.F.plain_min_loop _]
      refine wpAny_bind (wpAny_seqItems gS rfl (wpAny_bind (wpAny_tryCatch ((Walks.list (prog := X.prog) (w := X.w) (A := X.A.in1) (J.ok.hd hc) I l apart us.toArray).done _ _ _ ⟨by rw [size]; exact hit, pl.isList⟩ fun h1 t1 k1 => wpAny_bind (wpAny_updateSeq (k1 S _ (by simpa using hSI) gS) rfl (wpAny_bind (wpAny_letGo (wpAny_pure ?_))))))))
      have J1 : Inv X pins σ H { s with heap := h1, toks := t1 } := J.turnedL (ch := [I]) (fun b o hb q => k1 b o hb q) (fun b hb => (List.mem_singleton.mp hb) ▸ fI)
      exact hR i x vb H _ (J1.turnedL (t' := t1) (h' := h1.update S (Obj.mapSeq fun _ => (#[] : Array Value))) (ch := [S]) (fun b o hb q => ((Heap.SameBut.update h1 S _).2 b (fun z => hb (by simp [z]))).trans q) (fun b hb => (List.mem_singleton.mp hb) ▸ fS)) sm hx rx first
  | succ n ih =>
    intro j s H arr c hj st J sm fS fI gS hit
    have hlt : j < items.length := by omega
    obtain ⟨us, rv, pl, _⟩ := J.list (SqL.of (sm l _ hl))
    have apart : l ≠ I := fun z => nomatch (z ▸ sm l _ hl).symm.trans fI.1
    have size : us.toArray.size = items.length := by rw [List.size_toArray, ← rv.length]
    obtain ⟨y, hy⟩ : ∃ y, items[j]? = some y := ⟨_, List.getElem?_eq_getElem hlt⟩
    refine codeAny_builtin PySem.F.entry_min_loop ?_; rw [Around.under_plainId PySem.F.plain_min_loop _]
    refine wpAny_bind (wpAny_seqItems gS rfl (wpAny_bind (wpAny_tryCatch ((Walks.list (prog := X.prog) (w := X.w) (A := X.A.in1) (J.ok.hd hc) I l apart us.toArray).item j _ _ _ (by rw [size]; exact hlt) ⟨hit, pl.isList⟩ fun v h1 t1 hv hst k1 => ?_))))
    obtain ⟨v', hv', ry⟩ := rv.get hy
    obtain rfl : v' = v := by simpa [hv'] using hv
    obtain ⟨oI, hoI, hoc, hod⟩ := hst.1
    have J1 : Inv X pins σ H { s with heap := h1, toks := t1 } := J.turnedL (ch := [I]) (fun b o hb q => k1 b o hb q) (fun b hb => (List.mem_singleton.mp hb) ▸ fI)
    have J2 := two_pins J1 fS fI (k1 S _ (by simpa using hSI) gS) hoI (fun v q => nomatch q) (fun v q => by rw [hod] at q; cases q)
    refine wpAny_bind (wpAny_tryCatch (wpAny_holding (wpAny_mono (run_fn1 F hr hb J2 (.cons ry .nil) (turn j y H sm hy (fun u H2 => u = .int (kf j) ∧ Same H H2) fun H2 s2 => ⟨rfl, s2⟩)) (fun u s'' he => ?_) fun _ _ hF => hF.elim)))
    obtain ⟨u', H2, J3, ru, rfl, s2⟩ := he
    obtain ⟨t2, rfl⟩ := ru
    have pS := J3.pin (S, seqObj "list" arr c) (List.mem_append_right _ (List.mem_append_right _ List.mem_cons_self))
    have pI := J3.pin (I, oI) (List.mem_append_right _ (List.mem_append_right _ (List.mem_cons_of_mem _ List.mem_cons_self)))
    have J4 : Inv X pins σ H2 s'' := J3.pins_of fun p hp => J3.pin p (List.mem_append_right _ (List.mem_append_left _ hp))
    have fS2 : FpOk X pins H2 S := ⟨pS.2.1, fS.2⟩
    have fI2 : FpOk X pins H2 I := ⟨pI.2.1, fI.2⟩
    -- the key is new, and the loop goes on
    have put : MinSt items kf (j + 1) #[v', .int (kf j) t2] → codeAny (model X.prog X.w) X.A (.builtin "min.loop" ⟨[.ref I, .ref q, .ref S], []⟩) R { s'' with heap := s''.heap.update S (Obj.mapSeq fun _ => #[v', .int (kf j) t2]) } := fun st2 =>
      have sb := Heap.SameBut.update s''.heap S (Obj.mapSeq fun _ => #[v', .int (kf j) t2])
      ih (j + 1) _ H2 _ _ (by omega) st2 (J4.turnedL (t' := s''.toks) (ch := [S]) (fun b o hb q => (sb.2 b (fun z => hb (by simp [z]))).trans q) (fun b hb => (List.mem_singleton.mp hb) ▸ fS2)) (sm.trans s2) fS2 fI2 (get?_update_seq pS.1 fun _ => #[v', .int (kf j) t2]) ⟨oI, (sb.2 I hSI.symm).trans pI.1, hoc, hod⟩
    cases st with
    | nil => exact wpAny_bind (wpAny_updateSeq pS.1 rfl (again ▸ wpAny_pure ⟨plainId_quiet PySem.F.plain_min_loop _, put (.one hy ry)⟩))
    | best lt hx rx first =>
      rename_i i x vb tb
      refine wpAny_bind (wpAny_tryCatch (wpAny_holding (wpAny_bind (CmpOf.ints_lt (prog := X.prog) (w := X.w) (A := X.A.in1) (P := fun i v => ∃ t, v = .int (kf i) t) kf (fun i v h => h) j i _ _ _ _ _ ⟨t2, rfl⟩ ⟨tb, rfl⟩ (wpAny_bind (wpAny_holding (wpAny_truthy_bool (wpAny_bind (wpAny_letGo (wpAny_pure ?_))))))))))
      by_cases less : kf j < kf i
      · rw [if_pos (show (fun i j => decide (kf i < kf j)) j i = true from decide_eq_true less)]
        exact wpAny_bind (wpAny_updateSeq pS.1 rfl (wpAny_bind (wpAny_letGo (again ▸ wpAny_pure ⟨plainId_quiet PySem.F.plain_min_loop _, put (.less first hy ry less)⟩))))
      · rw [if_neg (show ¬ (fun i j => decide (kf i < kf j)) j i = true from fun z => less (of_decide_eq_true z))]
        exact wpAny_bind (wpAny_letGo (again ▸ wpAny_pure ⟨plainId_quiet PySem.F.plain_min_loop _, ih (j + 1) _ H2 _ c (by omega) (.more lt hx rx first less) J4 (sm.trans s2) fS2 fI2 pS.1 ⟨oI, pI.1, hoc, hod⟩⟩))
set_option maxHeartbeats 16000000 in
theorem call_minK {k : Nat} {q l : Addr} {fd : FuncData} {ps : List Str} {sp : Sp} (F : FnOk X.prog X.w X.K X.mg X.base (L2N.CX X.prog X.w) k q fd ps sp) (hr : Room k X.A.in1) (hb : Binds X.K fd ps []) (hc : X.calm = true) {items : List V} (kf : Nat → Int) {H0 : Hp} (hl : H0 l = some (.lst items)) (hne : 0 < items.length)
    (turn : ∀ i x H, Same H0 H → items[i]? = some x → ∀ Q : VK, (∀ H', Same H H' → Q (.int (kf i)) H') → sp [x] H Q (fun _ _ _ => False)) {pins : List (Addr × Obj)} {σ : L2.St} {s : Shared} {Q : VK} (J : Inv X pins σ H0 s)
    (hQ : ∀ i x H, Same H0 H → items[i]? = some x → (∀ j, j < items.length → kf i ≤ kf j ∧ (j < i → kf i < kf j)) → Q x H) :
    wpAny (model X.prog X.w) X.A (call (.builtin "min") [.ref l] [(Str.ofString "key", .ref q)]) (EP X pins σ Q) X.xe s := by
  have again : "min.loop" = (toString "min" ++ toString ".loop" : String) := by decide
  obtain ⟨us, rv, pl, _⟩ := J.list (SqL.of hl)
  have one : (s.heap.push { cls := .type "list_iterator", data := .fields #[.ref l, .int 0 0] }).objs.size = s.heap.objs.size + 1 := Heap.size_push ..
  have apart : (s.heap.push { cls := .type "list_iterator", data := .fields #[.ref l, .int 0 0] }).objs.size ≠ s.heap.objs.size := fun z => Nat.succ_ne_self _ (one.symm.trans z)
  have new : ∀ b, s.heap.objs.size ≤ b → FpOk X pins H0 b := fun b h => J.fpOk h (J.hok.fresh h)
  refine kmk_tree PySem.F.kind_min PySem.F.plain_min PySem.F.entry_min (kmk_min_key _ _) (wpAny_bind (wpAny_of_eq (a := [some (.ref q), none]) rfl (wpAny_bind (wpAny_pure (wpAny_bind (wpAny_pyIter_list pl.isList (wpAny_bind (wpAny_newList ?_ (Nat.zero_le _)))))))))
  exact again ▸ wpAny_pure ⟨plainId_quiet PySem.F.plain_min_loop _, min_loop F hr hb hc kf hl hne turn apart (fun i x u H s J sm hx rx first => ⟨x, H, J, rx, hQ i x H sm hx first⟩) items.length 0 _ H0 #[] 0 (Nat.zero_add _) .nil (J.kept (t' := s.toks) fun b o e => Heap.get?_push_of_some _ (Heap.get?_push_of_some _ e)) (Same.refl H0) (new _ (by rw [one]; exact Nat.le_succ _)) (new _ (Nat.le_refl _)) (Heap.get?_push_size _ rfl) ⟨_, Heap.get?_push_of_some _ (Heap.get?_push_size _ rfl), rfl, rfl⟩⟩
def rMinK (f : Addr) (sp : Sp) (kf : Nat → Int) : List V → List V → Hp → VK → Prop := fun vs zs H Q => ∃ (l : Addr) (items : List V), vs = [.ref l] ∧ zs = [.ref f] ∧ H l = some (.lst items) ∧ 0 < items.length ∧
  (∀ i x H', Same H H' → items[i]? = some x → ∀ Q : VK, (∀ H2, Same H' H2 → Q (.int (kf i)) H2) → sp [x] H' Q (fun _ _ _ => False)) ∧ ∀ i x H', Same H H' → items[i]? = some x → (∀ j, j < items.length → kf i ≤ kf j ∧ (j < i → kf i < kf j)) → Q x H'
theorem cr_minKey {k : Nat} {q : Addr} {fd : FuncData} {ps : List Str} {sp : Sp} (F : FnOk X.prog X.w X.K X.mg X.base (L2N.CX X.prog X.w) k q fd ps sp) (hr : Room k X.A.in1) (hb : Binds X.K fd ps []) (hc : X.calm = true) (kf : Nat → Int) : CallRK X (.builtin "min") [Str.ofString "key"] (rMinK q sp kf) := by
  intro pins s σ H xs zs us ws Q I r1 r2 h
  obtain ⟨l, items, rfl, rfl, hl, hne, turn, hQ⟩ := h
  cases r1 with
  | cons a b =>
    cases b
    cases a
    cases r2 with
    | cons a b =>
      cases b
      cases a
      exact call_minK F hr hb hc kf hl hne turn I hQ
variable {δ : De} {ω : Om} {a : Expr} {d : PyData} {ds : List PyData} {pos p : Pos}
theorem pd_minK {k : Nat} {kx : Str} {kp kpos : Pos} {kf : Nat → Int} {fr : List PyData → Rs → Prop} (G : DefOk X.prog X.w X.K X.mg X.base k kx fr) (hr : Room (k + 1) X.A) (hc : X.calm = true) (hm : X.mg "min" = none) (ha : PN X δ ω a ds) (hne : 0 < ds.length) (hf : ∀ i e, ds[i]? = some e → fr [e] (.ok (.int (kf i))))
    (hd : ∀ i e, ds[i]? = some e → (∀ j, j < ds.length → kf i ≤ kf j ∧ (j < i → kf i < kf j)) → e = d) (hg : Gl X "min" := by rfl) (hgk : Gl X kx := by rfl) (hdk : (kx == ("__debug__" : Str)) = false := by decide) (hs : starEach [a] X.env = (false, eval a X.env) :: starEach [] X.env := by rfl)
    (he : backTo pos (starEach [a] X.env) = (false, eval a X.env) :: backTo pos (starEach [] X.env) := by rfl) (hpl : (backTo pos (starEach [a] X.env)).any (·.1) = false := by rfl)
    (hall : (backToKw pos (keywordEach [⟨some "key", .Name kx kp, kpos⟩] X.env)).all (·.1.isSome) = true := by rfl) (hnone : (backToKw pos (keywordEach [⟨some "key", .Name kx kp, kpos⟩] X.env)).any (·.1.isNone) = false := by rfl) (hks : (backToKw pos (keywordEach [⟨some "key", .Name kx kp, kpos⟩] X.env)).filterMap (·.1) = [Str.ofString "key"] := by rfl) :
    PD X δ ω (.Call (.Name "min" p) [a] [⟨some "key", .Name kx kp, kpos⟩] pos) d := fun σ H rl Q q => by
  obtain ⟨f, fd, ps, F, m, kpp, b⟩ := G.ex
  refine we (pe_callBK (cr_minKey F hr.in1 b hc kf) hg hm PyProof.Rows.boot_min (pa_cons pe_w pa_nil hs) (pk_cons (pe_glob (v := .ref f) hgk m rfl hdk) pk_nil) (by decide) (by decide) he hpl hall hnone hks) ?_
  refine ha σ H rl _ fun l vs H1 s1 np h1 d1 => ?_
  have lv : vs.length = ds.length := dpa_len d1
  have get : ∀ i x, vs[i]? = some x → ∃ e, ds[i]? = some e ∧ Dp X.K (hid (l :: ads ω) H1) x e := fun i x hx => dpa_get' d1 hx
  refine ⟨l, vs, rfl, rfl, h1, by rw [lv]; exact hne, fun i x H2 s2 hx Q2 hQ2 => ?_, fun i x H2 s2 hx hbest => ?_⟩
  · obtain ⟨e, h3, h4⟩ := get i x hx
    exact ⟨ads ω, [e], .ok (.int (kf i)), there_mono rl.ro.there (s1.trans s2), .cons (dpm (hid_cons.trans (hid_same s2)) h4) .nil, hf i e h3, fun v H3 s3 d3 => by
      cases d3
      exact hQ2 H3 s3⟩
  · obtain ⟨e, h3, h4⟩ := get i x hx
    have ed := hd i e h3 (by rw [← lv]; exact hbest)
    subst ed
    exact q x H2 (s1.trans s2) (dpm (hid_cons.trans (hid_same s2)) h4)
end
end FP

namespace FP
open PySem PySem.Spec PyProof.Rows L2 HotX L2H
/-! ### sorted(range(a, b), key=abs) -/
section
variable {X : Cx} {pins : List (Addr × Obj)} {σ : L2.St} {H : Hp} {s : Shared} {h' : Heap}
theorem inv_nsNew {t' : Nat} {T : Addr} {ob : HO} {m : Str → Option Value} (J : Inv X pins σ H s) (hm : s.heap.Ns X.env.locals m) (hm' : h'.Ns X.env.locals m) (k : ∀ b o, b ≠ X.env.locals → s.heap.get? b = some o → h'.get? b = some o) (hT : s.heap.objs.size ≤ T)
    (new : ObjOk X.prog X.w (upd H T ob) h' T ob) : Inv X pins σ (upd H T ob) { s with heap := h', toks := t' } := by
  have hn : H T = none := J.hok.fresh hT
  have nL : ∀ b u, H b = some u → b ≠ X.env.locals := fun b u e z => by
    rw [z, J.free] at e
    cases e
  refine J.step (g' := s.gens) (d' := s.drawn) (ch := []) (fun b hb => (List.not_mem_nil hb).elim) (fun b o nb _ _ e _ => k b o nb e) (fun b o nb _ _ e _ => ⟨o.slots, k b o nb e⟩)
    (fun b o _ e n => ?_) (fun b o _ e => ?_) (fun b xs e => ?_) (fun b o u e => ?_) (fun b ps e => ⟨#[], ?_⟩) (fun m2 h2 => ?_) (fun b u e => ?_) J.bare
  · rw [upd_ne (Nat.ne_of_lt (Nat.lt_of_lt_of_le (Heap.lt_size e) hT))]; exact n
  · by_cases hb : b = X.env.locals
    · obtain ⟨o2, _, _, ho2, _⟩ := hm'
      rw [hb]
      exact ⟨o2, ho2⟩
    · exact ⟨o, k b o hb e⟩
  · rw [upd_ne (ne_of_none e hn)]; exact e
  · rw [upd_ne (ne_of_none e hn)]; exact e
  · rw [upd_ne (ne_of_none e hn), e]; simp
  · have : m2 = m := funext fun x => h2.agree hm x
    rw [this]
    exact hm'
  · by_cases hb : b = T
    · subst hb
      rw [upd_same] at e
      cases e
      exact new
    · rw [upd_ne hb] at e
      refine (J.hok b u e).stay (fun c v hc q => k c v ?_ q) (fun c q => by rw [upd_ne (ne_of_none q hn)]; exact q) fun c xs q => by rw [upd_ne (ne_of_none q hn)]; exact q
      rcases hc with z | z
      · rw [z]; exact nL b u e
      · exact nL c _ z
theorem vals_ints : ∀ {us : List Value} {ns : List Int}, IntsAre us ns → Vals (ns.map V.int) us
  | _, _, .nil => .nil
  | _, _, .cons n t h => .cons ⟨t, rfl⟩ (vals_ints h)
def absI (n : Int) : Int := if n < 0 then -n else n
/-- how the numbers stand then -/
structure AbsSorted (ns' ns : List Int) : Prop where
  perm : ns'.Perm ns
  ord : ns'.Pairwise fun x y => absI x ≤ absI y
  stay : ∀ z, ns'.filter (fun x => absI x == z) = ns.filter (fun x => absI x == z)
def rgI (a b : Int) : List Int := (List.range (b - a).toNat).map fun (i : Nat) => a + (i : Int)
theorem rgV_I (a b : Int) : rgV a b = (rgI a b).map V.int := by
  unfold rgV rgI
  rw [List.map_map]
  rfl
/-- a number with its key -/
def kyd (v : Value) : Int × Value := (absI (numOf v), v)
theorem zip_kyd : ∀ {vs : List Value} {ns : List Int}, IntsAre vs ns → (ns.map absI).zip vs = vs.map kyd ∧ ns = vs.map numOf
  | _, _, .nil => ⟨rfl, rfl⟩
  | _, _, .cons n t h => by
    obtain ⟨e1, e2⟩ := zip_kyd h
    refine ⟨?_, congrArg (List.cons n) e2⟩
    exact congrArg (List.cons (absI n, _)) e1
theorem ints_num : ∀ {vs : List Value}, (∀ v ∈ vs, ∃ n t, v = .int n t) → IntsAre vs (vs.map numOf)
  | [], _ => .nil
  | v :: vs, h => by
    obtain ⟨n, t, rfl⟩ := h v List.mem_cons_self
    exact .cons n t (ints_num fun u hu => h u (List.mem_cons_of_mem _ hu))
theorem ints_all : ∀ {vs : List Value} {ns : List Int}, IntsAre vs ns → ∀ v ∈ vs, ∃ n t, v = Value.int n t
  | _, _, .nil, v, hv => (List.not_mem_nil hv).elim
  | _, _, .cons n t h, v, hv => (List.mem_cons.mp hv).elim (fun e => ⟨n, t, e⟩) fun e => ints_all h v e
theorem out_abs {ns : List Int} {vs out : List Value} (hi : IntsAre vs ns) (ko : KskOutSt false (ns.map absI) vs out) : ∃ ns', IntsAre out ns' ∧ AbsSorted ns' ns := by
  obtain ⟨ez, en⟩ := zip_kyd hi
  obtain ⟨ps, pm, eo, od, st⟩ := ko
  rw [ez] at pm st
  -- each pair is a number with its key
  have eps : ps = out.map kyd := by
    rw [eo, List.map_map]
    conv => lhs; rw [← List.map_id ps]
    refine List.map_congr_left fun p hp => ?_
    obtain ⟨v, _, rfl⟩ := List.mem_map.mp (pm.mem_iff.mp hp)
    rfl
  have po : out.Perm vs := by
    have := pm.map Prod.snd
    rw [← eo, List.map_map] at this
    have e : vs.map (Prod.snd ∘ kyd) = vs := List.map_id'' (fun _ => rfl) vs
    rwa [e] at this
  refine ⟨out.map numOf, ints_num fun v hv => ints_all hi v (po.mem_iff.mp hv), by rw [en]; exact po.map numOf, ?_, fun z => ?_⟩
  · rw [eps, List.pairwise_map] at od
    rw [List.pairwise_map]
    exact od.imp fun h => by simpa [kyd] using h
  · have := congrArg (List.map fun p : Int × Value => numOf p.2) (st z)
    rw [eps, List.filter_map, List.filter_map, List.map_map, List.map_map] at this
    rw [en, List.filter_map, List.filter_map]
    exact this
set_option maxHeartbeats 16000000 in
theorem call_sortedAbs {r : Addr} {a b : Int} {t u v : Tok} {Q : VK} (J : Inv X pins σ H s) (hc : X.calm = true) (hr : IsRange s.heap r a b 1 t u v) (ok : RgOk a b) (hn : (b - a).toNat ≤ 100000)
    (q : ∀ (ns' : List Int) (p : Addr), AbsSorted ns' (rgI a b) → H p = none → Q (.ref p) (upd H p (.lst (ns'.map V.int)))) :
    wpAny (model X.prog X.w) X.A (call (.builtin "sorted") [.ref r] [(Str.ofString "key", .builtin "abs")]) (EP X pins σ Q) X.xe s := by
  obtain ⟨b1, b2, b3, b4, b5⟩ := ok
  refine call_function_entry_kw kind_sorted plain_sorted entry_sorted (ksk_s1 _ _) ?_
  unfold Builtin.«sorted»
  refine wpAny_bind (m := checkCount "sorted" 1 1 _) (wpAny_pure ?_)
  refine wpAny_bind (collect_range (n := (b - a).toNat) (J.ok.hd hc) hr (small_one b1 b2 b3 b4) (rangeSize_nat a b) b5 fun h1 tk1 acc hk1 hi => ?_)
  have V1 := vals_rg hi
  rw [rgV_I] at V1
  have I1 : IntsAre acc.toList (rgI a b) := RZ.intsAre_vals V1
  have la : acc.toList.length = (b - a).toNat := by rw [← V1.length, List.length_map]; unfold rgI; simp
  refine wpAny_bind (wpAny_newList ?_ (by rw [la, sizeLine_eq]; omega))
  have J1 : Inv X pins σ H { s with heap := h1, toks := tk1 } := J.kept hk1
  have J2 : Inv X pins σ H { s with heap := h1.push (seqObj "list" acc.toList.toArray 0), toks := tk1 } := J.kept fun b o e => Heap.get?_push_of_some _ (hk1 b o e)
  have hoL : (h1.push (seqObj "list" acc.toList.toArray 0)).get? h1.objs.size = some (seqObj "list" acc.toList.toArray 0) := Heap.get?_push_size _ rfl
  obtain ⟨m, F⟩ := J2.fr
  have hL1 : X.env.locals < h1.objs.size := J1.lt
  have hDL : h1.objs.size ≠ X.env.locals := Nat.ne_of_gt hL1
  have hD0 : X.base.get? h1.objs.size = none := Heap.get?_none_of_le (Nat.le_trans F.above (Nat.le_of_lt hL1))
  generalize hG : h1.push (seqObj "list" acc.toList.toArray 0) = G at J2 hoL F
  have newsN : ∃ news : List (Addr × Obj), News X.base X.env.locals G news ∧ (∀ p ∈ news, p.1 ≠ h1.objs.size) ∧ ∀ b o, b ≠ X.env.locals → b ≠ h1.objs.size → X.base.get? b = none → G.get? b = some o → (b, o) ∈ news := by
    refine ⟨(List.range G.objs.size).filterMap fun b => if b = X.env.locals ∨ b = h1.objs.size ∨ X.base.get? b ≠ none then none else (G.get? b).map fun o => (b, o), fun p hp => ?_, fun p hp => ?_, fun b o n1 n2 n3 e => ?_⟩
    · obtain ⟨b, _, hb⟩ := List.mem_filterMap.mp hp
      split at hb
      · cases hb
      · rename_i hn'
        cases e : G.get? b with
        | none => rw [e] at hb; cases hb
        | some o =>
          rw [e] at hb
          cases hb
          refine ⟨e, fun z => hn' (.inl z), ?_⟩
          cases z : X.base.get? b with
          | none => rfl
          | some y => exact (hn' (.inr (.inr (by rw [z]; exact fun w => by cases w)))).elim
    · obtain ⟨b, _, hb⟩ := List.mem_filterMap.mp hp
      split at hb
      · cases hb
      · rename_i hn'
        cases e : G.get? b with
        | none => rw [e] at hb; cases hb
        | some o =>
          rw [e] at hb
          cases hb
          exact fun z => hn' (.inr (.inl z))
    · refine List.mem_filterMap.mpr ⟨b, List.mem_range.mpr (Heap.lt_size e), ?_⟩
      rw [if_neg (by
        rintro (z | z | z)
        · exact n1 z
        · exact n2 z
        · exact z n3), e]
      rfl
  obtain ⟨news, N, hna, full⟩ := newsN
  have hlen : ((rgI a b).map absI).length = acc.toList.length := by rw [List.length_map, I1.length]
  refine wpAny_bind (wpAny_holding (wpAny_call_entry_kw slot_list_sort (s := { s with heap := G, toks := tk1 }) ⟨_, hoL, rfl⟩ entry_list_sort ?body (ksk_l1 _ _)))
  case body =>
    show wpAny (model X.prog X.w) X.A.in1.in1 (Builtin.«list.sort» ⟨[.ref h1.objs.size], [(Str.ofString "key", .builtin "abs")]⟩) _ _ _
    rw [ksk_t4]
    refine ksk_sortSt (b := false) (kz := (rgI a b).map absI) (vs := acc.toList) (s := { s with heap := G, toks := tk1 }) F N hoL hDL hD0 hna hlen (by rw [la, sizeLine_eq]; omega) (fun i v k hv hk h tk own F' N' => ?_) fun h2 tk out c F' N' k' => ⟨_, rfl, ?_⟩
    · rw [List.getElem?_map] at hk
      cases qn : (rgI a b)[i]? with
      | none => rw [qn] at hk; cases hk
      | some n =>
        rw [qn] at hk
        cases hk
        obtain ⟨t2, ht2⟩ := I1.get i n qn
        rw [ht2] at hv
        cases hv
        exact call_abs_int fun u2 tk2 => KskEnd.intro F' N' fun p hp => hp
    · refine wpAny_pure ⟨_, rfl, ?_⟩
      obtain ⟨ns', hI', srt⟩ := out_abs I1 k'
      have pD := N' (h1.objs.size, seqObj "list" out c) List.mem_cons_self
      have keep : ∀ b o, b ≠ X.env.locals → h1.get? b = some o → h2.get? b = some o := fun b o n1 e => by
        have nD : b ≠ h1.objs.size := Nat.ne_of_lt (Heap.lt_size e)
        have eG : G.get? b = some o := by rw [← hG]; exact Heap.get?_push_of_some _ e
        cases eb : X.base.get? b with
        | none => exact (N' (b, o) (List.mem_cons_of_mem _ (full b o n1 nD eb eG))).1
        | some o2 =>
          have e2 := F.keep b o2 eb
          rw [eG] at e2
          cases e2
          exact F'.keep b _ eb
      have nsG : h1.Ns X.env.locals m := by
        obtain ⟨o, es, ep, ho, rr⟩ := F.ns
        refine ⟨o, es, ep, ?_, rr⟩
        rw [← hG, Heap.get?_push_ne _ _ _ (Ne.symm hDL)] at ho
        exact ho
      have lo : ns'.length = (b - a).toNat := by rw [srt.perm.length_eq]; unfold rgI; simp
      have new : ObjOk X.prog X.w (upd H h1.objs.size (.lst (ns'.map V.int))) h2 h1.objs.size (.lst (ns'.map V.int)) := ⟨by rw [List.length_map, lo, sizeLine_eq]; omega, out.toList, c, vals_ints hI', by rw [Array.toArray_toList]; exact pD.1⟩
      have J3 := inv_nsNew (t' := tk) J1 nsG F'.ns keep (Nat.le_refl _) new
      exact ⟨.ref h1.objs.size, _, J3, rfl, q ns' _ srt (J1.hok.fresh (Nat.le_refl _))⟩
/-! ### which list it is -/
theorem abs_unique : ∀ (l1 l2 : List Int), l1.Pairwise (fun x y => absI x ≤ absI y) → l2.Pairwise (fun x y => absI x ≤ absI y) → (∀ z, l1.filter (fun x => absI x == z) = l2.filter (fun x => absI x == z)) → l1 = l2
  | [], [], _, _, _ => rfl
  | [], y :: t, _, _, h => by
    have := h (absI y)
    rw [List.filter_cons, if_pos (by simp)] at this
    cases this
  | x :: t, [], _, _, h => by
    have := h (absI x)
    rw [List.filter_cons, if_pos (by simp)] at this
    cases this
  | x :: t1, y :: t2, h1, h2, h => by
    obtain ⟨a1, b1⟩ := List.pairwise_cons.mp h1
    obtain ⟨a2, b2⟩ := List.pairwise_cons.mp h2
    have le1 : absI y ≤ absI x := by
      have m : x ∈ (y :: t2).filter (fun w => absI w == absI x) := by
        rw [← h (absI x)]
        exact List.mem_filter.mpr ⟨List.mem_cons_self, by simp⟩
      rcases List.mem_cons.mp (List.mem_filter.mp m).1 with e | e
      · rw [e]; exact Int.le_refl _
      · exact a2 x e
    have le2 : absI x ≤ absI y := by
      have m : y ∈ (x :: t1).filter (fun w => absI w == absI y) := by
        rw [h (absI y)]
        exact List.mem_filter.mpr ⟨List.mem_cons_self, by simp⟩
      rcases List.mem_cons.mp (List.mem_filter.mp m).1 with e | e
      · rw [e]; exact Int.le_refl _
      · exact a1 y e
    have ek : absI x = absI y := by omega
    have hh := h (absI x)
    rw [List.filter_cons, if_pos (by simp), List.filter_cons, if_pos (by simp [ek])] at hh
    injection hh with e1 e2
    subst e1
    have rest : t1 = t2 := abs_unique t1 t2 b1 b2 fun z => by
      by_cases hz : absI x = z
      · subst hz
        exact e2
      · have := h z
        rw [List.filter_cons, if_neg (by simpa using hz), List.filter_cons, if_neg (by simpa using hz)] at this
        exact this
    rw [rest]
open Classical in
noncomputable def rollsOf (ns : List Int) : List Int := if h : ∃ l, AbsSorted l ns then Classical.choose h else []
theorem rolls_is {l ns : List Int} (h : AbsSorted l ns) : l = rollsOf ns ∧ AbsSorted (rollsOf ns) ns := by
  have hex : ∃ l, AbsSorted l ns := ⟨l, h⟩
  have hs : AbsSorted (rollsOf ns) ns := by
    unfold rollsOf
    rw [dif_pos hex]
    exact Classical.choose_spec hex
  exact ⟨abs_unique _ _ h.ord hs.ord fun z => (h.stay z).trans (hs.stay z).symm, hs⟩
variable {δ : De} {ω : Om} {a b : Expr} {d : PyData} {ds : List PyData} {pos p : Pos}
def tSortRg (te : L2.St → Hp → (Int → Int → Hp → Prop) → Prop) : TE := fun σ H Q => te σ H fun i j H1 => RgOk i j ∧ (j - i).toNat ≤ 100000 ∧ ∀ ns' q, AbsSorted ns' (rgI i j) → H1 q = none → Q (.ref q) (upd H1 q (.lst (ns'.map V.int)))
theorem pe_sortedAbs {te : L2.St → Hp → (Int → Int → Hp → Prop) → Prop} {e : Expr} {kp kpos : Pos} (hc : X.calm = true) (hg : Gl X "sorted") (hm : X.mg "sorted" = none) (hga : Gl X "abs") (hma : X.mg "abs" = none) (he : PRg X e te) (na : starEach [e] X.env = (false, eval e X.env) :: starEach [] X.env := by rfl)
    (hb : backTo pos (starEach [e] X.env) = (false, eval e X.env) :: backTo pos (starEach [] X.env) := by rfl) (hpl : (backTo pos (starEach [e] X.env)).any (·.1) = false := by rfl) : PE X (.Call (.Name "sorted" p) [e] [⟨some "key", .Name "abs" kp, kpos⟩] pos) (tSortRg te) := by
  refine ⟨fun pins s σ H Q I h => ?_⟩
  refine wpAny_Call_Name_kw (ld_blt I hg hm PyProof.Rows.boot_sorted ?_)
  refine PyProof.Rows.callWith_kw (args_cons (thn (he pins s σ H _ I h) fun x s1 ⟨r, i, j, t, u, v, H1, ex, hr, I1, ok, hn, q⟩ => args_nil ?_) na) hb hpl (by rfl) (by rfl)
  subst ex
  show wpAny _ _ (evalAll ((do let v ← eval (.Name "abs" kp) X.env; standAt pos; pure v) :: [])) _ _ s1
  refine wpAny_evalAll_cons (wpAny_bind (ld_blt I1 hga hma PyProof.Rows.boot_abs (wpAny_bind (wpAny_standAt (wpAny_pure (wpAny_evalAll_nil ?_))))))
  exact call_sortedAbs I1 hc hr ok hn q
theorem pn_sortedAbs {i j : Int} {p2 q2 kp kpos : Pos} (hc : X.calm = true) (hm : X.mg "sorted" = none) (hmr : X.mg "range" = none) (hma : X.mg "abs" = none) (ha : PD X δ ω a (.int i)) (hb : PD X δ ω b (.int j)) (ok : RgOk i j) (hn : (j - i).toNat ≤ 100000)
    (hg : Gl X "sorted" := by rfl) (hgr : Gl X "range" := by rfl) (hga : Gl X "abs" := by rfl) (na : starEach [a, b] X.env = (false, eval a X.env) :: starEach [b] X.env := by rfl)
    (nb : starEach [b] X.env = (false, eval b X.env) :: starEach [] X.env := by rfl) (hp : (backTo q2 (starEach [b] X.env)).any (·.1) = false := by rfl) (ne : starEach [.Call (.Name "range" p2) [a, b] [] q2] X.env = (false, eval (.Call (.Name "range" p2) [a, b] [] q2) X.env) :: starEach [] X.env := by rfl)
    (hb2 : backTo pos (starEach [.Call (.Name "range" p2) [a, b] [] q2] X.env) = (false, eval (.Call (.Name "range" p2) [a, b] [] q2) X.env) :: backTo pos (starEach [] X.env) := by rfl) (hpl : (backTo pos (starEach [.Call (.Name "range" p2) [a, b] [] q2] X.env)).any (·.1) = false := by rfl) :
    PN X δ ω (.Call (.Name "sorted" p) [.Call (.Name "range" p2) [a, b] [] q2] [⟨some "key", .Name "abs" kp, kpos⟩] pos) ((rollsOf (rgI i j)).map .int) := fun σ H rl Q k => by
  refine we (pe_sortedAbs hc hg hm hga hma (prg_2 hgr hmr pe_w pe_w na nb hp) ne hb2 hpl) ?_
  refine ha σ H rl _ fun x H1 s1 d1 => hb σ H1 (rl.mono s1) _ fun y H2 s2 d2 => ?_
  cases d1
  cases d2
  refine ⟨i, j, rfl, rfl, ok, hn, fun ns' q srt nq => ?_⟩
  obtain ⟨e, _⟩ := rolls_is srt
  subst e
  have sq : Same H2 (upd H2 q (.lst ((rollsOf (rgI i j)).map V.int))) := fun b o h => by
    rw [upd_ne (fun z => by rw [z, nq] at h; cases h)]
    exact h
  refine k q _ _ ((s1.trans s2).trans sq) ?_ upd_same (dpa_ints _)
  cases e0 : H q with
  | none => rfl
  | some o =>
    have := (s1.trans s2) q o e0
    rw [nq] at this
    cases this
end
end FP

namespace FP
open PySem PySem.Spec PyProof.Rows L2 HotX L2H
/-! ### [elt for a, b in pairs] -/
section
variable {X : Cx} {δ : De} {ω : Om} {iter elt : Expr} {pos : Pos}
theorem pn_lc2 {scope : Scope} {n1 n2 : Str} {j1 j2 : Nat} {es : List Expr} {kk : Nat} {tp : Pos} (ls : List (PyData × PyData)) {zs : List PyData} (hc : X.calm = true) (hN : X.N.Nodup) (hw : PWs X δ ω (.Tuple es kk tp) iter (ls.map fun q => .tuple [q.1, q.2])) (hl : zs.length = ls.length) (hz : ls.length ≤ 10000)
    (ok : BlkOk X.N X.env.scope scope [(n1, j1), (n2, j2)]) (hg : ∀ (s : Shared) (H : Hp) (C : Addr) (cl : List (Str × Addr)) (fp : List Addr), PG (X.blk s H scope (compEnvC scope cl C X.env) fp) (.Tuple es kk tp) (gTup X.K 2 (gAll [j1, j2])))
    (he : ∀ (i : Nat) (l m z : PyData), ls[i]? = some (l, m) → zs[i]? = some z → ∀ D o (s : Shared) (H : Hp) (C : Addr) (cl : List (Str × Addr)) (fp : List Addr), PD (X.blk s H scope (compEnvC scope cl C X.env) fp) (((wipeD δ [j1, j2]).set j1 (some (.im l))).set j2 (some (.im m))) (omD ω D o) elt z)
    (hs : ∀ x, foldedSetIterable iter X.env x = pure x := by intro _; rfl) : PN X δ ω (.ListComp elt [⟨.Tuple es kk tp, iter, [], 0⟩] scope pos) zs := fun σ H rl Q k => by
  obtain ⟨wi, h1, h2⟩ := hw
  refine we (pe_lc (own := [(n1, j1), (n2, j2)]) hc hN h1 ok hg (fun _ _ _ _ _ => pts_nil) (fun s H0 C cl fp => pe_blk s H0 C cl fp) hs) ?_
  refine h2 σ H rl _ fun J H1 s1 w => fun D hD => ?_
  have rl1 := rl.mono s1
  refine ⟨fun i m H2 => m = ls.length - i ∧ i ≤ ls.length ∧ Same H1 H2 ∧ ∃ vs, H2 D = some (.lst vs) ∧ DpAll X.K (hid (ads (omD ω D (.lst ((zs.take i).map .im)))) H2) vs (zs.take i), ⟨ls.length, by omega, Nat.zero_le _, same_new hD, [], upd_same, by rw [List.take_zero]; exact .nil⟩, ?_⟩
  rintro i m H2 ⟨em, hi, s2, vs, hv, dv⟩
  obtain ⟨go, stop, yld⟩ := w H2 s2
  rw [List.length_map] at go stop yld
  by_cases hlt : i < ls.length
  · have el : ls[i]? = some ls[i] := List.getElem?_eq_getElem hlt
    have ez : zs[i]? = some zs[i] := List.getElem?_eq_getElem (by omega)
    refine .inr ⟨go i hlt, fun H3 => Same H1 H3 ∧ ∃ vs, H3 D = some (.lst vs) ∧ DpAll X.K (hid (ads (omD ω D (.lst ((zs.take (i + 1)).map .im)))) H3) vs (zs.take (i + 1)), fun H3 ⟨s3, h3⟩ => ⟨ls.length - (i + 1), by omega, rfl, hlt, s3, h3⟩, fun x H3 hy => ?_⟩
    obtain ⟨e3, d, ed, dx⟩ := yld i x H3 hlt hy
    subst e3
    rw [List.getElem?_map, el] at ed
    cases ed
    cases dx with
    | tup c1 c2 =>
      cases c2 with
      | cons c3 c4 =>
        cases c4 with
        | cons c5 c6 =>
          cases c6
          rename_i qw w1 w2
          refine ⟨qw, [w1, w2], rfl, same_sqt s2 (same_sqt hid_sub c1), rfl, ?_⟩
          refine ⟨w1, _, rfl, ?_⟩
          refine ⟨w2, [], rfl, ?_⟩
          refine ⟨rfl, ?_, ?_⟩
          · rw [wipe_mem (by simp), wipe_mem (by simp), wipe_wipe (fun v h => h)]
          · have rl3 := rl1.omD hD s2 hv dv
            have rl4 := rl_wipe rl3 [j1, j2]
            have up := hid_in (ω := ω) (o := .lst ((zs.take i).map .im)) hD s2
            have rl5 := (rl4.set (i := j1) (x := .im ls[i].1) (v := w1) (dpm up c3)).set (i := j2) (x := .im ls[i].2) (v := w2) (dpm up c5)
            intro s H0 C cl fp
            refine he i ls[i].1 ls[i].2 zs[i] el ez D _ s H0 C cl fp _ _ rl5 _ fun v H4 s4 d4 => ⟨vs, s4 D _ hv, ?_, same_upd_new hD (s2.trans s4), vs ++ [v], upd_same, ?_⟩
            · rw [dpa_len dv, List.length_take]
              refine Nat.lt_of_le_of_lt (Nat.min_le_left _ _) (Nat.lt_of_lt_of_le hlt (Nat.le_trans hz ?_))
              rw [sizeLine_eq]
              decide
            · rw [List.take_add_one, ez]
              exact dpa_app (dpam hid_upd (dpam (hid_same s4) dv)) (.cons (dpm hid_upd d4) .nil)
  · have e : i = ls.length := by omega
    subst e
    refine .inl ⟨stop, ?_⟩
    rw [List.take_of_length_le (by omega)] at dv
    exact k D vs H2 (s1.trans s2) (s1.free hD) hv (dpam (hid_more fun b h => ads_omD.mpr (List.mem_cons.mp h)) dv)
end
end FP

namespace FP
open PySem
/-! ### zip, whatever became of the pair that it told last -/
abbrev zr (f0 : Value) (f : Bool) (TI TO : Addr) : Obj := { cls := .type "zip", dict := none, data := .fields #[f0, .bool f, .bool false, .ref TI, .ref TO], slots := #[] }
def Lent (v : Value) : Prop := v = .none ∨ ∃ T : Addr, v = rawInt T
/-- within a turn: base is the heap at its start -/
structure Zm (S1 S2 : Nat → Heap → Prop) (z TI TO i1 i2 : Addr) (base : Heap) (j1 j2 : Nat) (f0 : Value) (f : Bool) (a b : Value) (h : Heap) : Prop where
  sz : h.objs.size = base.objs.size
  kp : ∀ c o, c ∉ [z, TO, i1, i2] → base.get? c = some o → h.get? c = some o
  rz : h.get? z = some (zr f0 f TI TO)
  ri : IsPair h TI (.ref i1) (.ref i2)
  ro : IsPair h TO a b
  s1 : S1 j1 h
  s2 : S2 j2 h
/-- behind a turn: the new pair stands at the end -/
structure Zf (S1 S2 : Nat → Heap → Prop) (z TI TO i1 i2 : Addr) (base : Heap) (j : Nat) (f0 : Value) (x y : Value) (h : Heap) : Prop where
  sz : h.objs.size = base.objs.size + 1
  kp : ∀ c o, c ∉ [z, TO, i1, i2] → base.get? c = some o → h.get? c = some o
  rz : ∃ f, h.get? z = some (zr f0 f TI TO)
  ri : IsPair h TI (.ref i1) (.ref i2)
  ro : ∃ a b, IsPair h TO a b
  s1 : S1 j h
  s2 : S2 j h
  new : IsPair h base.objs.size x y
section
variable {prog : Program} {w : World} {A : Around} {E : Value → Shared → Prop} {s : Shared} {z TI TO i1 i2 : Addr} {fp1 fp2 : List Addr} {n1 n2 i j1 j2 : Nat} {P1 P2 : Nat → Value → Prop} {S1 S2 : Nat → Heap → Prop} {a b a' b' f0 f0' : Value} {f f' : Bool} {base h h' : Heap}
theorem Zm.setz (m : Zm S1 S2 z TI TO i1 i2 base j1 j2 f0 f a b h) (S : ZipSep2 z TI TO i1 i2 fp1 fp2) (D1 : Draws prog w A i1 fp1 n1 P1 S1) (D2 : Draws prog w A i2 fp2 n2 P2 S2) (sb : Heap.SameBut z h h') (e : h'.get? z = some (zr f0' f' TI TO)) : Zm S1 S2 z TI TO i1 i2 base j1 j2 f0' f' a b h' :=
  ⟨sb.1.trans m.sz, fun c o hc q => (sb.2 c fun y => hc (by simp [y])).trans (m.kp c o hc q), e, (sb.2 _ S.TIz).trans m.ri, (sb.2 _ S.TOz).trans m.ro, D1.over m.s1 sb S.zf1, D2.over m.s2 sb S.zf2⟩
theorem Zm.seto (m : Zm S1 S2 z TI TO i1 i2 base j1 j2 f0 f a b h) (S : ZipSep2 z TI TO i1 i2 fp1 fp2) (D1 : Draws prog w A i1 fp1 n1 P1 S1) (D2 : Draws prog w A i2 fp2 n2 P2 S2) (sb : Heap.SameBut TO h h') (e : IsPair h' TO a' b') : Zm S1 S2 z TI TO i1 i2 base j1 j2 f0 f a' b' h' :=
  ⟨sb.1.trans m.sz, fun c o hc q => (sb.2 c fun y => hc (by simp [y])).trans (m.kp c o hc q), (sb.2 _ S.TOz.symm).trans m.rz, (sb.2 _ S.TITO).trans m.ri, e, D1.over m.s1 sb S.Tf1, D2.over m.s2 sb S.Tf2⟩
theorem Zm.one (m : Zm S1 S2 z TI TO i1 i2 base j1 j2 f0 f a b h) (S : ZipSep2 z TI TO i1 i2 fp1 fp2) (D2 : Draws prog w A i2 fp2 n2 P2 S2) (sb : Heap.SameBut i1 h h') (e : S1 (j1 + 1) h') : Zm S1 S2 z TI TO i1 i2 base (j1 + 1) j2 f0 f a b h' :=
  ⟨sb.1.trans m.sz, fun c o hc q => (sb.2 c fun y => hc (by simp [y])).trans (m.kp c o hc q), (sb.2 _ S.zi1).trans m.rz, (sb.2 _ S.TIi1).trans m.ri, (sb.2 _ S.Ti1).trans m.ro, e, D2.over m.s2 sb S.sep1_2⟩
theorem Zm.two (m : Zm S1 S2 z TI TO i1 i2 base j1 j2 f0 f a b h) (S : ZipSep2 z TI TO i1 i2 fp1 fp2) (D1 : Draws prog w A i1 fp1 n1 P1 S1) (sb : Heap.SameBut i2 h h') (e : S2 (j2 + 1) h') : Zm S1 S2 z TI TO i1 i2 base j1 (j2 + 1) f0 f a b h' :=
  ⟨sb.1.trans m.sz, fun c o hc q => (sb.2 c fun y => hc (by simp [y])).trans (m.kp c o hc q), (sb.2 _ S.zi2).trans m.rz, (sb.2 _ S.TIi2).trans m.ri, (sb.2 _ S.Ti2).trans m.ro, D1.over m.s1 sb S.sep2_1, e⟩
theorem Zm.push {x y : Value} (m : Zm S1 S2 z TI TO i1 i2 base i i f0 f a b h) (D1 : Draws prog w A i1 fp1 n1 P1 S1) (D2 : Draws prog w A i2 fp2 n2 P2 S2) : Zf S1 S2 z TI TO i1 i2 base i f0 x y (h.push { cls := .type "tuple", data := .seq #[x, y] }) :=
  have up : ∀ c o, h.get? c = some o → (h.push { cls := .type "tuple", data := .seq #[x, y] }).get? c = some o := fun c o q => Heap.get?_push_of_some _ q
  ⟨by rw [Heap.size_push, m.sz], fun c o hc q => up c o (m.kp c o hc q), ⟨f, up _ _ m.rz⟩, up _ _ m.ri, ⟨a, b, up _ _ m.ro⟩, D1.frame _ _ _ m.s1 fun c _ o q => up c o q, D2.frame _ _ _ m.s2 fun c _ o q => up c o q, by rw [← m.sz]; exact Heap.get?_push_size _ rfl⟩
theorem Zf.setz {x y : Value} (m : Zf S1 S2 z TI TO i1 i2 base i f0 x y h) (S : ZipSep2 z TI TO i1 i2 fp1 fp2) (D1 : Draws prog w A i1 fp1 n1 P1 S1) (D2 : Draws prog w A i2 fp2 n2 P2 S2) (hl : z < base.objs.size) (sb : Heap.SameBut z h h') (e : h'.get? z = some (zr f0' f' TI TO)) : Zf S1 S2 z TI TO i1 i2 base i f0' x y h' :=
  ⟨sb.1.trans m.sz, fun c o hc q => (sb.2 c fun y => hc (by simp [y])).trans (m.kp c o hc q), ⟨f', e⟩, (sb.2 _ S.TIz).trans m.ri, m.ro.imp fun _ q => q.imp fun _ q => (sb.2 _ S.TOz).trans q, D1.over m.s1 sb S.zf1, D2.over m.s2 sb S.zf2, (sb.2 _ (Nat.ne_of_gt hl)).trans m.new⟩
theorem seen_obj {c : Addr} {Q : Option Obj → Shared → Prop} (q : Q (s.heap.get? c) s) : wpAny (model prog w) A (loadIfAlive c) Q E s := fun _ _ _ => q
/-- is the last pair still out? Either answer, and only a mark may change -/
theorem zr_free {Q : Bool → Shared → Prop} (hz : s.heap.get? z = some (zr f0 f TI TO)) (h0 : Lent f0) (k : ∀ t h' f', h'.get? z = some (zr f0 f' TI TO) → Heap.SameBut z s.heap h' → Q t { s with heap := h' }) : wpAny (model prog w) A (Builtin.SmallTypes.ownedTupleIsFree (.ref z)) Q E s := by
  have same := fun t => k t s.heap f hz (.refl _ _)
  rcases h0 with rfl | ⟨T, rfl⟩
  all_goals unfold Builtin.SmallTypes.ownedTupleIsFree
  · exact wpAny_bind (wpAny_field hz rfl rfl (wpAny_pure (same true)))
  · refine wpAny_bind (wpAny_field hz rfl rfl (wpAny_bind (seen_obj ?_)))
    cases s.heap.get? (T : Int).toNat with
    | none => exact wpAny_pure (same true)
    | some o =>
      refine wpAny_bind (wpAny_field hz rfl rfl ?_)
      cases f with
      | true => exact wpAny_pure (same false)
      | false => exact wpAny_bind (wpAny_setField_rec hz (by simp) fun h1 z1 sb => wpAny_pure (k false h1 true z1 sb))
/-- one turn that tells a pair -/
theorem zr_core {Q : Value → Shared → Prop} (S : ZipSep2 z TI TO i1 i2 fp1 fp2) (D1 : Draws prog w A i1 fp1 n1 P1 S1) (D2 : Draws prog w A i2 fp2 n2 P2 S2) (m : Zm S1 S2 z TI TO i1 i2 s.heap i i f0 f a b s.heap) (h0 : Lent f0) (l1 : i < n1) (l2 : i < n2)
    (k : ∀ x1 x2 h' tk g0, P1 i x1 → P2 i x2 → Lent g0 → Zf S1 S2 z TI TO i1 i2 s.heap (i + 1) g0 x1 x2 h' → Q (.ref s.heap.objs.size) { s with heap := h', toks := tk }) :
    wpAny (model prog w) A (Builtin.«zip.__next__» ⟨[.ref z], []⟩) (fun fin s' => ∃ v, fin = .done (.ret v) ∧ Q v s') E s := by
  obtain ⟨hp, g, d, tk0, os⟩ := s
  have zl := Heap.lt_size m.rz
  refine wpAny_bind (wpAny_of_eq (a := (.ref z, [])) rfl (wpAny_bind (wpAny_field m.rz rfl rfl (wpAny_bind (wpAny_field m.rz rfl rfl (wpAny_bind (wpAny_seqItems m.ri rfl (wpAny_bind (zr_free m.rz h0 fun t h1 f1 q1 b1 => ?_)))))))))
  have m1 := m.setz S D1 D2 b1 q1
  clear b1 q1 m
  cases t with
  | true =>
    refine wpAny_bind (wpAny_rule (wpAny_bind (wpAny_field m1.rz rfl rfl (wpAny_bind (wpAny_setField_rec m1.rz (by simp) fun h2 q2 b2 => wpAny_bind ?_)))))
    have m2 := m1.setz S D1 D2 b2 (f0' := .ellipsis) (f' := f1) q2
    simp only [List.zipIdx_cons, List.zipIdx_nil, List.forIn_cons, List.forIn_nil]
    refine wpAny_bind (wpAny_bind (wpAny_onRaise (wpAny_bind (D1.item i _ _ _ l1 m2.s1 fun x1 h3 t3 p1 e3 b3 => wpAny_pure ?_))))
    have m3 := m2.one S D2 b3 e3
    refine wpAny_bind (wpAny_seqItems m3.ro rfl (wpAny_bind (wpAny_updateSeq_pair m3.ro fun h4 q4 b4 => wpAny_bind (wpAny_letGo (wpAny_pure ?_)))))
    have m4 := m3.seto S D1 D2 b4 (a' := x1) (b' := b) q4
    refine wpAny_bind (wpAny_bind (wpAny_onRaise (wpAny_bind (D2.item i _ _ _ l2 m4.s2 fun x2 h5 t5 p2 e5 b5 => wpAny_pure ?_))))
    have m5 := m4.two S D1 b5 e5
    refine wpAny_bind (wpAny_seqItems m5.ro rfl (wpAny_bind (wpAny_updateSeq_pair m5.ro fun h6 q6 b6 => wpAny_bind (wpAny_letGo (wpAny_pure (wpAny_pure ?_))))))
    have m6 := m5.seto S D1 D2 b6 (a' := x1) (b' := x2) q6
    refine wpAny_bind (wpAny_seqItems m6.ro rfl (wpAny_bind (wpAny_newTuple (wpAny_bind ?_) (hsz := by show 2 ≤ sizeLine; decide))))
    have m7 : Zf S1 S2 z TI TO i1 i2 hp (i + 1) .ellipsis x1 x2 _ := m6.push (x := x1) (y := x2) D1 D2
    obtain ⟨f7, z7⟩ := m7.rz
    refine wpAny_bind (wpAny_setField_rec z7 (by simp) fun h8 q8 b8 => wpAny_setField_rec q8 (by simp) fun h9 q9 b9 => wpAny_pure ⟨_, rfl, ?_⟩)
    have m8 := m7.setz S D1 D2 zl b8 (f0' := rawInt h6.objs.size) (f' := f7) q8
    have m9 := m8.setz S D1 D2 zl b9 (f0' := rawInt h6.objs.size) (f' := false) q9
    have e := k x1 x2 h9 t5 _ p1 p2 (.inr ⟨_, rfl⟩) m9
    rw [← m6.sz] at e
    exact e
  | false =>
    refine wpAny_bind ?_
    rw [← Array.forIn_toList]
    simp only [List.forIn_cons, List.forIn_nil]
    refine wpAny_bind (wpAny_bind (wpAny_holding (wpAny_bind (D1.item i _ _ _ l1 m1.s1 fun x1 h3 t3 p1 e3 b3 => wpAny_pure (wpAny_pure ?_)))))
    have m3 := m1.one S D2 b3 e3
    refine wpAny_bind (wpAny_bind (wpAny_holding (wpAny_bind (D2.item i _ _ _ l2 m3.s2 fun x2 h5 t5 p2 e5 b5 => wpAny_pure (wpAny_pure (wpAny_pure ?_))))))
    have m5 := m3.two S D1 b5 e5
    refine wpAny_bind (wpAny_newTuple (wpAny_pure ⟨_, rfl, ?_⟩) (hsz := by show 2 ≤ sizeLine; decide))
    have e := k x1 x2 _ t5 _ p1 p2 h0 (m5.push (x := x1) (y := x2) D1 D2)
    rw [← m5.sz] at e
    exact e
/-- one turn that tells a pair -/
theorem zr_item {Q : Value → Shared → Prop} (S : ZipSep2 z TI TO i1 i2 fp1 fp2) (D1 : Draws prog w A.in1 i1 fp1 n1 P1 S1) (D2 : Draws prog w A.in1 i2 fp2 n2 P2 S2) (m : Zm S1 S2 z TI TO i1 i2 s.heap i i f0 f a b s.heap) (h0 : Lent f0) (l1 : i < n1) (l2 : i < n2)
    (k : ∀ x1 x2 h' tk g0, P1 i x1 → P2 i x2 → Lent g0 → Zf S1 S2 z TI TO i1 i2 s.heap (i + 1) g0 x1 x2 h' → Q (.ref s.heap.objs.size) { s with heap := h', toks := tk }) :
    wpAny (model prog w) A (Builtin.SmallTypes.nextOf (.ref z)) Q E s := by
  have ty : s.TypeIs (.ref z) "zip" := ⟨_, m.rz, rfl⟩
  unfold Builtin.SmallTypes.nextOf
  exact wpAny_bind (wpAny_callSpecial?_slot ty F.slot_zip_next (wpAny_call_entry F.slot_zip_next ty F.entry_zip_next (zr_core S D1 D2 m h0 l1 l2 fun x1 x2 h' tk g0 q1 q2 lg zf => wpAny_pure (k x1 x2 h' tk g0 q1 q2 lg zf)) (F.args_zip_next_1 _)))
theorem zr_next {Q : Option Value → Shared → Prop} (S : ZipSep2 z TI TO i1 i2 fp1 fp2) (D1 : Draws prog w A.in1 i1 fp1 n1 P1 S1) (D2 : Draws prog w A.in1 i2 fp2 n2 P2 S2) (m : Zm S1 S2 z TI TO i1 i2 s.heap i i f0 f a b s.heap) (h0 : Lent f0) (l1 : i < n1) (l2 : i < n2)
    (k : ∀ x1 x2 h' tk g0, P1 i x1 → P2 i x2 → Lent g0 → Zf S1 S2 z TI TO i1 i2 s.heap (i + 1) g0 x1 x2 h' → Q (some (.ref s.heap.objs.size)) { s with heap := h', toks := tk }) :
    wpAny (model prog w) A (pyNext (.ref z)) Q E s := by
  have ty : s.TypeIs (.ref z) "zip" := ⟨_, m.rz, rfl⟩
  unfold pyNext
  exact wpAny_bind (wpAny_attempt (wpAny_callSpecial?_slot ty F.slot_zip_next (wpAny_call_entry F.slot_zip_next ty F.entry_zip_next (zr_core S D1 D2 m h0 l1 l2 fun x1 x2 h' tk g0 q1 q2 lg zf => wpAny_pure (k x1 x2 h' tk g0 q1 q2 lg zf)) (F.args_zip_next_1 _))))
/-- the first row is at its end -/
theorem zr_over {Q : PySem.Fin → Shared → Prop} (S : ZipSep2 z TI TO i1 i2 fp1 fp2) (D1 : Draws prog w A i1 fp1 n1 P1 S1) (D2 : Draws prog w A i2 fp2 n2 P2 S2) (m : Zm S1 S2 z TI TO i1 i2 s.heap n1 i f0 f a b s.heap) (h0 : Lent f0)
    (k : ∀ h' e, (∀ c o, c ∉ [z, TO, i1, i2] → s.heap.get? c = some o → h'.get? c = some o) → (∃ o, h'.get? e = some o ∧ o.cls = .type "StopIteration") → E (.ref e) { s with heap := h' }) :
    wpAny (model prog w) A (Builtin.«zip.__next__» ⟨[.ref z], []⟩) Q E s := by
  obtain ⟨hp, g, d, tk0, os⟩ := s
  refine wpAny_bind (wpAny_of_eq (a := (.ref z, [])) rfl (wpAny_bind (wpAny_field m.rz rfl rfl (wpAny_bind (wpAny_field m.rz rfl rfl (wpAny_bind (wpAny_seqItems m.ri rfl (wpAny_bind (zr_free m.rz h0 fun t h1 f1 q1 b1 => ?_)))))))))
  have m1 := m.setz S D1 D2 b1 q1
  clear b1 q1 m
  cases t with
  | true =>
    refine wpAny_bind (wpAny_rule (wpAny_bind (wpAny_field m1.rz rfl rfl (wpAny_bind (wpAny_setField_rec m1.rz (by simp) fun h2 q2 b2 => wpAny_bind ?_)))))
    have m2 := m1.setz S D1 D2 b2 (f0' := .ellipsis) (f' := f1) q2
    simp only [List.zipIdx_cons, List.zipIdx_nil, List.forIn_cons, List.forIn_nil]
    refine wpAny_bind (wpAny_bind (wpAny_onRaise (wpAny_bind (D1.done _ _ _ m2.s1 fun h3 e b3 ⟨oe, he, ce⟩ => ?_))))
    have hz : h3.get? z = some _ := b3 _ _ S.zi1 m2.rz
    have ne : e ≠ z := fun q => by
      rw [q, hz] at he
      cases he
      simp at ce
    exact wpAny_setField_rec hz (by simp) fun h4 _ b4 => k h4 e (fun c o hc q => (b4.2 c fun y => hc (by simp [y])).trans (b3 c o (fun y => hc (by simp [y])) (m2.kp c o hc q))) ⟨oe, (b4.2 _ ne).trans he, ce⟩
  | false =>
    refine wpAny_bind ?_
    rw [← Array.forIn_toList]
    simp only [List.forIn_cons, List.forIn_nil]
    exact wpAny_bind (wpAny_bind (wpAny_holding (wpAny_bind (D1.done _ _ _ m1.s1 fun h3 e b3 he => k h3 e (fun c o hc q => b3 c o (fun y => hc (by simp [y])) (m1.kp c o hc q)) he))))
/-- the first row is at its end -/
theorem zr_end {Q : Value → Shared → Prop} (S : ZipSep2 z TI TO i1 i2 fp1 fp2) (D1 : Draws prog w A.in1 i1 fp1 n1 P1 S1) (D2 : Draws prog w A.in1 i2 fp2 n2 P2 S2) (m : Zm S1 S2 z TI TO i1 i2 s.heap n1 i f0 f a b s.heap) (h0 : Lent f0)
    (k : ∀ h' e, (∀ c o, c ∉ [z, TO, i1, i2] → s.heap.get? c = some o → h'.get? c = some o) → (∃ o, h'.get? e = some o ∧ o.cls = .type "StopIteration") → E (.ref e) { s with heap := h' }) :
    wpAny (model prog w) A (Builtin.SmallTypes.nextOf (.ref z)) Q E s := by
  have ty : s.TypeIs (.ref z) "zip" := ⟨_, m.rz, rfl⟩
  unfold Builtin.SmallTypes.nextOf
  exact wpAny_bind (wpAny_callSpecial?_slot ty F.slot_zip_next (wpAny_call_entry F.slot_zip_next ty F.entry_zip_next (zr_over S D1 D2 m h0 k) (F.args_zip_next_1 _)))
theorem zr_stop {Q : Option Value → Shared → Prop} (S : ZipSep2 z TI TO i1 i2 fp1 fp2) (D1 : Draws prog w A.in1 i1 fp1 n1 P1 S1) (D2 : Draws prog w A.in1 i2 fp2 n2 P2 S2) (m : Zm S1 S2 z TI TO i1 i2 s.heap n1 i f0 f a b s.heap) (h0 : Lent f0)
    (k : ∀ h', (∀ c o, c ∉ [z, TO, i1, i2] → s.heap.get? c = some o → h'.get? c = some o) → Q none { s with heap := h' }) :
    wpAny (model prog w) A (pyNext (.ref z)) Q E s := by
  have ty : s.TypeIs (.ref z) "zip" := ⟨_, m.rz, rfl⟩
  unfold pyNext
  exact wpAny_bind (wpAny_attempt (wpAny_callSpecial?_slot ty F.slot_zip_next (wpAny_call_entry F.slot_zip_next ty F.entry_zip_next (zr_over S D1 D2 m h0 fun h' x r ⟨o, ho, hc⟩ => wpAny_bind (wpAny_isInstance (T := "StopIteration") (b := true) ⟨o, ho, hc⟩ isSubtype_stop (wpAny_pure (k h' r)))) (F.args_zip_next_1 _))))
/-! ### enumerate of what makes new things -/
/-- e's record, and nothing but e was touched since base -/
structure Em (base : Heap) (e : Addr) (r : Obj) (h : Heap) : Prop where
  sz : h.objs.size = base.objs.size
  kp : ∀ c o, c ≠ e → base.get? c = some o → h.get? c = some o
  re : h.get? e = some r
theorem Em.set {e : Addr} {r r' : Obj} (m : Em base e r h) (sb : Heap.SameBut e h h') (q : h'.get? e = some r') : Em base e r' h' :=
  ⟨sb.1.trans m.sz, fun c o hc q => (sb.2 c hc).trans (m.kp c o hc q), q⟩
abbrev er (f0 : Value) (it : Addr) (i : Int) (old : Value) : Obj := { cls := .type "enumerate", dict := none, data := .fields #[f0, .bool false, .ref it, rawInt i, .none, old], slots := #[] }
theorem en_item {e it : Addr} {n : Int} {old : Value} {Q : Option Value → Shared → Prop} (R : Value → Heap → Tok → Prop) (he : IsEnum s.heap e it n old)
    (inner : ∀ (Q' : Value → Shared → Prop) (E' : Value → Shared → Prop), (∀ x h1 tk, R x h1 tk → Q' x { s with heap := h1, toks := tk }) → wpAny (model prog w) A.in1 (Builtin.SmallTypes.nextOf (.ref it)) Q' E' s)
    (hR : ∀ x h1 tk, R x h1 tk → IsEnum h1 e it n old)
    (k : ∀ x h1 tk h', R x h1 tk → IsEnumOut h' e it (n + 1) x h1.objs.size → IsPair h' h1.objs.size (.int n tk) x → h'.objs.size = h1.objs.size + 1 → (∀ c o, c ≠ e → h1.get? c = some o → h'.get? c = some o) → Q (some (.ref h1.objs.size)) { s with heap := h', toks := tk + 1 }) :
    wpAny (model prog w) A (pyNext (.ref e)) Q E s := by
  obtain ⟨hp, g, d, tk0, os⟩ := s
  have ty : (Shared.mk hp g d tk0 os).TypeIs (.ref e) "enumerate" := ⟨_, he, rfl⟩
  unfold pyNext
  refine wpAny_bind (wpAny_attempt (wpAny_callSpecial?_slot ty F.slot_enumerate_next (wpAny_call_entry F.slot_enumerate_next ty F.entry_enumerate_next ?_ (F.args_enumerate_next_1 _))))
  refine wpAny_bind (wpAny_of_eq (a := (.ref e, [])) rfl (wpAny_bind (wpAny_field he rfl rfl (wpAny_bind (inner _ _ fun x h1 tk r => ?_)))))
  have m1 : Em h1 e (er .none it n old) h1 := ⟨rfl, fun _ _ _ q => q, hR x h1 tk r⟩
  refine wpAny_bind (wpAny_field m1.re rfl rfl (wpAny_bind (wpAny_field m1.re rfl rfl ?_)))
  refine wpAny_bind (wpAny_mkInt (wpAny_bind (wpAny_setField_rec m1.re (by simp) fun h2 q2 b2 => ?_)))
  have m2 := m1.set (r' := er .none it (n + 1) old) b2 q2
  refine wpAny_bind (wpAny_setField_rec m2.re (by simp) fun h3 q3 b3 => wpAny_bind (wpAny_newTuple (wpAny_bind ?_)))
  have m3 := m2.set (r' := er .none it (n + 1) old) b3 q3
  have z3 : (h3.push { cls := .type "tuple", data := .seq #[.int n tk, x] }).get? e = some (er .none it (n + 1) old) := Heap.get?_push_of_some _ m3.re
  have el : h3.objs.size ≠ e := Nat.ne_of_gt (Heap.lt_size m3.re)
  unfold Builtin.SmallTypes.ownedTupleIsFree
  refine wpAny_bind (wpAny_field z3 rfl rfl (wpAny_pure (wpAny_bind (wpAny_rule (wpAny_bind (wpAny_field z3 rfl rfl (wpAny_bind (wpAny_setField_rec z3 (by simp) fun h4 q4 b4 => wpAny_bind (wpAny_bind (wpAny_setField_rec q4 (by simp) fun h5 q5 b5 => wpAny_setField_rec q5 (by simp) fun h6 q6 b6 => wpAny_bind (wpAny_letGo (wpAny_pure ⟨_, rfl, wpAny_pure ?_⟩))))))))))))
  have up : ∀ c, c ≠ e → h6.get? c = (h3.push { cls := .type "tuple", data := .seq #[.int n tk, x] }).get? c := fun c hc => (b6.2 c hc).trans ((b5.2 c hc).trans (b4.2 c hc))
  have r6 := k x h1 tk h6 r
  rw [← m3.sz] at r6
  exact r6 q6 ((up _ el).trans (Heap.get?_push_size _ rfl)) (by rw [b6.1, b5.1, b4.1]; exact Heap.size_push ..) fun c o hc q => (up c hc).trans (Heap.get?_push_of_some _ (m3.kp c o hc q))
theorem en_end {e it : Addr} {n : Int} {old : Value} {Q : Option Value → Shared → Prop} (R : Heap → Prop) (he : IsEnum s.heap e it n old)
    (inner : ∀ (Q' : Value → Shared → Prop) (E' : Value → Shared → Prop), (∀ h' x, R h' → (∃ o, h'.get? x = some o ∧ o.cls = .type "StopIteration") → E' (.ref x) { s with heap := h' }) → wpAny (model prog w) A.in1 (Builtin.SmallTypes.nextOf (.ref it)) Q' E' s)
    (k : ∀ h', R h' → Q none { s with heap := h' }) : wpAny (model prog w) A (pyNext (.ref e)) Q E s := by
  have ty : s.TypeIs (.ref e) "enumerate" := ⟨_, he, rfl⟩
  unfold pyNext
  refine wpAny_bind (wpAny_attempt (wpAny_callSpecial?_slot ty F.slot_enumerate_next (wpAny_call_entry F.slot_enumerate_next ty F.entry_enumerate_next ?_ (F.args_enumerate_next_1 _))))
  exact wpAny_bind (wpAny_of_eq (a := (.ref e, [])) rfl (wpAny_bind (wpAny_field he rfl rfl (wpAny_bind (inner _ _ fun h' x r ⟨o, ho, hc⟩ => wpAny_bind (wpAny_isInstance (T := "StopIteration") (b := true) ⟨o, ho, hc⟩ isSubtype_stop (wpAny_pure (k h' r))))))))
end
/-- enumerate of a zip begins: the zip is its own iterator -/
theorem en_new (z TI TO : Addr) : Meets (Builtin.«enumerate.__new__» ⟨[.type "enumerate", .ref z], []⟩) fun _ R s => IsZip s.heap z TI TO .none ∧ R (.ok (.ret (.ref s.heap.objs.size))) { s with heap := s.heap.push (er .none z 0 .none) } :=
  .of_wp fun prog w A R s h => by
    obtain ⟨hp, g, d, tk, os⟩ := s
    obtain ⟨hz, hr⟩ := h
    have e0 := sub_enumerate
    have own : ∀ {A' : Around} {E : Value → Shared → Prop} {Q : Value → Shared → Prop}, Q (.ref z) ⟨hp, g, d, tk, os⟩ → wpAny (model prog w) A' (pyIter (.ref z)) Q E ⟨hp, g, d, tk, os⟩ := fun q => wpAny_pyIter_zip (s := ⟨hp, g, d, tk, os⟩) hz q
    wp_walk using own
    refine wpAny_stack_any fun st => wpAny_pure ?_
    split
    · rename_i c _ _ _ _ _
      cases (c == Value.type "enumerate") <;> (wp_walk using own; exact ⟨_, rfl, hr⟩)
    · wp_walk using own
      exact ⟨_, rfl, hr⟩
section
variable {prog : Program} {w : World} {A : Around} {E : Value → Shared → Prop} {s : Shared}
theorem en_call {z TI TO : Addr} {Q : Value → Shared → Prop} (hz : IsZip s.heap z TI TO .none) (k : ∀ h', IsEnum h' s.heap.objs.size z 0 .none → h'.objs.size = s.heap.objs.size + 1 → (∀ c o, s.heap.get? c = some o → h'.get? c = some o) → Q (.ref s.heap.objs.size) { s with heap := h' }) :
    wpAny (model prog w) A (call (.type "enumerate") [.ref z]) Q E s := by
  have new : IsEnum (s.heap.push (er .none z 0 .none)) s.heap.objs.size z 0 .none := Heap.get?_push_size _ rfl
  exact callType_new F.called_enumerate (by decide) (F.typeCall_enumerate_1 _) (F.newCall_enumerate_1 _) (fun obj => F.args_object_init_2 obj _) F.entry_enumerate_new (en_new z TI TO) ⟨hz, ⟨_, new, rfl⟩, k _ new (Heap.size_push ..) fun c o q => Heap.get?_push_of_some _ q⟩
end
end FP

namespace FP
open PySem PySem.Spec PyProof.Rows L2 HotX L2H
/-! ### enumerate(zip(a, b)) of two tuples of one length -/
def ItEZ (K : PySem.W.Frag) (a b : Addr) : It :=
  ⟨fun i H => ∃ xs ys : List V, SqT K H a xs ∧ SqT K H b ys ∧ i < xs.length ∧ i < ys.length,
    fun i H v H' => ∃ T T' x y, v = .ref T' ∧ H T = none ∧ (upd H T (.tup [x, y])) T' = none ∧ H' = upd (upd H T (.tup [x, y])) T' (.tup [.int (i : Nat), .ref T]) ∧ (∀ xs, SqT K H a xs → xs[i]? = some x) ∧ ∀ ys, SqT K H b ys → ys[i]? = some y,
    fun i H => ∃ xs ys : List V, SqT K H a xs ∧ SqT K H b ys ∧ xs.length = i⟩
structure EzSt (e z TI TO i1 i2 a b : Addr) (i : Nat) (h : Heap) : Prop where
  en : ∃ old, IsEnum h e z (i : Int) old
  zp : ∃ f0 f, Lent f0 ∧ h.get? z = some (zr f0 f TI TO)
  ti : IsPair h TI (.ref i1) (.ref i2)
  to : ∃ x y, IsPair h TO x y
  w1 : h.IsTupleIter i1 a i
  w2 : h.IsTupleIter i2 b i
section
variable {P : Program} {w : World} {K : PySem.W.Frag} {elts : List Expr} {kk : Nat} {tpos : Pos} {e z TI TO i1 i2 a b : Addr}
theorem EzSt.obj {i : Nat} {h : Heap} (st : EzSt e z TI TO i1 i2 a b i h) {c : Addr} (hc : c ∈ [e, z, TI, TO, i1, i2]) : ∃ o, h.get? c = some o ∧ ∀ v, o.data ≠ .cell v := by
  obtain ⟨⟨old, g1⟩, ⟨f0, f, _, g2⟩, g3, ⟨x, y, g4⟩, ⟨o1, g5, _, d1⟩, ⟨o2, g6, _, d2⟩⟩ := st
  simp only [List.mem_cons, List.not_mem_nil, or_false] at hc
  rcases hc with rfl | rfl | rfl | rfl | rfl | rfl
  · exact ⟨_, g1, nofun⟩
  · exact ⟨_, g2, nofun⟩
  · exact ⟨_, g3, nofun⟩
  · exact ⟨_, g4, nofun⟩
  · exact ⟨o1, g5, fun v q => by rw [d1] at q; cases q⟩
  · exact ⟨o2, g6, fun v q => by rw [d2] at q; cases q⟩
theorem EzSt.keep {i : Nat} {h h' : Heap} (st : EzSt e z TI TO i1 i2 a b i h) (k : ∀ c ∈ [e, z, TI, TO, i1, i2], ∀ o, h.get? c = some o → h'.get? c = some o) : EzSt e z TI TO i1 i2 a b i h' :=
  ⟨st.en.imp fun _ q => k e (by simp) _ q, st.zp.imp fun _ q => q.imp fun _ q => ⟨q.1, k z (by simp) _ q.2⟩, k TI (by simp) _ st.ti, st.to.imp fun _ q => q.imp fun _ q => k TO (by simp) _ q, st.w1.at fun o q => k i1 (by simp) o q, st.w2.at fun o q => k i2 (by simp) o q⟩
theorem turn_ez (S : ZipSep2 z TI TO i1 i2 [i1, a] [i2, b]) (ha : a ≠ i1) (hb : b ≠ i2) (hlt : ∀ c ∈ [z, TI, TO, i1, i2, a, b], c < e) :
    Turn P w K (.Tuple elts kk tpos) (ItEZ K a b) [e, z, TI, TO, i1, i2] e (EzSt e z TI TO i1 i2 a b) where
  mem := by simp
  obj := fun i h st c hc => st.obj hc
  keep := fun i h h' st k => st.keep k
  item := by
    intro X hP hw hK hc i pins s σ H E I hf st hg
    subst hP hw hK
    obtain ⟨xs, ys, hqx, hqy, lx, ly⟩ := hg
    obtain ⟨its, rv, p, _⟩ := I.tuple hqx
    obtain ⟨its2, rv2, p2, _⟩ := I.tuple hqy
    obtain ⟨x, hx⟩ : ∃ x, xs[i]? = some x := ⟨_, List.getElem?_eq_getElem lx⟩
    obtain ⟨y, hy⟩ : ∃ y, ys[i]? = some y := ⟨_, List.getElem?_eq_getElem ly⟩
    obtain ⟨u, hu, ru⟩ := rv.get hx
    obtain ⟨u2, hu2, ru2⟩ := rv2.get hy
    have D1 := Draws.tuple (prog := X.prog) (w := X.w) (A := X.A.in1.in1) (I.ok.hd hc) i1 a ha its.toArray
    have D2 := Draws.tuple (prog := X.prog) (w := X.w) (A := X.A.in1.in1) (I.ok.hd hc) i2 b hb its2.toArray
    obtain ⟨old, he⟩ := st.en
    obtain ⟨f0, f, l0, hz⟩ := st.zp
    obtain ⟨x0, y0, ho⟩ := st.to
    have ne : e ∉ [z, TO, i1, i2] := fun q => by
      have := hlt e (by simp only [List.mem_cons, List.not_mem_nil, or_false] at q ⊢; rcases q with q | q | q | q <;> simp [q])
      exact Nat.lt_irrefl _ this
    have sizes : i < its.toArray.size ∧ i < its2.toArray.size := ⟨by simpa using (List.getElem?_eq_some_iff.mp hu).1, by simpa using (List.getElem?_eq_some_iff.mp hu2).1⟩
    refine en_item (fun v h1 tk => ∃ x1 x2 g0, v = .ref s.heap.objs.size ∧ its.toArray[i]? = some x1 ∧ its2.toArray[i]? = some x2 ∧ Lent g0 ∧ Zf _ _ z TI TO i1 i2 s.heap (i + 1) g0 x1 x2 h1) he
      (fun Q' E' q => zr_item S D1 D2 ⟨rfl, fun _ _ _ q => q, hz, st.ti, ho, ⟨st.w1, p⟩, ⟨st.w2, p2⟩⟩ l0 sizes.1 sizes.2 fun x1 x2 h' tk g0 q1 q2 lg zf => q _ h' tk ⟨x1, x2, g0, rfl, q1, q2, lg, zf⟩)
      (fun v h1 tk ⟨_, _, _, _, _, _, _, zf⟩ => zf.kp _ _ ne he) ?_
    rintro v h1 tk h' ⟨x1, x2, g0, rfl, q1, q2, lg, zf⟩ heo hpr hsz hkp
    obtain rfl : x1 = u := by simpa [hu] using q1.symm
    obtain rfl : x2 = u2 := by simpa [hu2] using q2.symm
    refine ⟨_, rfl, wpAny_letOwnedTupleGo_enum (s := { s with heap := h', toks := tk + 1 }) heo fun h2 he2 sb => ?_⟩
    have old1 : ∀ c ∈ [e, z, TI, TO, i1, i2], c < s.heap.objs.size := fun c hc => let ⟨_, q, _⟩ := st.obj hc; Heap.lt_size q
    have up : ∀ c o, c ≠ e → h1.get? c = some o → h2.get? c = some o := fun c o hc q => (sb.2 c hc).trans (hkp c o hc q)
    have el : e < s.heap.objs.size := old1 e (by simp)
    have I1 : Inv X pins σ (upd H s.heap.objs.size (.tup [x, y])) { s with heap := h1, toks := tk } :=
      I.turnedNew (ch := [e, z, TI, TO, i1, i2]) (fun c o hc q => zf.kp c o (fun r => hc (by simp only [List.mem_cons, List.not_mem_nil, or_false] at r ⊢; rcases r with r | r | r | r <;> simp [r])) q) hf (Nat.le_refl _) ⟨by show 2 ≤ sizeLine; decide, [x1, x2], .cons ru (.cons ru2 .nil), ⟨_, zf.new, rfl, _, rfl⟩⟩
    have hN : h1.objs.size ≠ e := by rw [zf.sz]; exact Nat.ne_of_gt (Nat.lt_succ_of_lt el)
    have I2 : Inv X pins σ (upd (upd H s.heap.objs.size (.tup [x, y])) h1.objs.size (.tup [.int (i : Nat), .ref s.heap.objs.size])) { s with heap := h2, toks := tk + 1 } :=
      I1.turnedNew (ch := [e]) (fun c o hc q => up c o (by simpa using hc) q) (fun c hc => by
        obtain rfl : c = e := by simpa using hc
        obtain ⟨r0, r⟩ := hf c (by simp)
        exact ⟨by rw [upd_ne (Nat.ne_of_lt el)]; exact r0, r⟩) (Nat.le_refl _) ⟨by show 2 ≤ sizeLine; decide, [.int i tk, .ref s.heap.objs.size], .cons ⟨_, rfl⟩ (.cons rfl .nil), ⟨_, (sb.2 _ hN).trans hpr, rfl, _, rfl⟩⟩
    refine ⟨.ref h1.objs.size, _, I2, rfl, ⟨_, _, x, y, rfl, I.hok.fresh (Nat.le_refl _), I1.hok.fresh (Nat.le_refl _), rfl, fun l hl => by rw [I.tuple_inj hl hqx]; exact hx, fun l hl => by rw [I.tuple_inj hl hqy]; exact hy⟩, ?_, fun c hcm => ?_⟩
    · have off : ∀ c ∈ [z, TI, TO, i1, i2], c ≠ e := fun c hc q => by
        have := hlt c (by simp only [List.mem_cons, List.not_mem_nil, or_false] at hc ⊢; rcases hc with r | r | r | r | r <;> simp [r])
        exact Nat.ne_of_lt this q
      obtain ⟨fz, ez⟩ := zf.rz
      obtain ⟨a3, b3, eo⟩ := zf.ro
      refine ⟨⟨_, by have e1 : ((i + 1 : Nat) : Int) = (i : Int) + 1 := by omega
                     rw [e1]; exact he2⟩, ⟨g0, fz, lg, up _ _ (off z (by simp)) ez⟩, up _ _ (off TI (by simp)) zf.ri, ⟨a3, b3, up _ _ (off TO (by simp)) eo⟩, zf.s1.1.at fun o q => up _ o (off i1 (by simp)) q, zf.s2.1.at fun o q => up _ o (off i2 (by simp)) q⟩
    · have := old1 c hcm
      rw [upd_ne (by rw [zf.sz]; exact Nat.ne_of_lt (Nat.lt_succ_of_lt this)), upd_ne (Nat.ne_of_lt this)]
      exact (hf c hcm).1
  done := by
    intro X hP hw hK hc i pins s σ H E I hf st hg
    subst hP hw hK
    obtain ⟨xs, ys, hqx, hqy, lx⟩ := hg
    obtain ⟨its, rv, p, _⟩ := I.tuple hqx
    obtain ⟨its2, rv2, p2, _⟩ := I.tuple hqy
    have D1 := Draws.tuple (prog := X.prog) (w := X.w) (A := X.A.in1.in1) (I.ok.hd hc) i1 a ha its.toArray
    have D2 := Draws.tuple (prog := X.prog) (w := X.w) (A := X.A.in1.in1) (I.ok.hd hc) i2 b hb its2.toArray
    obtain ⟨old, he⟩ := st.en
    obtain ⟨f0, f, l0, hz⟩ := st.zp
    obtain ⟨x0, y0, ho⟩ := st.to
    have sz : i = its.toArray.size := by rw [List.size_toArray, ← rv.length, lx]
    have w1 := st.w1
    rw [sz] at w1
    exact en_end (fun h' => ∀ c o, c ∉ [z, TO, i1, i2] → s.heap.get? c = some o → h'.get? c = some o) he (fun Q' E' q => zr_end S D1 D2 ⟨rfl, fun _ _ _ q => q, hz, st.ti, ho, ⟨w1, p⟩, ⟨st.w2, p2⟩⟩ l0 q) fun h' r => ⟨rfl, I.turnedL (t' := s.toks) (ch := [e, z, TI, TO, i1, i2]) (fun c o hc q => r c o (fun r => hc (by simp only [List.mem_cons, List.not_mem_nil, or_false] at r ⊢; rcases r with r | r | r | r <;> simp [r])) q) hf⟩
  self := fun A i s Q E st h => let ⟨_, he⟩ := st.en; wpAny_pyIter_enum he h
end
theorem six_lt {N a b : Nat} (ha : a < N) (hb : b < N) : ∀ c ∈ [N + 4, N + 2, N + 3, N, N + 1, a, b], c < N + 5 := fun c hc => by
  simp only [List.mem_cons, List.not_mem_nil, or_false] at hc
  omega
theorem six_le {N : Nat} : ∀ c ∈ [N + 5, N + 4, N + 2, N + 3, N, N + 1], N ≤ c := fun c hc => by
  simp only [List.mem_cons, List.not_mem_nil, or_false] at hc
  omega
def iEZ (K : PySem.W.Frag) (ta : TA) : TI := fun σ H R => ta σ H fun vs H1 => ∃ a b xs ys, vs = [.ref a, .ref b] ∧ SqT K H1 a xs ∧ SqT K H1 b ys ∧ R (ItEZ K a b) H1
theorem pi_ez {X : Cx} {e1 e2 : Expr} {ta : TA} {p p2 zp pos tpos : Pos} {elts : List Expr} {kk : Nat} (hg : Gl X "enumerate") (hm : X.mg "enumerate" = none) (hgz : Gl X "zip") (hmz : X.mg "zip" = none) (ha : PA X [e1, e2] ta) (hs : starEach [Expr.Call (.Name "zip" p2) [e1, e2] [] zp] X.env = [(false, eval (.Call (.Name "zip" p2) [e1, e2] [] zp) X.env)] := by rfl)
    (hsz : starEach [e1, e2] X.env = (false, eval e1 X.env) :: starEach [e2] X.env := by rfl) (hpl : (backTo zp (starEach [e2] X.env)).any (·.1) = false := by rfl) :
    PI X (.Tuple elts kk tpos) (.Call (.Name "enumerate" p) [.Call (.Name "zip" p2) [e1, e2] [] zp] [] pos) (iEZ X.K ta) := by
  refine ⟨fun pins s σ H R I h => ?_⟩
  refine Call_ (ld_blt I hg hm boot_enumerate (PyProof.Rows.callWith_type1 (PyProof.Rows.args_cons ?_ hs) hs rfl))
  refine Call_ (ld_blt I hgz hmz PyProof.Rows.boot_zip (PyProof.Rows.callWith_type1 (thn (ha.run zp pins s σ H _ I h) fun us s1 ⟨vs, H1, I1, r1, q1⟩ => ?_) hsz hpl))
  obtain ⟨a, b, xs, ys, rfl, hqx, hqy, q⟩ := q1
  rcases r1 with _ | ⟨r, r1⟩
  rcases r1 with _ | ⟨r', r1⟩
  cases r1
  cases r
  cases r'
  obtain ⟨its, rv, p1, _⟩ := I1.tuple hqx
  obtain ⟨its2, rv2, p2, _⟩ := I1.tuple hqy
  obtain ⟨la, lb⟩ : a < s1.heap.objs.size ∧ b < s1.heap.objs.size := ⟨let ⟨_, q, _⟩ := p1; Heap.lt_size q, let ⟨_, q, _⟩ := p2; Heap.lt_size q⟩
  refine RZ.call_zipT p1 p2 fun h1 hz hTI hTO w1 w2 sz1 k1 => PyProof.Rows.args_nil (en_call hz fun h2 he sz2 k2 => wpAny_pyIter_enum he ?_)
  have I2 : Inv X pins σ H1 { s1 with heap := h2 } := I1.kept (t' := s1.toks) fun c o q => k2 c o (k1 c o q)
  have sz1' : ({ s1 with heap := h1 } : Shared).heap.objs.size = s1.heap.objs.size + 5 := sz1
  have S : ZipSep2 (s1.heap.objs.size + 4) (s1.heap.objs.size + 2) (s1.heap.objs.size + 3) s1.heap.objs.size (s1.heap.objs.size + 1) [s1.heap.objs.size, a] [s1.heap.objs.size + 1, b] := zip_sep2 (fp1 := [a]) (fp2 := [b]) (fun c hc => by simpa using (show c = a by simpa using hc) ▸ la) (fun c hc => by simpa using (show c = b by simpa using hc) ▸ lb)
  refine ⟨h1.objs.size, [h1.objs.size, s1.heap.objs.size + 4, s1.heap.objs.size + 2, s1.heap.objs.size + 3, s1.heap.objs.size, s1.heap.objs.size + 1], _, _, H1, rfl, I2, turn_ez S (Nat.ne_of_lt la) (Nat.ne_of_lt (Nat.lt_succ_of_lt lb)) (by rw [sz1']; exact six_lt la lb), ⟨⟨_, he⟩, ⟨.none, false, .inl rfl, k2 _ _ hz⟩, k2 _ _ hTI, ⟨_, _, k2 _ _ hTO⟩, w1.at fun o q => k2 _ o q, w2.at fun o q => k2 _ o q⟩, ?_, q⟩
  rw [sz1']
  exact fun c hc => I1.fpOk (six_le c hc) (I1.hok.fresh (six_le c hc))
section
variable {X : Cx} {W : WX} {T : List (Addr × Str)} {δ : De} {ω : Om} {a b : Expr} {pos p p2 zp ep : Pos} {R : Out → Prop} {ss sa : List Stmt} {kk : Nat}
/-- for j1, (j2, j3) in enumerate(zip(a, b)) -/
theorem sd_forEZ (j1 j2 j3 : Nat) {ts : List Expr} {p' : Pos} {xs ys : List PyData} (inv : Nat → De → Om → Prop) (hme : X.mg "enumerate" = none) (hmz : X.mg "zip" = none) (ha : PD X δ ω a (.tuple xs)) (hb : PD X δ ω b (.tuple ys)) (hl : ys.length = xs.length) (h0 : inv 0 δ ω)
    (hbd : ∀ (i : Nat) x y δ' ω', xs[i]? = some x → ys[i]? = some y → inv i δ' ω' → SD X W T sa (((δ'.set j1 (some (.im (.int (i : Int))))).set j2 (some (.im x))).set j3 (some (.im y))) ω' (Turn1 inv i (Nxt X W T ss R) R))
    (hd : ∀ δ' ω', inv xs.length δ' ω' → SD X W T ss δ' ω' R) (hg : PG X (.Tuple ts kk p') (gZ X.K j1 j2 j3)) (hp : PassesOwn (model X.prog X.w) X.A X.env X.xe) (hc : X.calm = true)
    (hge : Gl X "enumerate" := by rfl) (hgz : Gl X "zip" := by rfl) (hs0 : starEach [Expr.Call (.Name "zip" p2) [a, b] [] zp] X.env = [(false, eval (.Call (.Name "zip" p2) [a, b] [] zp) X.env)] := by rfl)
    (hs1 : starEach [a, b] X.env = (false, eval a X.env) :: starEach [b] X.env := by rfl) (hs2 : starEach [b] X.env = (false, eval b X.env) :: starEach [] X.env := by rfl) (hpl : (backTo zp (starEach [b] X.env)).any (·.1) = false := by rfl)
    (hs : ∀ x, foldedSetIterable (.Call (.Name "enumerate" p) [.Call (.Name "zip" p2) [a, b] [] zp] [] ep) X.env x = pure x := by intro _; rfl) :
    SD X W T (.For (.Tuple ts kk p') (.Call (.Name "enumerate" p) [.Call (.Name "zip" p2) [a, b] [] zp] [] ep) sa [] pos :: ss) δ ω R := by
  refine sd_cons fun σ H D rl t k => ws (ps_for hp hc (pi_ez hge hme hgz hmz (pa_cons pe_w (pa_cons pe_w pa_nil hs2) hs1) hs0 hs1 hpl) hg pss_w hs) ?_
  refine ha σ H rl _ fun va H0 s0 da => hb σ H0 (rl.mono s0) _ fun vb H1 s1 db => ?_
  have sH : Same H H1 := s0.trans s1
  have da1 := dpm (hid_same s1) da
  clear da
  cases da1
  cases db
  rename_i qa us a1 a2 qb ws b1 b2
  have la := dpa_len a2
  have lb := dpa_len b2
  refine ⟨qa, qb, us, ws, rfl, same_sqt hid_sub a1, same_sqt hid_sub b1, ?_⟩
  refine ⟨fun i m σ' H' => ∃ δ' ω', m = xs.length - i ∧ i ≤ xs.length ∧ inv i δ' ω' ∧ Stp T ω ω' H1 H' ∧ Rl X.K H' σ' δ' ω', ⟨xs.length, δ, ω, by omega, Nat.zero_le _, h0, .refl, rl.mono sH⟩, ?_⟩
  rintro i m σ' H' ⟨δ', ω', em, hi2, iv, st, rl'⟩
  have ke : Ke T (hid (ads ω) H1) H' := fun b o z p => (hid_out (st.seen b o z p)).2
  have k1 := k.step (Stp.of sH : Stp T ω ω H H1)
  by_cases hlt : i < xs.length
  · refine .inr ⟨⟨us, ws, ke_sqt ke a1, ke_sqt ke b1, by omega, by omega⟩, fun σ2 H2 => ∃ δ2 ω2, inv (i + 1) δ2 ω2 ∧ Stp T ω ω2 H1 H2 ∧ Rl X.K H2 σ2 δ2 ω2, fun σ2 H2 ⟨δ2, ω2, c1, c2, c3⟩ => ⟨xs.length - (i + 1), by omega, δ2, ω2, rfl, hlt, c1, c2, c3⟩, fun v H2 hy => ?_⟩
    obtain ⟨T1, T2, u, v', rfl, n1, n2, rfl, f1, f2⟩ := hy
    obtain ⟨x, ex, dx⟩ := dpa_get' a2 (f1 us (ke_sqt ke a1))
    obtain ⟨y, ey, dy⟩ := dpa_get' b2 (f2 ws (ke_sqt ke b1))
    have sa1 : Same H' (upd H' T1 (.tup [u, v'])) := same_new n1
    have sn : Same H' (upd (upd H' T1 (.tup [u, v'])) T2 (.tup [.int (i : Nat), .ref T1])) := sa1.trans (same_new n2)
    have st2 : Stp T ω ω' H1 (upd (upd H' T1 (.tup [u, v'])) T2 (.tup [.int (i : Nat), .ref T1])) := st.trans (.of sn)
    have k2 := k1.step st2
    have rl2 := rl'.mono sn
    have du := dpm (hid_same sn) (dp_ke st.seen x u dx)
    have dv := dpm (hid_same sn) (dp_ke st.seen y v' dy)
    refine ⟨T2, _, rfl, SqT.of upd_same, rfl, _, _, rfl, _, _, rfl, T1, _, rfl, same_sqt (same_new n2) (SqT.of upd_same), rfl, _, _, rfl, _, _, rfl, rfl, rfl, ?_⟩
    refine hbd i x y δ' ω' ex ey iv _ _ _ (((rl2.set (x := .im (.int (i : Int))) (.int _)).set (x := .im x) du).set (x := .im y) dv) (st2.tab (t.ext sH)) ?_
    exact ⟨fun δ2 ω2 σ2 H2 z q l => ⟨δ2, ω2, z, st2.trans q, l⟩, fun r ω2 v H2 z q l dv => k2.rt r ω2 v H2 z q l dv, fun C ω2 σ2 H2 z q l => k2.ex C ω2 σ2 H2 z q l, fun δ2 ω2 σ2 H2 z q l => k2.nx δ2 ω2 σ2 H2 z q l, fun δ2 ω2 σ2 H2 z q l => ⟨δ2, ω2, z, st2.trans q, l⟩⟩
  · have e : i = xs.length := by omega
    subst e
    exact .inl ⟨⟨us, ws, ke_sqt ke a1, ke_sqt ke b1, la⟩, (k1.step st).nx δ' ω' σ' H' (hd δ' ω' iv) .refl rl'⟩
theorem pn_ifE {c : Expr} {kb : Bool} {ds : List PyData} (h : PTd X δ ω c kb) (h1 : kb = true → PN X δ ω a ds) (h2 : kb = false → PN X δ ω b ds) : PN X δ ω (.IfExp c a b pos) ds := fun σ H rl Q q =>
  we (pe_ifExp pt_w pe_w pe_w) (h σ H rl _ fun H1 s1 => by
    have new : ∀ {p : Addr}, H1 p = none → H p = none := fun {p} n => by
      cases e : H p with
      | none => rfl
      | some o =>
        rw [s1 p o e] at n
        cases n
    cases kb with
    | true => exact iteT (h1 rfl σ H1 (rl.mono s1) Q fun p vs H2 s2 n => q p vs H2 (s1.trans s2) (new n))
    | false => exact iteF (h2 rfl σ H1 (rl.mono s1) Q fun p vs H2 s2 n => q p vs H2 (s1.trans s2) (new n)))
end
end FP

namespace FP
open PySem PySem.Spec PyProof.Rows L2 HotX L2H
/-! ### [.. for p in zip(a, b) if ..]: the pairs are kept -/
def ItZN (K : PySem.W.Frag) (a b : Addr) : It :=
  ⟨fun i H => ∃ xs ys : List V, SqT K H a xs ∧ SqT K H b ys ∧ i < xs.length ∧ i < ys.length,
    fun i H v H' => ∃ T x y, v = .ref T ∧ H T = none ∧ H' = upd H T (.tup [x, y]) ∧ (∀ xs, SqT K H a xs → xs[i]? = some x) ∧ ∀ ys, SqT K H b ys → ys[i]? = some y,
    fun i H => ∃ xs ys : List V, SqT K H a xs ∧ SqT K H b ys ∧ xs.length = i⟩
structure ZnSt (z TI TO i1 i2 a b : Addr) (i : Nat) (h : Heap) : Prop where
  zp : ∃ f0 f, Lent f0 ∧ h.get? z = some (zr f0 f TI TO)
  ti : IsPair h TI (.ref i1) (.ref i2)
  to : ∃ x y, IsPair h TO x y
  w1 : h.IsTupleIter i1 a i
  w2 : h.IsTupleIter i2 b i
theorem zr_iter {prog : Program} {w : World} {A : Around} {E : Value → Shared → Prop} {s : Shared} {z TI TO : Addr} {f0 : Value} {f : Bool} {Q : Value → Shared → Prop} (hz : s.heap.get? z = some (zr f0 f TI TO)) (h : Q (.ref z) s) : wpAny (model prog w) A (pyIter (.ref z)) Q E s :=
  have ty : s.TypeIs (.ref z) "zip" := ⟨_, hz, rfl⟩
  wpAny_pyIter_slot ty PySem.F.slot_zip_iter (wpAny_call_entry PySem.F.slot_zip_iter ty PySem.F.entry_zip_iter (wpAny_pure ⟨_, rfl, "zip", _, ty, PySem.F.slot_zip_next.lookup, h⟩) (PySem.F.args_zip_iter_1 _))
section
variable {P : Program} {w : World} {K : PySem.W.Frag} {n : Str} {tpos : Pos} {z TI TO i1 i2 a b : Addr}
theorem ZnSt.obj {i : Nat} {h : Heap} (st : ZnSt z TI TO i1 i2 a b i h) {c : Addr} (hc : c ∈ [z, TI, TO, i1, i2]) : ∃ o, h.get? c = some o ∧ ∀ v, o.data ≠ .cell v := by
  obtain ⟨⟨f0, f, _, g2⟩, g3, ⟨x, y, g4⟩, ⟨o1, g5, _, d1⟩, ⟨o2, g6, _, d2⟩⟩ := st
  simp only [List.mem_cons, List.not_mem_nil, or_false] at hc
  rcases hc with rfl | rfl | rfl | rfl | rfl
  · exact ⟨_, g2, nofun⟩
  · exact ⟨_, g3, nofun⟩
  · exact ⟨_, g4, nofun⟩
  · exact ⟨o1, g5, fun v q => by rw [d1] at q; cases q⟩
  · exact ⟨o2, g6, fun v q => by rw [d2] at q; cases q⟩
theorem ZnSt.keep {i : Nat} {h h' : Heap} (st : ZnSt z TI TO i1 i2 a b i h) (k : ∀ c ∈ [z, TI, TO, i1, i2], ∀ o, h.get? c = some o → h'.get? c = some o) : ZnSt z TI TO i1 i2 a b i h' :=
  ⟨st.zp.imp fun _ q => q.imp fun _ q => ⟨q.1, k z (by simp) _ q.2⟩, k TI (by simp) _ st.ti, st.to.imp fun _ q => q.imp fun _ q => k TO (by simp) _ q, st.w1.at fun o q => k i1 (by simp) o q, st.w2.at fun o q => k i2 (by simp) o q⟩
theorem turn_zN (S : ZipSep2 z TI TO i1 i2 [i1, a] [i2, b]) (ha : a ≠ i1) (hb : b ≠ i2) : Turn P w K (.Name n tpos) (ItZN K a b) [z, TI, TO, i1, i2] z (ZnSt z TI TO i1 i2 a b) where
  mem := by simp
  obj := fun i h st c hc => st.obj hc
  keep := fun i h h' st k => st.keep k
  item := by
    intro X hP hw hK hc i pins s σ H E I hf st hg
    subst hP hw hK
    obtain ⟨xs, ys, hqx, hqy, lx, ly⟩ := hg
    obtain ⟨us, rv, p, _⟩ := I.tuple hqx
    obtain ⟨us2, rv2, p2, _⟩ := I.tuple hqy
    obtain ⟨x, hx⟩ : ∃ x, xs[i]? = some x := ⟨_, List.getElem?_eq_getElem lx⟩
    obtain ⟨y, hy⟩ : ∃ y, ys[i]? = some y := ⟨_, List.getElem?_eq_getElem ly⟩
    obtain ⟨u, gu, ru⟩ := rv.get hx
    obtain ⟨u2, gu2, ru2⟩ := rv2.get hy
    have D1 := Draws.tuple (prog := X.prog) (w := X.w) (A := X.A.in1) (I.ok.hd hc) i1 a ha us.toArray
    have D2 := Draws.tuple (prog := X.prog) (w := X.w) (A := X.A.in1) (I.ok.hd hc) i2 b hb us2.toArray
    obtain ⟨f0, f, l0, hz⟩ := st.zp
    obtain ⟨x0, y0, ho⟩ := st.to
    have sizes : i < us.toArray.size ∧ i < us2.toArray.size := ⟨by simpa using (List.getElem?_eq_some_iff.mp gu).1, by simpa using (List.getElem?_eq_some_iff.mp gu2).1⟩
    refine zr_next S D1 D2 ⟨rfl, fun _ _ _ q => q, hz, st.ti, ho, ⟨st.w1, p⟩, ⟨st.w2, p2⟩⟩ l0 sizes.1 sizes.2 fun x1 x2 h1 tk g0 q1 q2 lg zf => ⟨_, rfl, wpAny_pure ?_⟩
    obtain rfl : x1 = u := by simpa [gu] using q1.symm
    obtain rfl : x2 = u2 := by simpa [gu2] using q2.symm
    have I1 : Inv X pins σ (upd H s.heap.objs.size (.tup [x, y])) { s with heap := h1, toks := tk } :=
      I.turnedNew (ch := [z, TI, TO, i1, i2]) (fun c o hc q => zf.kp c o (fun r => hc (by simp only [List.mem_cons, List.not_mem_nil, or_false] at r ⊢; rcases r with r | r | r | r <;> simp [r])) q) hf (Nat.le_refl _) ⟨by show 2 ≤ sizeLine; decide, [x1, x2], .cons ru (.cons ru2 .nil), ⟨_, zf.new, rfl, _, rfl⟩⟩
    obtain ⟨fz, ez⟩ := zf.rz
    refine ⟨.ref s.heap.objs.size, _, I1, rfl, ⟨_, x, y, rfl, I.hok.fresh (Nat.le_refl _), rfl, fun l hl => by rw [I.tuple_inj hl hqx]; exact hx, fun l hl => by rw [I.tuple_inj hl hqy]; exact hy⟩, ⟨⟨g0, fz, lg, ez⟩, zf.ri, zf.ro, zf.s1.1, zf.s2.1⟩, fun c hcm => ?_⟩
    obtain ⟨_, q, _⟩ := st.obj hcm
    rw [upd_ne (Nat.ne_of_lt (Heap.lt_size q))]
    exact (hf c hcm).1
  done := by
    intro X hP hw hK hc i pins s σ H E I hf st hg
    subst hP hw hK
    obtain ⟨xs, ys, hqx, hqy, lx⟩ := hg
    obtain ⟨us, rv, p, _⟩ := I.tuple hqx
    obtain ⟨us2, rv2, p2, _⟩ := I.tuple hqy
    have D1 := Draws.tuple (prog := X.prog) (w := X.w) (A := X.A.in1) (I.ok.hd hc) i1 a ha us.toArray
    have D2 := Draws.tuple (prog := X.prog) (w := X.w) (A := X.A.in1) (I.ok.hd hc) i2 b hb us2.toArray
    obtain ⟨f0, f, l0, hz⟩ := st.zp
    obtain ⟨x0, y0, ho⟩ := st.to
    have sz : i = us.toArray.size := by rw [List.size_toArray, ← rv.length, lx]
    have w1 := st.w1
    rw [sz] at w1
    exact zr_stop S D1 D2 ⟨rfl, fun _ _ _ q => q, hz, st.ti, ho, ⟨w1, p⟩, ⟨st.w2, p2⟩⟩ l0 fun h' r => ⟨rfl, I.turnedL (t' := s.toks) (ch := [z, TI, TO, i1, i2]) (fun c o hc q => r c o (fun r => hc (by simp only [List.mem_cons, List.not_mem_nil, or_false] at r ⊢; rcases r with r | r | r | r <;> simp [r])) q) hf⟩
  self := fun A i s Q E st h => let ⟨_, _, _, hz⟩ := st.zp; zr_iter hz h
end
theorem five_le {N : Nat} : ∀ c ∈ [N + 4, N + 2, N + 3, N, N + 1], N ≤ c := fun c hc => by
  simp only [List.mem_cons, List.not_mem_nil, or_false] at hc
  omega
def iZN (K : PySem.W.Frag) (ta : TA) : TI := fun σ H R => ta σ H fun vs H1 => ∃ a b xs ys, vs = [.ref a, .ref b] ∧ SqT K H1 a xs ∧ SqT K H1 b ys ∧ R (ItZN K a b) H1
theorem pi_zN {X : Cx} {e1 e2 : Expr} {ta : TA} {p2 zp tpos : Pos} {n : Str} (hgz : Gl X "zip") (hmz : X.mg "zip" = none) (ha : PA X [e1, e2] ta)
    (hsz : starEach [e1, e2] X.env = (false, eval e1 X.env) :: starEach [e2] X.env := by rfl) (hpl : (backTo zp (starEach [e2] X.env)).any (·.1) = false := by rfl) :
    PI X (.Name n tpos) (.Call (.Name "zip" p2) [e1, e2] [] zp) (iZN X.K ta) := by
  refine ⟨fun pins s σ H R I h => ?_⟩
  refine Call_ (ld_blt I hgz hmz PyProof.Rows.boot_zip (PyProof.Rows.callWith_type1 (thn (ha.run zp pins s σ H _ I h) fun us s1 ⟨vs, H1, I1, r1, q1⟩ => ?_) hsz hpl))
  obtain ⟨a, b, xs, ys, rfl, hqx, hqy, q⟩ := q1
  rcases r1 with _ | ⟨r, r1⟩
  rcases r1 with _ | ⟨r', r1⟩
  cases r1
  cases r
  cases r'
  obtain ⟨us, rv, p1, _⟩ := I1.tuple hqx
  obtain ⟨us2, rv2, p2, _⟩ := I1.tuple hqy
  obtain ⟨la, lb⟩ : a < s1.heap.objs.size ∧ b < s1.heap.objs.size := ⟨let ⟨_, q, _⟩ := p1; Heap.lt_size q, let ⟨_, q, _⟩ := p2; Heap.lt_size q⟩
  refine RZ.call_zipT p1 p2 fun h1 hz hTI hTO w1 w2 sz1 k1 => zr_iter hz ?_
  have I2 : Inv X pins σ H1 { s1 with heap := h1 } := I1.kept (t' := s1.toks) fun c o q => k1 c o q
  have S : ZipSep2 (s1.heap.objs.size + 4) (s1.heap.objs.size + 2) (s1.heap.objs.size + 3) s1.heap.objs.size (s1.heap.objs.size + 1) [s1.heap.objs.size, a] [s1.heap.objs.size + 1, b] := zip_sep2 (fp1 := [a]) (fp2 := [b]) (fun c hc => by simpa using (show c = a by simpa using hc) ▸ la) (fun c hc => by simpa using (show c = b by simpa using hc) ▸ lb)
  exact ⟨s1.heap.objs.size + 4, [s1.heap.objs.size + 4, s1.heap.objs.size + 2, s1.heap.objs.size + 3, s1.heap.objs.size, s1.heap.objs.size + 1], _, _, H1, rfl, I2, turn_zN S (Nat.ne_of_lt la) (Nat.ne_of_lt (Nat.lt_succ_of_lt lb)), ⟨⟨.none, false, .inl rfl, hz⟩, hTI, ⟨_, _, hTO⟩, w1, w2⟩, fun c hc => I1.fpOk (five_le c hc) (I1.hok.fresh (five_le c hc)), q⟩
section
variable {X : Cx} {W : WX} {T : List (Addr × Str)} {δ : De} {ω : Om} {a b c elt : Expr} {pos p : Pos} {R : Out → Prop} {ss : List Stmt} {xs ys : List PyData}
abbrev ta2 (X : Cx) (a b : Expr) : TA := tCons (wpe X a) (tCons (wpe X b) tNil)
def pairsD (xs ys : List PyData) : List PyData := List.zipWith (fun x y => .tuple [x, y]) xs ys
theorem pairsD_get {xs ys : List PyData} {i : Nat} {x y : PyData} (h1 : xs[i]? = some x) (h2 : ys[i]? = some y) : (pairsD xs ys)[i]? = some (.tuple [x, y]) := by
  unfold pairsD
  rw [List.getElem?_zipWith, h1, h2]
theorem lc_zipIf {σ : L2.St} {H : Hp} {Q : VK} {j : Nat} {te : TE} {tt : TT} {sel : List (Option PyData)} (rl : Rl X.K H σ δ ω) (ha : PD X δ ω a (.tuple xs)) (hb : PD X δ ω b (.tuple ys)) (hl : ys.length = xs.length) (hls : sel.length = xs.length) (hz : xs.length ≤ 10000)
    (ht : ∀ (i : Nat) (d : PyData) (s : Option PyData), (pairsD xs ys)[i]? = some d → sel[i]? = some s → ∀ D o σ' H', Rl X.K H' σ' (δ.set j (some (.im d))) (omD ω D o) → ∀ Q : Bool → Hp → Prop, (∀ H2, Same H' H2 → Q s.isSome H2) → tt σ' H' Q)
    (he : ∀ (i : Nat) (d y : PyData), (pairsD xs ys)[i]? = some d → sel[i]? = some (some y) → ∀ D o σ' H', Rl X.K H' σ' (δ.set j (some (.im d))) (omD ω D o) → ∀ Q : VK, (∀ v H2, Same H' H2 → Dp X.K (hid (ads (omD ω D o)) H2) v y → Q v H2) → te σ' H' Q)
    (k : ∀ p vs H', Same H H' → H p = none → H' p = some (.lst vs) → DpAll X.K (hid (p :: ads ω) H') vs (pick sel) → Q (.ref p) H') :
    tLc (iZN X.K (ta2 X a b)) (gName j) tt te [j] σ H Q := by
  refine ha σ H rl _ fun va H0 s0 da => hb σ H0 (rl.mono s0) _ fun vb H1 s1 db => ?_
  have da1 := dpm (hid_same s1) da
  clear da
  have sH : Same H H1 := s0.trans s1
  have rl1 := rl.mono sH
  cases da1
  cases db
  rename_i qa us a1 a2 qb ws b1 b2
  have la := dpa_len a2
  have lb := dpa_len b2
  refine ⟨qa, qb, us, ws, rfl, same_sqt hid_sub a1, same_sqt hid_sub b1, fun D hD => ?_⟩
  refine ⟨fun i m H2 => m = xs.length - i ∧ i ≤ xs.length ∧ Same H1 H2 ∧ ∃ vs, H2 D = some (.lst vs) ∧ DpAll X.K (hid (ads (FP.omD ω D (.lst ((pick (sel.take i)).map .im)))) H2) vs (pick (sel.take i)), ⟨xs.length, by omega, Nat.zero_le _, same_new hD, [], upd_same, ?_⟩, ?_⟩
  · rw [List.take_zero]
    exact .nil
  rintro i m H2 ⟨em, hi, s2, vs, hv, dv⟩
  have qa2 := same_sqt s2 (same_sqt hid_sub a1)
  have qb2 := same_sqt s2 (same_sqt hid_sub b1)
  by_cases hlt : i < xs.length
  · refine .inr ⟨⟨us, ws, qa2, qb2, by omega, by omega⟩, fun H3 => Same H1 H3 ∧ ∃ vs, H3 D = some (.lst vs) ∧ DpAll X.K (hid (ads (FP.omD ω D (.lst ((pick (sel.take (i + 1))).map .im)))) H3) vs (pick (sel.take (i + 1))), fun H3 ⟨s3, h3⟩ => ⟨xs.length - (i + 1), by omega, rfl, hlt, s3, h3⟩, fun x H3 hy => ?_⟩
    obtain ⟨T1, u, v', rfl, n1, rfl, f1, f2⟩ := hy
    obtain ⟨x, ex, dx⟩ := dpa_get' a2 (f1 us qa2)
    obtain ⟨y, ey, dy⟩ := dpa_get' b2 (f2 ws qb2)
    have ed := pairsD_get ex ey
    have hys : i < sel.length := by omega
    have es : sel[i]? = some sel[i] := List.getElem?_eq_getElem hys
    show wipe (((wipe σ [j])).set j (some (.ref T1))) [j] = wipe σ [j] ∧ _
    have ew : wipe σ [j] = σ.set j none := rfl
    refine ⟨?_, ?_⟩
    · show (((σ.set j none).set j (some (.ref T1))).set j none) = σ.set j none
      rw [List.set_set, List.set_set]
    show tt (((wipe σ [j])).set j (some (.ref T1))) _ _
    rw [ew, List.set_set]
    have sn : Same H2 (upd H2 T1 (.tup [u, v'])) := same_new n1
    have rl3 := (rl1.omD hD s2 hv dv)
    have nT : T1 ∉ ads (omD ω D (.lst ((pick (sel.take i)).map .im))) := new_out rl3.ro.there n1
    have dT : Dp X.K (hid (ads (omD ω D (.lst ((pick (sel.take i)).map .im)))) (upd H2 T1 (.tup [u, v']))) (.ref T1) (.tuple [x, y]) :=
      .tup (SqT.of (hid_of nT upd_same)) (dpam (hid_same sn) (.cons (dpm (hid_in hD s2) dx) (.cons (dpm (hid_in hD s2) dy) .nil)))
    have rl4 := (rl3.mono sn).set (i := j) (x := .im (.tuple [x, y])) (v := .ref T1) dT
    generalize hsel : sel[i] = sv at es
    refine ht i _ sv ed es D _ _ _ rl4 _ fun H4 s4 => ?_
    have s24 : Same H2 H4 := sn.trans s4
    cases sv with
    | none =>
      refine iteF ⟨s2.trans s24, vs, s24 D _ hv, ?_⟩
      rw [pick_snoc es]
      show DpAll _ _ vs (pick (sel.take i) ++ [])
      rw [List.append_nil]
      exact dpam (hid_same s24) dv
    | some y2 =>
      refine iteT (he i _ y2 ed es D _ _ _ (rl4.mono s4) _ fun v H5 s5 d5 => ⟨vs, s5 D _ (s24 D _ hv), ?_, same_upd_new hD ((s2.trans s24).trans s5), vs ++ [v], upd_same, ?_⟩)
      · rw [dpa_len dv]
        refine Nat.lt_of_le_of_lt (pick_len _) ?_
        rw [List.length_take]
        refine Nat.lt_of_le_of_lt (Nat.min_le_left _ _) (Nat.lt_of_lt_of_le hlt (Nat.le_trans hz ?_))
        rw [sizeLine_eq]
        decide
      · rw [pick_snoc es]
        exact dpa_app (dpam hid_upd (dpam (hid_same (s24.trans s5)) dv)) (.cons (dpm hid_upd d5) .nil)
  · have e : i = xs.length := by omega
    subst e
    refine .inl ⟨⟨us, ws, qa2, qb2, la⟩, ?_⟩
    rw [List.take_of_length_le (by omega)] at dv
    exact k D vs H2 (sH.trans s2) (sH.free hD) hv (dpam (hid_more fun b h => ads_omD.mpr (List.mem_cons.mp h)) dv)
/-- x = [elt for y in zip(a, b) if c], a list of one's own -/
theorem sd_ownLcZ (i : Nat) {x : Str} {py p' zp cpos : Pos} {scope : Scope} {y : Str} {j : Nat} {sel : List (Option PyData)} (hc : X.calm = true) (hN : X.N.Nodup) (hmz : X.mg "zip" = none) (ha : PD X δ ω a (.tuple xs)) (hb : PD X δ ω b (.tuple ys)) (hl : ys.length = xs.length) (hls : sel.length = xs.length) (ok : BlkOk X.N X.env.scope scope [(y, j)])
    (hg : ∀ (s : Shared) (H : Hp) (C : Addr) (cl : List (Str × Addr)) (fp : List Addr), PG (X.blk s H scope (compEnvC scope cl C X.env) fp) (.Name y p') (gName j))
    (ht : ∀ (i : Nat) (d : PyData) (s : Option PyData), (pairsD xs ys)[i]? = some d → sel[i]? = some s → ∀ D o (sh : Shared) (H : Hp) (C : Addr) (cl : List (Str × Addr)) (fp : List Addr), PTd (X.blk sh H scope (compEnvC scope cl C X.env) fp) (δ.set j (some (.im d))) (omD ω D o) c s.isSome)
    (he : ∀ (i : Nat) (d y : PyData), (pairsD xs ys)[i]? = some d → sel[i]? = some (some y) → ∀ D o (s : Shared) (H : Hp) (C : Addr) (cl : List (Str × Addr)) (fp : List Addr), PD (X.blk s H scope (compEnvC scope cl C X.env) fp) (δ.set j (some (.im d))) (omD ω D o) elt y)
    (hz : xs.length ≤ 10000) (hk : ∀ D, SD X W T ss (δ.set i (some (.ad D))) (omD ω D (.lst ((pick sel).map .im))) R) (hsw : swapsWith (.ListComp elt [⟨.Name y p', .Call (.Name "zip" p) [a, b] [] zp, [c], 0⟩] scope cpos) (some (.Name x py)) pos.line X.env = pure true := by rfl)
    (hy : X.N[i]? = some x := by rfl) (hyl : X.env.scope.names.lookup x = some .local := by rfl) (hgz : Gl X "zip" := by rfl)
    (hs1 : starEach [a, b] X.env = (false, eval a X.env) :: starEach [b] X.env := by rfl) (hs2 : starEach [b] X.env = (false, eval b X.env) :: starEach [] X.env := by rfl) (hpl : (backTo zp (starEach [b] X.env)).any (·.1) = false := by rfl)
    (hs : ∀ x, foldedSetIterable (.Call (.Name "zip" p) [a, b] [] zp) X.env x = pure x := by intro _; rfl) :
    SD X W T (.Assign [.Name x py] (.ListComp elt [⟨.Name y p', .Call (.Name "zip" p) [a, b] [] zp, [c], 0⟩] scope cpos) pos :: ss) δ ω R := by
  refine sd_cons fun σ H D rl t k => ws (ps_setLc (i := i) (own := [(y, j)]) hc hN hy hyl hsw (pi_zN hgz hmz (pa_cons pe_w (pa_cons pe_w pa_nil hs2) hs1) hs1 hpl) ok hg (fun s H0 C cl fp => pts_blk s H0 C cl fp) (fun s H0 C cl fp => pe_blk s H0 C cl fp) hs) ?_
  refine lc_zipIf rl ha hb hl hls hz (fun i d sv hd hy D o σ' H' rl' Q' k' s H0 C cl fp => ht i d sv hd hy D o s H0 C cl fp σ' H' rl' Q' k') (fun i d y hd hy D o σ' H' rl' Q' k' s H0 C cl fp => he i d y hd hy D o s H0 C cl fp σ' H' rl' Q' k') (fun q vs H' s n hv dv => ?_)
  have rl2 : Rl X.K H' σ δ (omD ω q (.lst ((pick sel).map .im))) := rl.omD n s hv (dpam (hid_more fun b h => List.mem_cons.mpr (ads_omD.mp h)) dv)
  exact k.nx _ _ _ H' (hk q) (stp_new s n) (rl2.set (x := .ad q) (v := .ref q) rfl)
end
end FP

namespace FP
open PySem PySem.Spec PyProof.Rows L2 HotX L2H
section
variable {X : Cx} {W : WX} {T : List (Addr × Str)} {δ : De} {ω : Om} {a b c e elt iter : Expr} {pos p : Pos} {R : Out → Prop} {ss body : List Stmt} {d : PyData}
/-- try: .. except ..: nothing is raised -/
theorem sd_tryNo {h0 : ExceptHandler} {hs : List ExceptHandler} (h : SD X.nox W T body δ ω (Nxt X W T ss R)) : SD X W T (.Try body (h0 :: hs) [] [] pos :: ss) δ ω R :=
  sd_cons fun σ H D rl t k => ws (ps_try_thru0 pss_w) (h σ H D rl t ⟨k.nx, k.rt, k.ex, k.bk, k.ct⟩)
/-- a call whose value isn't used -/
theorem sd_exD (he : PD X δ ω e d) (hk : SD X W T ss δ ω R) (hs : swapsWith e none pos.line X.env = pure false := by rfl) : SD X W T (.Expr e pos :: ss) δ ω R :=
  sd_cons fun σ H D rl t k => ws (ps_expr pe_w hs) (he σ H rl _ fun v H1 s1 d1 => k.nx _ _ _ H1 hk (.of s1) (rl.mono s1))
/-- [elt for a, b in pairs if c] -/
theorem pn_lc2If {scope : Scope} {n1 n2 : Str} {j1 j2 : Nat} {es : List Expr} {kk : Nat} {tp : Pos} (ls : List (PyData × PyData)) {sel : List (Option PyData)} (hc : X.calm = true) (hN : X.N.Nodup) (hw : PWs X δ ω (.Tuple es kk tp) iter (ls.map fun q => .tuple [q.1, q.2])) (hl : sel.length = ls.length) (hz : ls.length ≤ 10000)
    (ok : BlkOk X.N X.env.scope scope [(n1, j1), (n2, j2)]) (hg : ∀ (s : Shared) (H : Hp) (C : Addr) (cl : List (Str × Addr)) (fp : List Addr), PG (X.blk s H scope (compEnvC scope cl C X.env) fp) (.Tuple es kk tp) (gTup X.K 2 (gAll [j1, j2])))
    (ht : ∀ (i : Nat) (l m : PyData) (sv : Option PyData), ls[i]? = some (l, m) → sel[i]? = some sv → ∀ D o (s : Shared) (H : Hp) (C : Addr) (cl : List (Str × Addr)) (fp : List Addr), PTd (X.blk s H scope (compEnvC scope cl C X.env) fp) (((wipeD δ [j1, j2]).set j1 (some (.im l))).set j2 (some (.im m))) (omD ω D o) c sv.isSome)
    (he : ∀ (i : Nat) (l m z : PyData), ls[i]? = some (l, m) → sel[i]? = some (some z) → ∀ D o (s : Shared) (H : Hp) (C : Addr) (cl : List (Str × Addr)) (fp : List Addr), PD (X.blk s H scope (compEnvC scope cl C X.env) fp) (((wipeD δ [j1, j2]).set j1 (some (.im l))).set j2 (some (.im m))) (omD ω D o) elt z)
    (hs : ∀ x, foldedSetIterable iter X.env x = pure x := by intro _; rfl) : PN X δ ω (.ListComp elt [⟨.Tuple es kk tp, iter, [c], 0⟩] scope pos) (pick sel) := fun σ H rl Q k => by
  obtain ⟨wi, h1, h2⟩ := hw
  refine we (pe_lc (own := [(n1, j1), (n2, j2)]) hc hN h1 ok hg (fun s H0 C cl fp => pts_blk s H0 C cl fp) (fun s H0 C cl fp => pe_blk s H0 C cl fp) hs) ?_
  refine h2 σ H rl _ fun J H1 s1 w => fun D hD => ?_
  have rl1 := rl.mono s1
  refine ⟨fun i m H2 => m = ls.length - i ∧ i ≤ ls.length ∧ Same H1 H2 ∧ ∃ vs, H2 D = some (.lst vs) ∧ DpAll X.K (hid (ads (omD ω D (.lst ((pick (sel.take i)).map .im)))) H2) vs (pick (sel.take i)), ⟨ls.length, by omega, Nat.zero_le _, same_new hD, [], upd_same, by rw [List.take_zero]; exact .nil⟩, ?_⟩
  rintro i m H2 ⟨em, hi, s2, vs, hv, dv⟩
  obtain ⟨go, stop, yld⟩ := w H2 s2
  rw [List.length_map] at go stop yld
  by_cases hlt : i < ls.length
  · have el : ls[i]? = some ls[i] := List.getElem?_eq_getElem hlt
    have ez : sel[i]? = some sel[i] := List.getElem?_eq_getElem (by omega)
    refine .inr ⟨go i hlt, fun H3 => Same H1 H3 ∧ ∃ vs, H3 D = some (.lst vs) ∧ DpAll X.K (hid (ads (omD ω D (.lst ((pick (sel.take (i + 1))).map .im)))) H3) vs (pick (sel.take (i + 1))), fun H3 ⟨s3, h3⟩ => ⟨ls.length - (i + 1), by omega, rfl, hlt, s3, h3⟩, fun x H3 hy => ?_⟩
    obtain ⟨e3, d, ed, dx⟩ := yld i x H3 hlt hy
    subst e3
    rw [List.getElem?_map, el] at ed
    cases ed
    cases dx with
    | tup c1 c2 =>
      cases c2 with
      | cons c3 c4 =>
        cases c4 with
        | cons c5 c6 =>
          cases c6
          rename_i qw w1 w2
          refine ⟨qw, [w1, w2], rfl, same_sqt s2 (same_sqt hid_sub c1), rfl, ?_⟩
          refine ⟨w1, _, rfl, ?_⟩
          refine ⟨w2, [], rfl, ?_⟩
          refine ⟨rfl, ?_, ?_⟩
          · rw [wipe_mem (by simp), wipe_mem (by simp), wipe_wipe (fun v h => h)]
          · have rl3 := rl1.omD hD s2 hv dv
            have rl4 := rl_wipe rl3 [j1, j2]
            have up := hid_in (ω := ω) (o := .lst ((pick (sel.take i)).map .im)) hD s2
            have rl5 := (rl4.set (i := j1) (x := .im ls[i].1) (v := w1) (dpm up c3)).set (i := j2) (x := .im ls[i].2) (v := w2) (dpm up c5)
            generalize hsel : sel[i] = sv at ez
            intro s H0 C cl fp
            refine ht i ls[i].1 ls[i].2 sv el ez D _ s H0 C cl fp _ _ rl5 _ fun H4 s4 => ?_
            cases sv with
            | none =>
              refine iteF ⟨s2.trans s4, vs, s4 D _ hv, ?_⟩
              rw [pick_snoc ez]
              show DpAll _ _ vs (pick (sel.take i) ++ [])
              rw [List.append_nil]
              exact dpam (hid_same s4) dv
            | some y =>
              refine iteT ?_
              intro s' H0' C' cl' fp'
              refine he i ls[i].1 ls[i].2 y el ez D _ s' H0' C' cl' fp' _ _ (rl5.mono s4) _ fun v H5 s5 d5 => ⟨vs, s5 D _ (s4 D _ hv), ?_, same_upd_new hD ((s2.trans s4).trans s5), vs ++ [v], upd_same, ?_⟩
              · rw [dpa_len dv]
                refine Nat.lt_of_le_of_lt (pick_len _) ?_
                rw [List.length_take]
                refine Nat.lt_of_le_of_lt (Nat.min_le_left _ _) (Nat.lt_of_lt_of_le hlt (Nat.le_trans hz ?_))
                rw [sizeLine_eq]
                decide
              · rw [pick_snoc ez]
                exact dpa_app (dpam hid_upd (dpam (hid_same (s4.trans s5)) dv)) (.cons (dpm hid_upd d5) .nil)
  · have e : i = ls.length := by omega
    subst e
    refine .inl ⟨stop, ?_⟩
    rw [List.take_of_length_le (by omega)] at dv
    exact k D vs H2 (s1.trans s2) (s1.free hD) hv (dpam (hid_more fun b h => ads_omD.mpr (List.mem_cons.mp h)) dv)
theorem pt_truPL {ds : List PyData} (h : PL X δ ω e ds) (he : ∀ whole, isTrue e X.env whole = (do let v ← whole; standAt e.pos; holding [v] (truthy v)) := by intro _; rfl) : PTd X δ ω e (!ds.isEmpty) := fun σ H r Q q =>
  wt (pt_truth pe_w he) (h σ H r _ fun l vs H1 s1 h1 d1 => by
    refine ⟨!ds.isEmpty, .inl ⟨vs, h1, ?_⟩, q H1 s1⟩
    cases d1 <;> rfl)
theorem wk_range2 {tg : Expr} {i j : Int} (hm : X.mg "range" = none) (ha : PD X δ ω a (.int i)) (hb : PD X δ ω b (.int j)) (hz : -100000 ≤ i ∧ i ≤ 100000 ∧ -100000 ≤ j ∧ j ≤ 100000) (hg : Gl X "range" := by rfl) (hs : starEach [a, b] X.env = [(false, eval a X.env), (false, eval b X.env)] := by rfl) (hs2 : starEach [b] X.env = [(false, eval b X.env)] := by rfl)
    (he : starEach [a, b] X.env = (false, eval a X.env) :: starEach [b] X.env := by rfl) (he2 : starEach [b] X.env = (false, eval b X.env) :: starEach [] X.env := by rfl) :
    PWk X δ ω tg (.Call (.Name "range" p) [a, b] [] pos) (rangeD i (j - i).toNat) := by
  refine ⟨_, pi_range2 hg hm (pa_cons pe_w (pa_cons pe_w pa_nil he2) he) hs hs2, fun σ H rl R k => ha σ H rl _ fun v H0 s0 d0 => hb σ H0 (rl.mono s0) _ fun v1 H1 s1 d1 => ?_⟩
  cases d0
  cases d1
  refine ⟨i, j, rfl, ⟨by omega, by omega, by omega, by omega⟩, k _ H1 (s0.trans s1) fun T H2 g => ⟨fun n hn => ?_, ?_, fun n y H3 hn w => ?_⟩⟩
  · rw [rangeD_len] at hn
    exact hn
  · show (j - i).toNat ≤ (rangeD i (j - i).toNat).length
    rw [rangeD_len]
    exact Nat.le_refl _
  · obtain ⟨e1, e2⟩ := w
    subst e2
    rw [rangeD_len] at hn
    exact ⟨e1, _, rangeD_get hn, .int _⟩
end
end FP

namespace K96
open PySem PySem.Spec PyProof.Rows L2 FP
/-! ### the text -/
def top (i : Nat) : Stmt := PySem.Challenge.pw_farpanes_k96_whole_slowed_films.main.body.getD i (.Pass ⟨0, 0, 0, 0⟩)
abbrev s_is_whole : Stmt := top 13
abbrev s_is_within : Stmt := top 14
abbrev s_is_tuple_of : Stmt := top 15
abbrev s_are_signs : Stmt := top 16
abbrev s_is_sign : Stmt := top 17
abbrev s_need_face : Stmt := top 23
abbrev s_need_rows : Stmt := top 24
abbrev s_is_cell : Stmt := top 25
abbrev s_need_size : Stmt := top 26
abbrev s_need_face_of_size : Stmt := top 27
abbrev s_size_of : Stmt := top 28
abbrev s_need_face_like : Stmt := top 29
abbrev s_blank_cells : Stmt := top 30
abbrev s_pushed : Stmt := top 32
abbrev s_pulled : Stmt := top 33
abbrev s_rolled : Stmt := top 34
abbrev s_need_change : Stmt := top 40
abbrev s_is_part : Stmt := top 41
abbrev s_is_place : Stmt := top 42
abbrev s_parts_done : Stmt := top 43
abbrev s_part_done : Stmt := top 44
abbrev s_need_places : Stmt := top 45
abbrev s_cells_of : Stmt := top 46
abbrev s_with_put : Stmt := top 47
abbrev s_cost_of_parts : Stmt := top 48
abbrev s_part_cost : Stmt := top 49
abbrev s_change_of : Stmt := top 50
abbrev s_change_with_roll : Stmt := top 51
abbrev s_put_of : Stmt := top 52
abbrev s_spans_to_put : Stmt := top 53
abbrev s_is_worth_joining : Stmt := top 54
abbrev s_need_film : Stmt := top 58
abbrev s_need_film_face : Stmt := top 59
abbrev s_need_length : Stmt := top 60
abbrev s_need_pairs : Stmt := top 61
abbrev s_next_face : Stmt := top 62
abbrev s_face_at : Stmt := top 63
abbrev s_face_up_to : Stmt := top 64
abbrev s_cost_of : Stmt := top 65
abbrev s_filmed : Stmt := top 66
abbrev s_need_faces_by_ticks : Stmt := top 67
abbrev s_slowed : Stmt := top 68
abbrev s_moved : Stmt := top 69
abbrev s__law_cell : Stmt := top 71
abbrev s__law_drawn : Stmt := top 72
abbrev s__law_word : Stmt := top 73
abbrev s__law_told : Stmt := top 74
abbrev s__law_cell_of : Stmt := top 75
abbrev s__law_face : Stmt := top 76
abbrev s__law_other : Stmt := top 77
abbrev s__law_size : Stmt := top 78
abbrev s__law_pairs : Stmt := top 79
abbrev s__law_then : Stmt := top 80
abbrev s_law : Stmt := top 81
abbrev dOf (x : Str) (st : Stmt) : He.DefD := ⟨(x, none), x, x, defArgs st, defBody st, defScope st, [], []⟩
def fn : List He.DefD := [dOf "is_whole" s_is_whole, dOf "is_within" s_is_within, dOf "is_tuple_of" s_is_tuple_of, dOf "are_signs" s_are_signs, dOf "is_sign" s_is_sign, dOf "need_face" s_need_face, dOf "need_rows" s_need_rows, dOf "is_cell" s_is_cell, dOf "need_size" s_need_size, dOf "need_face_of_size" s_need_face_of_size, dOf "size_of" s_size_of, dOf "need_face_like" s_need_face_like, dOf "blank_cells" s_blank_cells, dOf "pushed" s_pushed, dOf "pulled" s_pulled, dOf "rolled" s_rolled, dOf "need_change" s_need_change, dOf "is_part" s_is_part, dOf "is_place" s_is_place, dOf "parts_done" s_parts_done, dOf "part_done" s_part_done, dOf "need_places" s_need_places, dOf "cells_of" s_cells_of, dOf "with_put" s_with_put, dOf "cost_of_parts" s_cost_of_parts, dOf "part_cost" s_part_cost, dOf "change_of" s_change_of, dOf "change_with_roll" s_change_with_roll, dOf "put_of" s_put_of, dOf "spans_to_put" s_spans_to_put, dOf "is_worth_joining" s_is_worth_joining, dOf "need_film" s_need_film, dOf "need_film_face" s_need_film_face, dOf "need_length" s_need_length, dOf "need_pairs" s_need_pairs, dOf "next_face" s_next_face, dOf "face_at" s_face_at, dOf "face_up_to" s_face_up_to, dOf "cost_of" s_cost_of, dOf "filmed" s_filmed, dOf "need_faces_by_ticks" s_need_faces_by_ticks, dOf "slowed" s_slowed, dOf "moved" s_moved, dOf "_law_cell" s__law_cell, dOf "_law_drawn" s__law_drawn, dOf "_law_word" s__law_word, dOf "_law_told" s__law_told, dOf "_law_cell_of" s__law_cell_of, dOf "_law_face" s__law_face, dOf "_law_other" s__law_other, dOf "_law_size" s__law_size, dOf "_law_pairs" s__law_pairs, dOf "_law_then" s__law_then, dOf "law" s_law]
def fa : List He.Fa := [.glo "is_whole", .glo "is_within", .glo "is_tuple_of", .glo "are_signs", .glo "is_sign", .glo "need_face", .glo "need_rows", .glo "is_cell", .glo "need_size", .glo "need_face_of_size", .glo "size_of", .glo "need_face_like", .glo "blank_cells", .glo "pushed", .glo "pulled", .glo "rolled", .glo "need_change", .glo "is_part", .glo "is_place", .glo "parts_done", .glo "part_done", .glo "need_places", .glo "cells_of", .glo "with_put", .glo "cost_of_parts", .glo "part_cost", .glo "change_of", .glo "change_with_roll", .glo "put_of", .glo "spans_to_put", .glo "is_worth_joining", .glo "need_film", .glo "need_film_face", .glo "need_length", .glo "need_pairs", .glo "next_face", .glo "face_at", .glo "face_up_to", .glo "cost_of", .glo "filmed", .glo "need_faces_by_ticks", .glo "slowed", .glo "moved", .glo "_law_cell", .glo "_law_drawn", .glo "_law_word", .glo "_law_told", .glo "_law_cell_of", .glo "_law_face", .glo "_law_other", .glo "_law_size", .glo "_law_pairs", .glo "_law_then", .glo "law", .glo "ScreenError", .glo "BadFace", .glo "BadDeed", .glo "BadTalk", .glo "BadChange", .glo "BadPacket", .glo "BadLayout", .glo "BadName", .glo "BadFilm", .glo "Nothing", .free "abs", .free "all", .free "bool", .free "enumerate", .free "int", .free "isinstance", .free "len", .free "list", .free "max", .free "min", .free "ord", .free "range", .free "sorted", .free "str", .free "sum", .free "tuple", .free "zip", .free "ValueError", .int "PERCENT" 37, .int "MOST_ROWS" 10, .int "MOST_COLUMNS" 20, .int "MOST_INK" 7, .glo "BLANK", .int "MOST_ROLL" 10, .int "ROLL_COST" 4, .int "PUT_COST" 4, .int "CURSOR_COST" 3, .int "MOST_TICK" 9999, .int "MOST_TIMES" 9, .exc "BadFace", .exc "BadChange", .exc "BadFilm"]
def ex (K : PySem.W.Frag) : Bool := gldB K "BLANK" (.tuple [.str " ", .int 0]) && (wordB K "BadFace" [("BadChange", false), ("BadDeed", false), ("BadFace", true), ("BadFilm", false), ("BadLayout", false), ("BadName", false), ("BadPacket", false), ("BadTalk", false), ("Nothing", false)] && (decide (PySem.W.exmOne K (.ref (He.ga K "BadFace")) (.ref (He.ga K "ScreenError")) = some true) && (wordB K "BadChange" [("BadChange", true), ("BadDeed", false), ("BadFace", false), ("BadFilm", false), ("BadLayout", false), ("BadName", false), ("BadPacket", false), ("BadTalk", false), ("Nothing", false)] && (decide (PySem.W.exmOne K (.ref (He.ga K "BadChange")) (.ref (He.ga K "ScreenError")) = some true) && (wordB K "BadFilm" [("BadChange", false), ("BadDeed", false), ("BadFace", false), ("BadFilm", true), ("BadLayout", false), ("BadName", false), ("BadPacket", false), ("BadTalk", false), ("Nothing", false)] && (decide (PySem.W.exmOne K (.ref (He.ga K "BadFilm")) (.ref (He.ga K "ScreenError")) = some true)))))))
def tf : List He.Defn := [("law", none)]
abbrev R : PySem.W.OpenRow := PySem.W.OpenLaw.row PySem.Challenge.rw_farpanes_k96_whole_slowed_films
def ts : List He.Tab := []
abbrev hk : PySem.W.Hook := He.hookX 6 fa fn ts tf ex
def ob (s : PySem.W.SharedT) : He.AlX := He.obsX 6 fa fn ts tf ex (HandSHeadRun.getT s)
theorem ob_eq (s : PySem.W.SharedT) : ob s = hk.obs s.abs := He.obsX_eq (HandSHeadRun.getT_eq s)
def loose0 : List Str := ["ScreenError", "BadFace", "BadDeed", "BadTalk", "BadChange", "BadPacket", "BadLayout", "BadName", "BadFilm", "Nothing", "PERCENT", "is_whole", "is_within", "is_tuple_of", "are_signs", "is_sign", "MOST_ROWS", "MOST_COLUMNS", "MOST_INK", "BLANK", "need_face", "need_rows", "is_cell", "need_size", "need_face_of_size", "size_of", "need_face_like", "blank_cells", "pushed", "pulled"]
def loose1 : List Str := ["rolled", "MOST_ROLL", "ROLL_COST", "PUT_COST", "CURSOR_COST", "need_change", "is_part", "is_place", "parts_done", "part_done", "need_places", "cells_of", "with_put", "cost_of_parts", "part_cost", "change_of", "change_with_roll", "put_of", "spans_to_put", "is_worth_joining", "MOST_TICK", "MOST_TIMES", "need_film", "need_film_face", "need_length", "need_pairs", "next_face", "face_at", "face_up_to", "cost_of"]
def loose2 : List Str := ["filmed", "need_faces_by_ticks", "slowed", "moved", "_law_cell", "_law_drawn", "_law_word", "_law_told", "_law_cell_of", "_law_face", "_law_other", "_law_size", "_law_pairs", "_law_then"]
def loose : List Str := loose0 ++ loose1 ++ loose2
set_option maxHeartbeats 0 in
theorem run (w : World) : HandSHeadRun.RunEq R (PySem.W.view R.prog [81]) hk ob 8000 loose w := by
  intro os
  kernel_rfl
end K96

namespace K96
open PySem PySem.Spec PyProof.Rows L2 FP
/-! ### what the top leaves -/
structure Bl (mg : Str → Option Value) : Prop where
  len : mg "len" = none
  range : mg "range" = none
  isi : mg "isinstance" = none
  int : mg "int" = none
  bool : mg "bool" = none
  str : mg "str" = none
  tuple : mg "tuple" = none
  all : mg "all" = none
  ord : mg "ord" = none
  min : mg "min" = none
  max : mg "max" = none
/-! ### mirrors -/
def isWhole : PyData → Bool
  | .int _ => true
  | _ => false
def isWithin (d : PyData) (lo hi : Int) : Bool := match d with
  | .int i => decide (lo ≤ i) && decide (i ≤ hi)
  | _ => false
def isTupleOf (d : PyData) (n : Int) : Bool := match d with
  | .tuple ds => decide ((ds.length : Int) = n)
  | _ => false
def okSign (c : Nat) : Bool := (decide (32 ≤ c) && decide (c ≤ 126)) && !decide (c = 37)
def areSigns (d : PyData) : Bool := match d with
  | .str z => z.cps.toList.all okSign
  | _ => false
def isSign (d : PyData) : Bool := match d with
  | .str z => z.cps.toList.all okSign && decide (z.length = 1)
  | _ => false
def isCell (d : PyData) : Bool := match d with
  | .tuple [a, b] => isSign a && isWithin b 0 7
  | _ => false
def isI : PyData → Bool
  | .int _ => true
  | .bool _ => true
  | _ => false
def isB : PyData → Bool
  | .bool _ => true
  | _ => false
def isS : PyData → Bool
  | .str _ => true
  | _ => false
def isT : PyData → Bool
  | .tuple _ => true
  | _ => false
def isL : PyData → Bool
  | .list _ => true
  | _ => false
theorem k_int : ∀ d : PyData, kitB (kindD d) "int" = some (isI d)
  | .none => (by decide +kernel : kitB "NoneType" "int" = some false)
  | .bool _ => (by decide +kernel : kitB "bool" "int" = some true)
  | .int _ => (by decide +kernel : kitB "int" "int" = some true)
  | .str _ => (by decide +kernel : kitB "str" "int" = some false)
  | .list _ => (by decide +kernel : kitB "list" "int" = some false)
  | .tuple _ => (by decide +kernel : kitB "tuple" "int" = some false)
  | .dict _ => (by decide +kernel : kitB "dict" "int" = some false)
theorem k_bool : ∀ d : PyData, kitB (kindD d) "bool" = some (isB d)
  | .none => (by decide +kernel : kitB "NoneType" "bool" = some false)
  | .bool _ => (by decide +kernel : kitB "bool" "bool" = some true)
  | .int _ => (by decide +kernel : kitB "int" "bool" = some false)
  | .str _ => (by decide +kernel : kitB "str" "bool" = some false)
  | .list _ => (by decide +kernel : kitB "list" "bool" = some false)
  | .tuple _ => (by decide +kernel : kitB "tuple" "bool" = some false)
  | .dict _ => (by decide +kernel : kitB "dict" "bool" = some false)
theorem k_str : ∀ d : PyData, kitB (kindD d) "str" = some (isS d)
  | .none => (by decide +kernel : kitB "NoneType" "str" = some false)
  | .bool _ => (by decide +kernel : kitB "bool" "str" = some false)
  | .int _ => (by decide +kernel : kitB "int" "str" = some false)
  | .str _ => (by decide +kernel : kitB "str" "str" = some true)
  | .list _ => (by decide +kernel : kitB "list" "str" = some false)
  | .tuple _ => (by decide +kernel : kitB "tuple" "str" = some false)
  | .dict _ => (by decide +kernel : kitB "dict" "str" = some false)
theorem k_tuple : ∀ d : PyData, kitB (kindD d) "tuple" = some (isT d)
  | .none => (by decide +kernel : kitB "NoneType" "tuple" = some false)
  | .bool _ => (by decide +kernel : kitB "bool" "tuple" = some false)
  | .int _ => (by decide +kernel : kitB "int" "tuple" = some false)
  | .str _ => (by decide +kernel : kitB "str" "tuple" = some false)
  | .list _ => (by decide +kernel : kitB "list" "tuple" = some false)
  | .tuple _ => (by decide +kernel : kitB "tuple" "tuple" = some true)
  | .dict _ => (by decide +kernel : kitB "dict" "tuple" = some false)
theorem k_list : ∀ d : PyData, kitB (kindD d) "list" = some (isL d)
  | .none => (by decide +kernel : kitB "NoneType" "list" = some false)
  | .bool _ => (by decide +kernel : kitB "bool" "list" = some false)
  | .int _ => (by decide +kernel : kitB "int" "list" = some false)
  | .str _ => (by decide +kernel : kitB "str" "list" = some false)
  | .list _ => (by decide +kernel : kitB "list" "list" = some true)
  | .tuple _ => (by decide +kernel : kitB "tuple" "list" = some false)
  | .dict _ => (by decide +kernel : kitB "dict" "list" = some false)
theorem bb_int : bootBuiltins "int" = some (.type "int") := by decide +kernel
theorem bb_bool : bootBuiltins "bool" = some (.type "bool") := by decide +kernel
theorem bb_str : bootBuiltins "str" = some (.type "str") := by decide +kernel
theorem bb_tuple : bootBuiltins "tuple" = some (.type "tuple") := by decide +kernel
theorem bb_list : bootBuiltins "list" = some (.type "list") := by decide +kernel
section
variable {P : Program} {w : World} {K : PySem.W.Frag} {mg : Str → Option Value} {base : Heap} {f : Addr} {fd : FuncData}
abbrev Df (K : PySem.W.Frag) (x : Str) (st : Stmt) (f : Addr) (fd : FuncData) : Prop := FunD K x x (defArgs st) (defBody st) (defScope st) [] [] f fd
def frWhole : List PyData → Rs → Prop := fun ds r => ∃ d, ds = [d] ∧ r = .ok (.bool (isWhole d))
theorem sc_whole : FnScope ["value"] ["value"] (defScope s_is_whole) := ⟨rfl, rfl, rfl, by decide +kernel, rfl, by decide +kernel, by decide +kernel⟩
theorem ok_whole (F : Df K "is_whole" s_is_whole f fd) (hm : mg "is_whole" = some (.ref f)) (B : Bl mg) : DefOk P w K mg base 1 "is_whole" frWhole := by
  refine def_ok F hm sc_whole (fun _ _ _ _ _ _ us hl => match us, hl with | [_], _ => rfl) (fun ds r h => by obtain ⟨d, rfl, _⟩ := h; rfl) (fun cdv A outer s H E qs ds r hr h => ?_)
  obtain ⟨d, rfl, rfl⟩ := h
  refine sd_ret (pd_and (pd_isi B.isi B.int bb_int (pd_var 0) (k_int d)) (fun _ => pd_one (pd_not (pd_isi B.isi B.bool bb_bool (pd_var 0) (k_bool d))))) ?_
  cases d <;> rfl
def frWithin : List PyData → Rs → Prop := fun ds r => ∃ d lo hi, ds = [d, .int lo, .int hi] ∧ r = .ok (.bool (isWithin d lo hi))
theorem sc_within : FnScope ["value", "least", "most"] ["value", "least", "most"] (defScope s_is_within) := ⟨rfl, rfl, rfl, by decide +kernel, rfl, by decide +kernel, by decide +kernel⟩
theorem ok_within (F : Df K "is_within" s_is_within f fd) (hm : mg "is_within" = some (.ref f)) (G1 : DefOk P w K mg base 1 "is_whole" frWhole) : DefOk P w K mg base 2 "is_within" frWithin := by
  refine def_ok F hm sc_within (fun _ _ _ _ _ _ us hl => match us, hl with | [_, _, _], _ => rfl) (fun ds r h => by obtain ⟨d, lo, hi, rfl, _⟩ := h; rfl) (fun cdv A outer s H E qs ds r hr h => ?_)
  obtain ⟨d, lo, hi, rfl, rfl⟩ := h
  cases hd : isWhole d with
  | false =>
    refine sd_ret (pd_andF (pd_call G1 hr (pds_cons (pd_var 0) pds_nil) ⟨d, rfl, by rw [hd]⟩)) ?_
    cases d <;> first | exact rfl | cases hd
  | true =>
    obtain ⟨i, rfl⟩ : ∃ i, d = .int i := by
      cases d <;> first | exact ⟨_, rfl⟩ | cases hd
    refine sd_ret (pd_and (pd_call G1 hr (pds_cons (pd_var 0) pds_nil) ⟨_, rfl, rfl⟩) (fun _ => pd_one (pd_chain op_le op_le rd_B0 (fun _ => rd_B0) (pd_var 1) (pd_var 0) (fun _ => pd_var 2)))) ?_
    exact rfl
def frTupleOf : List PyData → Rs → Prop := fun ds r => ∃ d n, ds = [d, .int n] ∧ r = .ok (.bool (isTupleOf d n))
theorem sc_tupleof : FnScope ["value", "many"] ["value", "many"] (defScope s_is_tuple_of) := ⟨rfl, rfl, rfl, by decide +kernel, rfl, by decide +kernel, by decide +kernel⟩
theorem ok_tupleof (F : Df K "is_tuple_of" s_is_tuple_of f fd) (hm : mg "is_tuple_of" = some (.ref f)) (B : Bl mg) : DefOk P w K mg base 1 "is_tuple_of" frTupleOf := by
  refine def_ok F hm sc_tupleof (fun _ _ _ _ _ _ us hl => match us, hl with | [_, _], _ => rfl) (fun ds r h => by obtain ⟨d, n, rfl, _⟩ := h; rfl) (fun cdv A outer s H E qs ds r hr h => ?_)
  obtain ⟨d, n, rfl, rfl⟩ := h
  by_cases hd : ∃ ds, d = .tuple ds
  · obtain ⟨ds, rfl⟩ := hd
    refine sd_ret (pd_and (pd_isi B.isi B.tuple bb_tuple (pd_var 0) (k_tuple _)) (fun _ => pd_one (pd_eqI (pd_lenT B.len (pd_var 0)) (pd_var 1)))) ?_
    exact rfl
  · have hk : kitB (kindD d) "tuple" = some false := by
      rw [k_tuple]
      cases d <;> first | rfl | exact absurd ⟨_, rfl⟩ hd
    refine sd_ret (pd_andF (pd_isi B.isi B.tuple bb_tuple (pd_var 0) hk)) ?_
    cases d <;> first | exact rfl | exact absurd ⟨_, rfl⟩ hd
def frSigns : List PyData → Rs → Prop := fun ds r => ∃ d, ds = [d] ∧ r = .ok (.bool (areSigns d)) ∧ ∀ z, d = .str z → z.length ≤ 1000
theorem sc_signs : FnScope ["value", "sign"] ["value"] (defScope s_are_signs) := ⟨rfl, rfl, rfl, by decide +kernel, rfl, by decide +kernel, by decide +kernel⟩
theorem rd_leS {K : PySem.W.Frag} {y z : Str} : RD K (fun x y H Q => ∃ i j, x = .str i ∧ y = .str j ∧ Q (.bl (!decide (j.cps.toList < i.cps.toList))) H) (.str y) (.str z) (.bool (!decide (z.cps.toList < y.cps.toList))) := fun ps x w H t hx hy Q q => by
  cases hx
  cases hy
  exact ⟨y, z, rfl, rfl, q _ H (Same.refl H) (.bl _)⟩
theorem le_one (a b : Nat) : (!decide (([b] : List Nat) < [a])) = decide (a ≤ b) := by
  by_cases h : a ≤ b
  · rw [decide_eq_true h, decide_eq_false]
    · rfl
    · intro z
      simp only [List.cons_lt_cons_iff] at z
      rcases z with z | ⟨_, z⟩
      · omega
      · exact absurd z (by simp)
  · rw [decide_eq_false h, decide_eq_true]
    · rfl
    · simp only [List.cons_lt_cons_iff]
      left
      omega
theorem ok_signs (F : Df K "are_signs" s_are_signs f fd) (hm : mg "are_signs" = some (.ref f)) (B : Bl mg) (hp : GlD K mg "PERCENT" (.int 37)) : DefOk P w K mg base 1 "are_signs" frSigns := by
  refine def_ok F hm sc_signs (fun _ _ _ _ _ _ us hl => match us, hl with | [_], _ => rfl) (fun ds r h => by obtain ⟨d, rfl, _⟩ := h; rfl) (fun cdv A outer s H E qs ds r hr h => ?_)
  obtain ⟨d, rfl, rfl, hz⟩ := h
  by_cases hd : ∃ z, d = .str z
  · obtain ⟨z, rfl⟩ := hd
    refine sd_ifF (pt_notd (k := true) (pt_bool (pd_isi B.isi B.str bb_str (pd_var 0) (k_str _)))) ?_
    have hl : (signsD z).length = z.length := by
      unfold signsD
      rw [List.length_map, Array.length_toList]
      rfl
    refine sd_ret (d := .bool ((z.cps.toList.map okSign).all id)) (pd_all rfl B.all (PN.pl (pn_lc (y := "sign") (j := 1) (items := signsD z) rfl sc_signs.nd (PWk.ws (wk_str (pd_var 0))) ?_ (blkOk_by (N := ["value", "sign"]) (sc := defScope s_are_signs) (by decide +kernel)) (fun _ _ _ _ _ => pg_name sc_signs.nd rfl (Or.inl rfl)) ?_ (by rw [hl]; exact Nat.le_trans (hz z rfl) (by decide))))) ?_
    · unfold signsD
      rw [List.length_map, List.length_map, List.length_map]
    · intro i d y hd hy D o s H C cl fp
      unfold signsD at hd
      rw [List.getElem?_map] at hd
      rw [List.getElem?_map, List.getElem?_map] at hy
      cases hc : z.cps.toList[i]? with
      | none =>
        rw [hc] at hd
        cases hd
      | some c =>
        rw [hc] at hd hy
        cases hd
        cases hy
        refine PD.eq (pd_and (pd_chain op_le_str op_le_str rd_leS (fun _ => rd_leS) pd_str (pd_var 1) (fun _ => pd_str)) (fun _ => pd_one (pd_neI (pd_ord B.ord (pd_var 1) rfl rfl) (pd_glob hp)))) ?_
        show PyData.bool ((!decide (([c] : List Nat) < [32]) && !decide (([126] : List Nat) < [c])) && !decide (((c : Nat) : Int) = 37)) = PyData.bool (okSign c)
        rw [le_one, le_one]
        unfold okSign
        have e : decide (((c : Nat) : Int) = 37) = decide (c = 37) := by
          by_cases h : c = 37
          · rw [decide_eq_true h, decide_eq_true (by omega)]
          · rw [decide_eq_false h, decide_eq_false (by omega)]
        rw [e]
    · show Rs.ok (.bool (z.cps.toList.all okSign)) = Rs.ok (.bool _)
      rw [List.all_map]
      rfl
  · have hk : kitB (kindD d) "str" = some false := by
      rw [k_str]
      cases d <;> first | rfl | exact absurd ⟨_, rfl⟩ hd
    refine sd_ifT (pt_notd (k := false) (pt_bool (pd_isi B.isi B.str bb_str (pd_var 0) hk))) (sd_ret pd_bl ?_)
    cases d <;> first | exact rfl | exact absurd ⟨_, rfl⟩ hd
end
end K96

namespace K96
open PySem PySem.Spec PyProof.Rows L2 FP
/-! ### smallness -/
def smS (d : PyData) : Prop := ∀ z, d = .str z → z.length ≤ 1000
def smC (d : PyData) : Prop := ∀ ds, d = .tuple ds → ∀ x ∈ ds, smS x
def smR (d : PyData) : Prop := ∀ ds, d = .tuple ds → ds.length ≤ 1000 ∧ ∀ x ∈ ds, smC x
def smRs (d : PyData) : Prop := ∀ ds, d = .tuple ds → ds.length ≤ 1000 ∧ ∀ x ∈ ds, smR x
def smF (d : PyData) : Prop := ∀ ds, d = .tuple ds → ∀ x ∈ ds, smRs x
/-! ### mirrors -/
def lenT : PyData → Nat
  | .tuple ds => ds.length
  | _ => 0
def itemsT : PyData → List PyData
  | .tuple ds => ds
  | _ => []
def okSize (h w : PyData) : Bool := isWithin h 1 10 && isWithin w 1 20
def okRow (n : Nat) (c : PyData) : Bool := decide (lenT c = n) && (itemsT c).all isCell
def isRows (d : PyData) : Bool := match d with
  | .tuple (r0 :: rs) => (r0 :: rs).all isT && (okSize (.int (rs.length + 1 : Nat)) (.int (lenT r0 : Nat)) && (r0 :: rs).all (okRow (lenT r0)))
  | _ => false
def isFace (d : PyData) : Bool := match d with
  | .tuple [rows, row, col] => isRows rows && (isWithin row 0 ((lenT rows : Int) - 1) && isWithin col 0 ((lenT ((itemsT rows).headD .none) : Int) - 1))
  | _ => false
section
variable {P : Program} {w : World} {K : PySem.W.Frag} {mg : Str → Option Value} {base : Heap} {f C : Addr} {fd : FuncData}
def frSign : List PyData → Rs → Prop := fun ds r => ∃ d, ds = [d] ∧ r = .ok (.bool (isSign d)) ∧ smS d
theorem sc_sign : FnScope ["value"] ["value"] (defScope s_is_sign) := ⟨rfl, rfl, rfl, by decide +kernel, rfl, by decide +kernel, by decide +kernel⟩
theorem ok_sign (F : Df K "is_sign" s_is_sign f fd) (hm : mg "is_sign" = some (.ref f)) (B : Bl mg) (G1 : DefOk P w K mg base 1 "are_signs" frSigns) : DefOk P w K mg base 2 "is_sign" frSign := by
  refine def_ok F hm sc_sign (fun _ _ _ _ _ _ us hl => match us, hl with | [_], _ => rfl) (fun ds r h => by obtain ⟨d, rfl, _⟩ := h; rfl) (fun cdv A outer s H E qs ds r hr h => ?_)
  obtain ⟨d, rfl, rfl, hz⟩ := h
  by_cases hd : ∃ z, d = .str z
  · obtain ⟨z, rfl⟩ := hd
    refine sd_ret (pd_and (pd_call G1 hr (pds_cons (pd_var 0) pds_nil) ⟨_, rfl, rfl, hz⟩) (fun _ => pd_one (pd_eqI (pd_lenS B.len (pd_var 0) (Nat.le_trans (hz z rfl) (by decide))) pd_int))) ?_
    show Rs.ok (.bool (z.cps.toList.all okSign && decide (z.length = 1))) = Rs.ok (.bool (z.cps.toList.all okSign && decide (((z.length : Nat) : Int) = 1)))
    have e : decide (((z.length : Nat) : Int) = 1) = decide (z.length = 1) := by
      by_cases h : z.length = 1
      · rw [decide_eq_true h, decide_eq_true (by omega)]
      · rw [decide_eq_false h, decide_eq_false (by omega)]
    rw [e]
  · have e1 : areSigns d = false := by cases d <;> first | rfl | exact absurd ⟨_, rfl⟩ hd
    refine sd_ret (pd_andF (pd_call G1 hr (pds_cons (pd_var 0) pds_nil) ⟨_, rfl, by rw [e1], hz⟩)) ?_
    cases d <;> first | exact rfl | exact absurd ⟨_, rfl⟩ hd
def frCell : List PyData → Rs → Prop := fun ds r => ∃ d, ds = [d] ∧ r = .ok (.bool (isCell d)) ∧ smC d
theorem sc_cell : FnScope ["cell"] ["cell"] (defScope s_is_cell) := ⟨rfl, rfl, rfl, by decide +kernel, rfl, by decide +kernel, by decide +kernel⟩
theorem two_of {d : PyData} (h : isTupleOf d 2 = true) : ∃ a b, d = .tuple [a, b] := by
  cases d with
  | tuple ds =>
    have e : (ds.length : Int) = 2 := of_decide_eq_true h
    match ds, e with
    | [a, b], _ => exact ⟨a, b, rfl⟩
    | [], e => exact absurd e (by simp)
    | [_], e => exact absurd e (by simp)
    | _ :: _ :: _ :: r, e => exact absurd e (by simp only [List.length_cons]; omega)
  | _ => cases h
theorem ok_cell (F : Df K "is_cell" s_is_cell f fd) (hm : mg "is_cell" = some (.ref f)) (G1 : DefOk P w K mg base 1 "is_tuple_of" frTupleOf) (G2 : DefOk P w K mg base 2 "is_sign" frSign) (G3 : DefOk P w K mg base 2 "is_within" frWithin) (gi : GlD K mg "MOST_INK" (.int 7)) :
    DefOk P w K mg base 3 "is_cell" frCell := by
  refine def_ok F hm sc_cell (fun _ _ _ _ _ _ us hl => match us, hl with | [_], _ => rfl) (fun ds r h => by obtain ⟨d, rfl, _⟩ := h; rfl) (fun cdv A outer s H E qs ds r hr h => ?_)
  obtain ⟨d, rfl, rfl, hz⟩ := h
  cases ht : isTupleOf d 2 with
  | false =>
    refine sd_ret (pd_andF (pd_call (G1.mono (by decide)) hr (pds_cons (pd_var 0) (pds_cons pd_int pds_nil)) ⟨_, _, rfl, by rw [ht]⟩)) ?_
    have e : isCell d = false := by
      cases d with
      | tuple ds => match ds, ht with
        | [a, b], ht => cases ht
        | [], _ => rfl
        | [_], _ => rfl
        | _ :: _ :: _ :: _, _ => rfl
      | _ => rfl
    show Rs.ok (.bool (isCell d)) = _
    rw [e]
  | true =>
    obtain ⟨a, b, rfl⟩ := two_of ht
    refine sd_ret (pd_and (pd_call (G1.mono (by decide)) hr (pds_cons (pd_var 0) (pds_cons pd_int pds_nil)) ⟨_, _, rfl, rfl⟩) (fun _ =>
      pd_and (pd_call G2 hr (pds_cons (pd_ixT (d := a) (pd_var 0) pd_int rfl) pds_nil) ⟨_, rfl, rfl, hz _ rfl a (by simp)⟩) (fun _ =>
      pd_one (pd_call G3 hr (pds_cons (pd_ixT (d := b) (pd_var 0) pd_int rfl) (pds_cons pd_int (pds_cons (pd_glob gi) pds_nil))) ⟨_, _, _, rfl, rfl⟩)))) ?_
    exact rfl
def frSize (C : Addr) : List PyData → Rs → Prop := fun ds r => ∃ h w, ds = [h, w] ∧ r = if okSize h w then .ok .none else .er C
theorem sc_size : FnScope ["height", "width"] ["height", "width"] (defScope s_need_size) := ⟨rfl, rfl, rfl, by decide +kernel, rfl, by decide +kernel, by decide +kernel⟩
theorem ok_size (F : Df K "need_size" s_need_size f fd) (hm : mg "need_size" = some (.ref f)) (X1 : ExcF K mg "BadFace" C) (G1 : DefOk P w K mg base 2 "is_within" frWithin) (g1 : GlD K mg "MOST_ROWS" (.int 10)) (g2 : GlD K mg "MOST_COLUMNS" (.int 20)) :
    DefOk P w K mg base 3 "need_size" (frSize C) := by
  refine def_ok F hm sc_size (fun _ _ _ _ _ _ us hl => match us, hl with | [_, _], _ => rfl) (fun ds r h => by obtain ⟨_, _, rfl, _⟩ := h; rfl) (fun cdv A outer s H E qs ds r hr h => ?_)
  obtain ⟨a, b, rfl, rfl⟩ := h
  cases h1 : isWithin a 1 10 with
  | false =>
    refine sd_ifT (pt_notd (k := false) (pt_bool (pd_call G1 hr (pds_cons (pd_var 0) (pds_cons pd_int (pds_cons (pd_glob g1) pds_nil))) ⟨_, _, _, rfl, by rw [h1]⟩))) (sd_raise X1 (L2N.takes_of rfl rfl rfl rfl) ?_ rfl)
    show (if okSize a b = true then Rs.ok .none else Rs.er C) = Rs.er C
    unfold okSize
    rw [h1]
    rfl
  | true =>
    refine sd_ifF (pt_notd (k := true) (pt_bool (pd_call G1 hr (pds_cons (pd_var 0) (pds_cons pd_int (pds_cons (pd_glob g1) pds_nil))) ⟨_, _, _, rfl, by rw [h1]⟩))) ?_
    cases h2 : isWithin b 1 20 with
    | false =>
      refine sd_ifT (pt_notd (k := false) (pt_bool (pd_call G1 hr (pds_cons (pd_var 1) (pds_cons pd_int (pds_cons (pd_glob g2) pds_nil))) ⟨_, _, _, rfl, by rw [h2]⟩))) (sd_raise X1 (L2N.takes_of rfl rfl rfl rfl) ?_ rfl)
      show (if okSize a b = true then Rs.ok .none else Rs.er C) = Rs.er C
      unfold okSize
      rw [h1, h2]
      rfl
    | true =>
      refine sd_ifF (pt_notd (k := true) (pt_bool (pd_call G1 hr (pds_cons (pd_var 1) (pds_cons pd_int (pds_cons (pd_glob g2) pds_nil))) ⟨_, _, _, rfl, by rw [h2]⟩))) (sd_nil ?_)
      show (if okSize a b = true then Rs.ok .none else Rs.er C) = Rs.ok .none
      unfold okSize
      rw [h1, h2]
      rfl
def frRows (C : Addr) : List PyData → Rs → Prop := fun ds r => ∃ d, ds = [d] ∧ (r = if isRows d then .ok .none else .er C) ∧ smRs d
theorem sc_rows : FnScope ["rows", "cells", "cell"] ["rows"] (defScope s_need_rows) := ⟨rfl, rfl, rfl, by decide +kernel, rfl, by decide +kernel, by decide +kernel⟩
theorem isT_of {d : PyData} (h : isT d = true) : ∃ ds, d = .tuple ds := by
  cases d with
  | tuple ds => exact ⟨ds, rfl⟩
  | _ => cases h
theorem ok_rows (F : Df K "need_rows" s_need_rows f fd) (hm : mg "need_rows" = some (.ref f)) (B : Bl mg) (X1 : ExcF K mg "BadFace" C) (G1 : DefOk P w K mg base 3 "need_size" (frSize C)) (G2 : DefOk P w K mg base 3 "is_cell" frCell) :
    DefOk P w K mg base 4 "need_rows" (frRows C) := by
  refine def_ok F hm sc_rows (fun _ _ _ _ _ _ us hl => match us, hl with | [_], _ => rfl) (fun ds r h => by obtain ⟨_, rfl, _⟩ := h; rfl) (fun cdv A outer s H E qs ds r hr h => ?_)
  obtain ⟨d, rfl, er, hz⟩ := h
  have tk : L2N.Takes (cxOf (L2N.CX P w) P w K mg base ["rows", "cells", "cell"] "need_rows" (defScope s_need_rows) f cdv A outer s H E) (WOf E) := L2N.takes_of rfl rfl rfl rfl
  by_cases hd : ∃ rs, d = .tuple rs
  · obtain ⟨rs, rfl⟩ := hd
    obtain ⟨hz1, hz2⟩ := hz rs rfl
    have eall : (rs.map isT).all id = rs.all isT := by rw [List.all_map]; rfl
    refine sd_if (PWd.pt (pw_ord (pt_notd (pt_bool (pd_isi B.isi B.tuple bb_tuple (pd_var 0) (k_tuple _)))) (fun _ => pw_or1d (pt_notd (pt_bool (pd_all (bs := rs.map isT) rfl B.all
      (PN.pl (pn_lc (y := "cells") (j := 1) (items := rs) rfl sc_rows.nd (PWk.ws (wk_tup (pd_var 0))) (by rw [List.length_map, List.length_map]) (blkOk_by (N := ["rows", "cells", "cell"]) (sc := defScope s_need_rows) (by decide +kernel)) (fun _ _ _ _ _ => pg_name sc_rows.nd rfl (Or.inl rfl)) ?el (Nat.le_trans hz1 (by decide)))))))))) (fun hk => ?raise) (fun hk => sd_nil ?rest)
    case el =>
      intro i d y hd hy D o s H C cl fp
      rw [List.getElem?_map, List.getElem?_map, hd] at hy
      cases hy
      exact pd_isi B.isi B.tuple bb_tuple (pd_var 1) (k_tuple d)
    case raise =>
      rw [eall] at hk
      have hk2 : rs.all isT = false := by
        have : (false || !rs.all isT) = true := hk
        cases h : rs.all isT with
        | false => rfl
        | true => rw [h] at this; cases this
      refine sd_raise X1 tk ?_ rfl
      show r = Rs.er C
      rw [er]
      have e : isRows (.tuple rs) = false := by
        cases rs with
        | nil => rfl
        | cons r0 rs =>
          show ((r0 :: rs).all isT && _) = false
          rw [hk2]
          rfl
      rw [e]
      rfl
    case rest =>
      rw [eall] at hk
      have hk2 : rs.all isT = true := by
        have : (false || !rs.all isT) = false := hk
        cases h : rs.all isT with
        | true => rfl
        | false => rw [h] at this; cases this
      cases rs with
      | nil =>
        refine sd_ifT (pt_notd (k := false) (pt_truT (pd_var 0) rfl)) (sd_raise X1 tk ?_ rfl)
        show r = Rs.er C
        rw [er]
        rfl
      | cons r0 rs =>
        have ht0 : isT r0 = true := by
          rw [List.all_cons, Bool.and_eq_true] at hk2
          exact hk2.1
        obtain ⟨c0, rfl⟩ := isT_of ht0
        refine sd_ifF (pt_notd (k := true) (pt_truT (pd_var 0) rfl)) ?_
        refine sd_callX G1 hr tk (pds_cons (pd_lenT B.len (pd_var 0)) (pds_cons (pd_lenT B.len (pd_ixT (d := .tuple c0) (pd_var 0) pd_int atI0)) pds_nil)) ⟨_, _, rfl, rfl⟩ (fun d0 h0 => ?_) (fun C' h0 => ?_)
        · have hs : okSize (.int (((PyData.tuple c0 :: rs).length : Nat) : Int)) (.int ((c0.length : Nat) : Int)) = true := by
            cases h : okSize (.int (((PyData.tuple c0 :: rs).length : Nat) : Int)) (.int ((c0.length : Nat) : Int)) with
            | true => rfl
            | false => rw [h] at h0; cases h0
          have eR : isRows (.tuple (.tuple c0 :: rs)) = (PyData.tuple c0 :: rs).all (okRow c0.length) := by
            show ((PyData.tuple c0 :: rs).all isT && (okSize (.int (((PyData.tuple c0 :: rs).length : Nat) : Int)) (.int ((c0.length : Nat) : Int)) && (PyData.tuple c0 :: rs).all (okRow c0.length))) = _
            rw [hk2, hs]
            rfl
          rw [eR] at er
          generalize hrs : PyData.tuple c0 :: rs = all at *
          have hget0 : ∀ i d, all[i]? = some d → isT d = true := fun i d h => List.all_eq_true.mp hk2 d (List.mem_of_getElem? h)
          refine sd_for 1 (items := all) (fun i δ' ω' => ω' = ⟨qs, []⟩ ∧ δ'[0]? = some (some (.im (.tuple all))) ∧ δ'.length = 3 ∧ (all.take i).all (okRow c0.length) = true) (wk_tup (pd_var 0)) ⟨rfl, rfl, rfl, rfl⟩ (fun i d δ' ω' hi hv => ?_) (fun δ' ω' hv => sd_nil ?_) (pg_name sc_rows.nd rfl (Or.inl rfl)) (passes_of rfl) rfl
          · obtain ⟨rfl, h0', hl, hv⟩ := hv
            obtain ⟨cs, rfl⟩ := isT_of (hget0 i d hi)
            match δ', hl, h0' with
            | [_, y1, y2], _, h0' =>
              cases h0'
              have hi1 : (all.take (i + 1)).all (okRow c0.length) = okRow c0.length (.tuple cs) := by
                rw [List.take_add_one, hi, List.all_append, hv]
                simp
              have hat : atI all 0 = some (.tuple c0) := by
                rw [← hrs]
                exact atI0
              have bad : okRow c0.length (.tuple cs) = false → r = Rs.er C := fun z => by
                rw [er]
                have e : all.all (okRow c0.length) = false := by
                  cases h : all.all (okRow c0.length) with
                  | false => rfl
                  | true =>
                    rw [List.all_eq_true.mp h _ (List.mem_of_getElem? hi)] at z
                    cases z
                rw [e]
                rfl
              obtain ⟨hz3, hz4⟩ := hz2 _ (List.mem_of_getElem? hi) cs rfl
              refine sd_if (pt_cmpd op_ne rd_neI (pd_lenT B.len (pd_var 1)) (pd_lenT B.len (pd_ixT (d := .tuple c0) (pd_var 0) pd_int hat)) (nomark _)) (fun hk => ?_) (fun hk => sd_nil ?_)
              · refine sd_raise X1 tk (bad ?_) rfl
                have hne : ¬ cs.length = c0.length := fun z => by
                  rw [z] at hk
                  simp at hk
                show (decide (cs.length = c0.length) && _) = false
                rw [decide_eq_false hne]
                rfl
              · have heq : cs.length = c0.length := by
                  by_cases z : cs.length = c0.length
                  · exact z
                  · rw [decide_eq_false (by omega)] at hk
                    cases hk
                refine sd_if (pt_notd (pt_bool (pd_all (bs := cs.map isCell) rfl B.all (PN.pl (pn_lc (y := "cell") (j := 2) (items := cs) rfl sc_rows.nd (PWk.ws (wk_tup (pd_var 1))) (by rw [List.length_map, List.length_map]) (blkOk_by (N := ["rows", "cells", "cell"]) (sc := defScope s_need_rows) (by decide +kernel)) (fun _ _ _ _ _ => pg_name sc_rows.nd rfl (Or.inl rfl)) ?_ (Nat.le_trans hz3 (by decide))))))) (fun hk => ?_) (fun hk => sd_nil (sd_nil ?_))
                · intro i d y hd hy D o s H C cl fp
                  rw [List.getElem?_map, List.getElem?_map, hd] at hy
                  cases hy
                  exact pd_call G2 hr (pds_cons (pd_var 2) pds_nil) ⟨_, rfl, rfl, hz4 d (List.mem_of_getElem? hd)⟩
                · refine sd_raise X1 tk (bad ?_) rfl
                  have e : cs.all isCell = false := by
                    rw [List.all_map] at hk
                    have h2 : (!cs.all isCell) = true := hk
                    cases h : cs.all isCell with
                    | false => rfl
                    | true => rw [h] at h2; cases h2
                  show (_ && cs.all isCell) = false
                  rw [e, Bool.and_false]
                · refine ⟨rfl, rfl, rfl, ?_⟩
                  rw [hi1]
                  have e : cs.all isCell = true := by
                    rw [List.all_map] at hk
                    have h2 : (!cs.all isCell) = false := hk
                    cases h : cs.all isCell with
                    | true => rfl
                    | false => rw [h] at h2; cases h2
                  show (decide (cs.length = c0.length) && cs.all isCell) = true
                  rw [e, decide_eq_true heq]
                  rfl
          · obtain ⟨_, _, _, hv⟩ := hv
            rw [List.take_length] at hv
            show r = Rs.ok .none
            rw [er, hv]
            rfl
        · show r = Rs.er C'
          have hs : okSize (.int (((PyData.tuple c0 :: rs).length : Nat) : Int)) (.int ((c0.length : Nat) : Int)) = false := by
            cases h : okSize (.int (((PyData.tuple c0 :: rs).length : Nat) : Int)) (.int ((c0.length : Nat) : Int)) with
            | false => rfl
            | true => rw [h] at h0; cases h0
          rw [hs] at h0
          cases h0
          rw [er]
          have e : isRows (.tuple (.tuple c0 :: rs)) = false := by
            show ((PyData.tuple c0 :: rs).all isT && (okSize (.int (((PyData.tuple c0 :: rs).length : Nat) : Int)) (.int ((c0.length : Nat) : Int)) && _)) = false
            rw [hs, Bool.false_and, Bool.and_false]
          rw [e]
          rfl
  · have hk : kitB (kindD d) "tuple" = some false := by
      rw [k_tuple]
      cases d <;> first | rfl | exact absurd ⟨_, rfl⟩ hd
    refine sd_ifT (PWd.pt (pw_orT (pt_notd (k := false) (pt_bool (pd_isi B.isi B.tuple bb_tuple (pd_var 0) hk))))) (sd_raise X1 tk ?_ rfl)
    show r = Rs.er C
    rw [er]
    cases d <;> first | rfl | exact absurd ⟨_, rfl⟩ hd
end
end K96

namespace K96
open PySem PySem.Spec PyProof.Rows L2 FP
section
variable {P : Program} {w : World} {K : PySem.W.Frag} {mg : Str → Option Value} {base : Heap} {f C : Addr} {fd : FuncData}
def frFace (C : Addr) : List PyData → Rs → Prop := fun ds r => ∃ d, ds = [d] ∧ (r = if isFace d then .ok .none else .er C) ∧ smF d
theorem sc_face : FnScope ["face", "rows", "row", "column"] ["face"] (defScope s_need_face) := ⟨rfl, rfl, rfl, by decide +kernel, rfl, by decide +kernel, by decide +kernel⟩
theorem three_of {d : PyData} (h : isTupleOf d 3 = true) : ∃ a b c, d = .tuple [a, b, c] := by
  cases d with
  | tuple ds =>
    have e : (ds.length : Int) = 3 := of_decide_eq_true h
    match ds, e with
    | [a, b, c], _ => exact ⟨a, b, c, rfl⟩
    | [], e => exact absurd e (by simp)
    | [_], e => exact absurd e (by simp)
    | [_, _], e => exact absurd e (by simp)
    | _ :: _ :: _ :: _ :: r, e => exact absurd e (by simp only [List.length_cons]; omega)
  | _ => cases h
theorem rows_of {d : PyData} (h : isRows d = true) : ∃ c0 rs, d = .tuple (.tuple c0 :: rs) := by
  cases d with
  | tuple ds =>
    cases ds with
    | nil => cases h
    | cons r0 rs =>
      have h1 : ((r0 :: rs).all isT && _) = true := h
      rw [Bool.and_eq_true] at h1
      have h2 := h1.1
      rw [List.all_cons, Bool.and_eq_true] at h2
      obtain ⟨c0, rfl⟩ := isT_of h2.1
      exact ⟨c0, rs, rfl⟩
  | _ => cases h
theorem ok_face (F : Df K "need_face" s_need_face f fd) (hm : mg "need_face" = some (.ref f)) (B : Bl mg) (X1 : ExcF K mg "BadFace" C) (G1 : DefOk P w K mg base 1 "is_tuple_of" frTupleOf) (G2 : DefOk P w K mg base 4 "need_rows" (frRows C)) (G3 : DefOk P w K mg base 2 "is_within" frWithin) :
    DefOk P w K mg base 5 "need_face" (frFace C) := by
  refine def_ok F hm sc_face (fun _ _ _ _ _ _ us hl => match us, hl with | [_], _ => rfl) (fun ds r h => by obtain ⟨_, rfl, _⟩ := h; rfl) (fun cdv A outer s H E qs ds r hr h => ?_)
  obtain ⟨d, rfl, er, hz⟩ := h
  have tk : L2N.Takes (cxOf (L2N.CX P w) P w K mg base ["face", "rows", "row", "column"] "need_face" (defScope s_need_face) f cdv A outer s H E) (WOf E) := L2N.takes_of rfl rfl rfl rfl
  refine sd_if (pt_notd (pt_bool (pd_call (G1.mono (by decide)) hr (pds_cons (pd_var 0) (pds_cons pd_int pds_nil)) ⟨_, _, rfl, rfl⟩))) (fun hk => sd_raise X1 tk ?_ rfl) (fun hk => sd_nil ?_)
  · show r = Rs.er C
    rw [er]
    have e : isFace d = false := by
      cases d with
      | tuple ds => match ds, hk with
        | [], _ => rfl
        | [_], _ => rfl
        | [_, _], _ => rfl
        | [_, _, _], hk => cases hk
        | _ :: _ :: _ :: _ :: _, _ => rfl
      | _ => rfl
    rw [e]
    rfl
  · have ht : isTupleOf d 3 = true := by
      cases h : isTupleOf d 3 with
      | true => rfl
      | false => rw [h] at hk; cases hk
    obtain ⟨rows, row, col, rfl⟩ := three_of ht
    have hzr : smRs rows := hz _ rfl rows (by simp)
    refine sd_unp [1, 2, 3] (pd_var 0) (pg_tup rfl (pgs_cons (pg_name sc_face.nd rfl (.inl rfl)) (pgs_cons (pg_name sc_face.nd rfl (.inl rfl)) (pgs_cons (pg_name sc_face.nd rfl (.inl rfl)) pgs_nil)))) rfl rfl ?_
    refine sd_callX G2 hr tk (pds_cons (pd_var 1) pds_nil) ⟨_, rfl, rfl, hzr⟩ (fun d0 h0 => ?_) (fun C' h0 => ?_)
    · have hR : isRows rows = true := by
        cases h : isRows rows with
        | true => rfl
        | false => rw [h] at h0; cases h0
      obtain ⟨c0, rs, rfl⟩ := rows_of hR
      have eF : isFace (.tuple [.tuple (.tuple c0 :: rs), row, col]) = (isWithin row 0 ((((PyData.tuple c0 :: rs).length : Nat) : Int) - 1) && isWithin col 0 (((c0.length : Nat) : Int) - 1)) := by
        show (isRows _ && _) = _
        rw [hR]
        rfl
      rw [eF] at er
      refine sd_if (pt_notd (pt_bool (pd_call (G3.mono (by decide)) hr (pds_cons (pd_var 2) (pds_cons pd_int (pds_cons (pd_sub (pd_lenT B.len (pd_var 1)) pd_int) pds_nil))) ⟨_, _, _, rfl, rfl⟩))) (fun hk => sd_raise X1 tk ?_ rfl) (fun hk => sd_nil ?_)
      · show r = Rs.er C
        rw [er]
        have e : isWithin row 0 ((((PyData.tuple c0 :: rs).length : Nat) : Int) - 1) = false := by
          cases h : isWithin row 0 ((((PyData.tuple c0 :: rs).length : Nat) : Int) - 1) with
          | false => rfl
          | true => rw [h] at hk; cases hk
        rw [e]
        rfl
      · have e : isWithin row 0 ((((PyData.tuple c0 :: rs).length : Nat) : Int) - 1) = true := by
          cases h : isWithin row 0 ((((PyData.tuple c0 :: rs).length : Nat) : Int) - 1) with
          | true => rfl
          | false => rw [h] at hk; cases hk
        rw [e] at er
        refine sd_if (pt_notd (pt_bool (pd_call (G3.mono (by decide)) hr (pds_cons (pd_var 3) (pds_cons pd_int (pds_cons (pd_sub (pd_lenT B.len (pd_ixT (d := .tuple c0) (pd_var 1) pd_int atI0)) pd_int) pds_nil))) ⟨_, _, _, rfl, rfl⟩))) (fun hk => sd_raise X1 tk ?_ rfl) (fun hk => sd_nil (sd_nil ?_))
        · show r = Rs.er C
          rw [er]
          cases h : isWithin col 0 (((c0.length : Nat) : Int) - 1) with
          | false => rfl
          | true => rw [h] at hk; cases hk
        · show r = Rs.ok .none
          rw [er]
          cases h : isWithin col 0 (((c0.length : Nat) : Int) - 1) with
          | true => rfl
          | false => rw [h] at hk; cases hk
    · show r = Rs.er C'
      have e : isRows rows = false := by
        cases h : isRows rows with
        | false => rfl
        | true => rw [h] at h0; cases h0
      rw [e] at h0
      cases h0
      rw [er]
      have e2 : isFace (.tuple [rows, row, col]) = false := by
        show (isRows _ && _) = false
        rw [e]
        rfl
      rw [e2]
      rfl
/-! ### faces made -/
def blankC : PyData := .tuple [.str (Str.ofString " "), .int 0]
def frBlankCells : List PyData → Rs → Prop := fun ds r => ∃ n : Int, ds = [.int n] ∧ -1000 ≤ n ∧ n ≤ 1000 ∧ r = .ok (.tuple (List.replicate n.toNat blankC))
theorem sc_bcells : FnScope ["width"] ["width"] (defScope s_blank_cells) := ⟨rfl, rfl, rfl, by decide +kernel, rfl, by decide +kernel, by decide +kernel⟩
theorem ok_bcells (F : Df K "blank_cells" s_blank_cells f fd) (hm : mg "blank_cells" = some (.ref f)) (g : GlD K mg "BLANK" blankC) : DefOk P w K mg base 1 "blank_cells" frBlankCells := by
  refine def_ok F hm sc_bcells (fun _ _ _ _ _ _ us hl => match us, hl with | [_], _ => rfl) (fun ds r h => by obtain ⟨_, rfl, _⟩ := h; rfl) (fun cdv A outer s H E qs ds r hr h => ?_)
  obtain ⟨n, rfl, h1, h2, rfl⟩ := h
  refine sd_ret (pd_rep1 (pd_tup (pds_cons (pd_glob g) pds_nil)) (pd_var 0) h1 h2) ?_
  exact rfl
def blankF (h w : Nat) : PyData := .tuple [.tuple (List.replicate h (.tuple (List.replicate w blankC))), .int 0, .int 0]
def frBlank (C : Addr) : List PyData → Rs → Prop := fun ds r => ∃ h w : Int, ds = [.int h, .int w] ∧ r = if okSize (.int h) (.int w) then .ok (blankF h.toNat w.toNat) else .er C
theorem size_b {h w : Int} (e : okSize (.int h) (.int w) = true) : 1 ≤ h ∧ h ≤ 10 ∧ 1 ≤ w ∧ w ≤ 20 := by
  have e1 : ((decide (1 ≤ h) && decide (h ≤ 10)) && (decide (1 ≤ w) && decide (w ≤ 20))) = true := e
  simp only [Bool.and_eq_true, decide_eq_true_eq] at e1
  omega
/-! ### fitted -/
theorem cut_to (ds : List PyData) (n : Nat) : FP.cutD ds none (some (n : Int)) = ds.take n := by
  unfold FP.cutD
  rw [HT.sIx_none, HT.sIx_nat, List.drop_zero, Nat.sub_zero]
  rcases Nat.le_total n ds.length with h | h
  · rw [Nat.min_eq_left h]
  · rw [Nat.min_eq_right h, List.take_length, List.take_of_length_le h]
theorem cut_from (ds : List PyData) (n : Nat) : FP.cutD ds (some (n : Int)) none = ds.drop n := by
  unfold FP.cutD
  rw [HT.sIx_none, HT.sIx_nat]
  rcases Nat.le_total n ds.length with h | h
  · rw [Nat.min_eq_left h, List.take_of_length_le (by rw [List.length_drop]; exact Nat.le_refl _)]
  · rw [Nat.min_eq_right h, List.drop_length, List.drop_of_length_le h, List.take_nil]
end
end K96

namespace K96
open PySem PySem.Spec PyProof.Rows L2 FP
theorem cell_of {d : PyData} (h : isCell d = true) : ∃ (c : Nat) (i : Int), d = .tuple [.str ⟨#[c]⟩, .int i] ∧ okSign c = true ∧ 0 ≤ i ∧ i ≤ 7 := by
  cases d with
  | tuple ds => match ds, h with
    | [], h => cases h
    | [_], h => cases h
    | _ :: _ :: _ :: _, h => cases h
    | [a, b], h =>
      have h1 : (isSign a && isWithin b 0 7) = true := h
      rw [Bool.and_eq_true] at h1
      obtain ⟨h1, h2⟩ := h1
      cases a with
      | str z =>
        cases b with
        | int i =>
          have h1 : (z.cps.toList.all okSign && decide (z.length = 1)) = true := h1
          have h2 : (decide (0 ≤ i) && decide (i ≤ 7)) = true := h2
          rw [Bool.and_eq_true, decide_eq_true_eq] at h1
          rw [Bool.and_eq_true, decide_eq_true_eq, decide_eq_true_eq] at h2
          obtain ⟨c⟩ := z
          have hs : c.toList.length = 1 := by rw [Array.length_toList]; exact h1.2
          match hc : c.toList, hs with
          | [k], _ =>
            have e : c = #[k] := Array.toList_inj.mp (by rw [hc])
            subst e
            have h3 := h1.1
            have h4 : ([k].all okSign) = true := h3
            rw [List.all_cons, Bool.and_eq_true] at h4
            exact ⟨k, i, rfl, h4.1, h2.1, h2.2⟩
        | _ => cases h2
      | _ => cases h1
  | _ => cases h
end K96

namespace K96
open PySem PySem.Spec PyProof.Rows L2 FP
section
variable {P : Program} {w : World} {K : PySem.W.Frag} {mg : Str → Option Value} {base : Heap} {f C : Addr} {fd : FuncData}
/-! ### the law's draws -/
def cellAt (ns : List Int) (k : Nat) : Int := if ns = [] then (k : Int) * 7919 else ns.getD (k % ns.length) 0 + ((k / ns.length : Nat) : Int) * 104729
def bitsOk (z : Int) : Prop := z.natAbs < 2 ^ 1048577
def frLCell : List PyData → Rs → Prop := fun ds r => ∃ (ns : List Int) (k : Nat), ds = [.list (ns.map .int), .int (k : Int)] ∧ ns.length ≤ 63 ∧ k ≤ 63 ∧ r = .ok (.int (cellAt ns k))
theorem sc_lcell : FnScope ["_law_script", "_law_k"] ["_law_script", "_law_k"] (defScope s__law_cell) := ⟨rfl, rfl, rfl, by decide +kernel, rfl, by decide +kernel, by decide +kernel⟩
theorem shp_ints (ns : List Int) : Shp 1 (.list (ns.map PyData.int)) := Shp.lst fun x h => by
  obtain ⟨n, _, rfl⟩ := List.mem_map.mp h
  exact .int n
theorem cmul_small {i j : Int} (h : -(2 ^ 64) < j ∧ j < 2 ^ 64) : CMul i j := .inr h
theorem ok_lcell (F : Df K "_law_cell" s__law_cell f fd) (hm : mg "_law_cell" = some (.ref f)) (B : Bl mg) : DefOk P w K mg base 1 "_law_cell" frLCell := by
  refine def_ok F hm sc_lcell (fun _ _ _ _ _ _ us hl => match us, hl with | [_, _], _ => rfl) (fun ds r h => by obtain ⟨_, _, rfl, _⟩ := h; rfl) (fun cdv A outer s H E qs ds r hr h => ?_)
  obtain ⟨ns, k, rfl, h1, h2, rfl⟩ := h
  refine sd_if (pt_cmpd (op_eqD hr.units) (rd_eqD (shp_ints ns).ok rfl) (pd_var 0) (PN.pd (pn_lst pds_nil)) (nomark _)) (fun hk => ?_) (fun hk => sd_nil ?_)
  · have e : ns = [] := by
      cases ns with
      | nil => rfl
      | cons n ns => cases hk
    subst e
    refine sd_ret (pd_mulS (cmul_small (by decide)) (pd_var 1) pd_int) ?_
    exact rfl
  · have hne : ns ≠ [] := fun e => by
      subst e
      cases hk
    have hl : 0 < ns.length := List.length_pos_iff.mpr hne
    have hlt : k % ns.length < ns.length := Nat.mod_lt _ hl
    have e1 : ((k : Int) % ((ns.map PyData.int).length : Nat) : Int) = ((k % ns.length : Nat) : Int) := by
      rw [List.length_map]
      omega
    have hat : atI (ns.map PyData.int) ((k : Int) % ((ns.map PyData.int).length : Nat) : Int) = some (.int (ns.getD (k % ns.length) 0)) := by
      rw [e1]
      refine atI_nat ?_
      rw [List.getElem?_map, List.getD_eq_getElem?_getD, List.getElem?_eq_getElem hlt]
      rfl
    have hL : (0 : Int) < (((ns.map PyData.int).length : Nat) : Int) := by rw [List.length_map]; omega
    refine sd_ret (pd_add (pd_ixL (PD.pl (pd_var 0)) (pd_mod hL (pd_var 1) (pd_lenL B.len (PD.pl (pd_var 0)))) hat) (pd_mulS (cmul_small (by decide)) (pd_fdiv (wide_div (b := 20) hL ?_ (by decide) (by decide)) (pd_var 1) (pd_lenL B.len (PD.pl (pd_var 0)))) pd_int)) ?_
    · rw [List.length_map]
      have : (2 : Nat) ^ 20 = 1048576 := by decide
      omega
    · show Rs.ok (.int (cellAt ns k)) = _
      unfold cellAt
      rw [if_neg hne]
      have e2 : ((k : Int) / (((ns.map PyData.int).length : Nat) : Int)) = ((k / ns.length : Nat) : Int) := by
        rw [List.length_map]
        omega
      rw [e2]
/-! drawn -/
def M1 : Int := 340282366920938463463374607431768211507
def M2 : Int := 340282366920938463463374607431768211297
def M3 : Int := 18446744073709551557
def drawn (c k : Int) : Int :=
  let a := (c * 6364136223846793005 + (k + 1) * 1442695040888963407) % M1
  let b := a * a % M2
  ((b % M3 + 1) * (b / M3 + 1) * b) % M1
theorem M1p : (0 : Int) < M1 := by decide
theorem M2p : (0 : Int) < M2 := by decide
theorem M3p : (0 : Int) < M3 := by decide
theorem drawn_b (c k : Int) : 0 ≤ drawn c k ∧ drawn c k < M1 := ⟨Int.emod_nonneg _ (by decide), Int.emod_lt_of_pos _ M1p⟩
def frDrawn : List PyData → Rs → Prop := fun ds r => ∃ c k : Int, ds = [.int c, .int k] ∧ r = .ok (.int (drawn c k))
theorem sc_drawn : FnScope ["_law_cell_here", "_law_k", "_law_more"] ["_law_cell_here", "_law_k"] (defScope s__law_drawn) := ⟨rfl, rfl, rfl, by decide +kernel, rfl, by decide +kernel, by decide +kernel⟩
theorem abs_lt {a : Int} {n : Nat} (h0 : 0 ≤ a) (h : a < ((2 ^ n : Nat) : Int)) : a.natAbs < 2 ^ n := by omega
theorem mod_abs (a : Int) {m : Int} (h : 0 < m) {n : Nat} (hm : m ≤ ((2 ^ n : Nat) : Int)) : (a % m).natAbs < 2 ^ n := abs_lt (Int.emod_nonneg _ (by omega)) (Int.lt_of_lt_of_le (Int.emod_lt_of_pos _ h) hm)
theorem ok_drawn (F : Df K "_law_drawn" s__law_drawn f fd) (hm : mg "_law_drawn" = some (.ref f)) : DefOk P w K mg base 1 "_law_drawn" frDrawn := by
  refine def_ok F hm sc_drawn (fun _ _ _ _ _ _ us hl => match us, hl with | [_, _], _ => rfl) (fun ds r h => by obtain ⟨_, _, rfl, _⟩ := h; rfl) (fun cdv A outer s H E qs ds r hr h => ?_)
  obtain ⟨c, k, rfl, rfl⟩ := h
  show SD _ _ _ _ _ _ (FP.Fin (.ok (.int (drawn c k))))
  refine sd_set 2 (pd_mod M1p (pd_add (pd_mulS (cmul_small (by decide)) (pd_var 0) pd_int) (pd_mulS (cmul_small (by decide)) (pd_add (pd_var 1) pd_int) pd_int)) pd_int) ?_ sc_drawn.nd
  have ha : ((c * 6364136223846793005 + (k + 1) * 1442695040888963407) % M1).natAbs < 2 ^ 129 := mod_abs _ M1p (by decide)
  have ed : drawn c k = (((((c * 6364136223846793005 + (k + 1) * 1442695040888963407) % M1) * ((c * 6364136223846793005 + (k + 1) * 1442695040888963407) % M1) % M2) % M3 + 1) * ((((c * 6364136223846793005 + (k + 1) * 1442695040888963407) % M1) * ((c * 6364136223846793005 + (k + 1) * 1442695040888963407) % M1) % M2) / M3 + 1) * (((c * 6364136223846793005 + (k + 1) * 1442695040888963407) % M1) * ((c * 6364136223846793005 + (k + 1) * 1442695040888963407) % M1) % M2)) % M1 := rfl
  rw [ed]
  generalize (c * 6364136223846793005 + (k + 1) * 1442695040888963407) % M1 = a at *
  refine sd_set 2 (pd_mod M2p (pd_mul (wide_mul ha ha (by decide) (by decide) (by decide)) (pd_var 2) (pd_var 2)) pd_int) ?_ sc_drawn.nd
  have hb : (a * a % M2).natAbs < 2 ^ 129 := mod_abs _ M2p (by decide)
  have hb0 : 0 ≤ a * a % M2 := Int.emod_nonneg _ (by decide)
  generalize a * a % M2 = b at *
  have h1 : (b % M3 + 1).natAbs < 2 ^ 65 := by
    have x1 := Int.emod_nonneg b (show M3 ≠ 0 by decide)
    have x2 := Int.emod_lt_of_pos b M3p
    have x3 : M3 + 1 < ((2 ^ 65 : Nat) : Int) := by decide
    exact abs_lt (by omega) (by omega)
  have h2 : (b / M3 + 1).natAbs < 2 ^ 130 := by
    have x1 : 0 ≤ b / M3 := Int.ediv_nonneg hb0 (by decide)
    have x2 : b / M3 ≤ b := Int.ediv_le_self _ hb0
    have x3 : b < ((2 ^ 129 : Nat) : Int) := by omega
    have x4 : ((2 ^ 129 : Nat) : Int) + 1 < ((2 ^ 130 : Nat) : Int) := by decide
    exact abs_lt (by omega) (by omega)
  have h3 : ((b % M3 + 1) * (b / M3 + 1)).natAbs < 2 ^ 195 := by
    rw [Int.natAbs_mul]
    calc (b % M3 + 1).natAbs * (b / M3 + 1).natAbs < 2 ^ 65 * 2 ^ 130 := Nat.mul_lt_mul'' h1 h2
      _ = 2 ^ 195 := by decide
  refine sd_set 2 (pd_mul (wide_mul h3 hb (by decide) (by decide) (by decide)) (pd_mul (wide_mul h1 h2 (by decide) (by decide) (by decide)) (pd_add (pd_mod M3p (pd_var 2) pd_int) pd_int) (pd_add (pd_fdiv (wide_div (b := 65) M3p (by decide) (by decide) (by decide)) (pd_var 2) pd_int) pd_int)) (pd_var 2)) ?_ sc_drawn.nd
  refine sd_ret (pd_mod M1p (pd_var 2) pd_int) ?_
  exact rfl
/-! ### cells, sizes, faces -/
def sgs : List Nat := [32, 32, 97, 98, 126, 94]
def iks : List Int := [0, 0, 0, 1, 7]
def cellD (c : Nat) (i : Int) : PyData := .tuple [.str ⟨#[c]⟩, .int i]
def cellOfD (m : Int) : PyData := cellD (sgs.getD (m % 6).toNat 0) (iks.getD (m / 8 % 5).toNat 0)
def frCellOf : List PyData → Rs → Prop := fun ds r => ∃ m : Int, ds = [.int m] ∧ r = .ok (cellOfD m)
theorem sc_cellof : FnScope ["_law_more"] ["_law_more"] (defScope s__law_cell_of) := ⟨rfl, rfl, rfl, by decide +kernel, rfl, by decide +kernel, by decide +kernel⟩
theorem mod_nat (m : Int) (n : Nat) (h : 0 < n) : ∃ j : Nat, m % (n : Int) = (j : Int) ∧ j < n := ⟨(m % (n : Int)).toNat, by have := Int.emod_nonneg m (show (n : Int) ≠ 0 by omega); omega, by have := Int.emod_nonneg m (show (n : Int) ≠ 0 by omega); have := Int.emod_lt_of_pos m (show (0 : Int) < n by omega); omega⟩
theorem ok_cellof (F : Df K "_law_cell_of" s__law_cell_of f fd) (hm : mg "_law_cell_of" = some (.ref f)) : DefOk P w K mg base 1 "_law_cell_of" frCellOf := by
  refine def_ok F hm sc_cellof (fun _ _ _ _ _ _ us hl => match us, hl with | [_], _ => rfl) (fun ds r h => by obtain ⟨_, rfl, _⟩ := h; rfl) (fun cdv A outer s H E qs ds r hr h => ?_)
  obtain ⟨m, rfl, rfl⟩ := h
  obtain ⟨j1, e1, l1⟩ := mod_nat m 6 (by decide)
  obtain ⟨j2, e2, l2⟩ := mod_nat (m / 8) 5 (by decide)
  have e1 : m % 6 = (j1 : Int) := e1
  have e2 : m / 8 % 5 = (j2 : Int) := e2
  refine sd_ret (pd_tup (pds_cons (pd_ixL (d := .str ⟨#[sgs.getD j1 0]⟩) (PN.pl (pn_lst (pds_cons pd_str (pds_cons pd_str (pds_cons pd_str (pds_cons pd_str (pds_cons pd_str (pds_cons pd_str pds_nil)))))))) (pd_mod (by decide) (pd_var 0) pd_int) ?_)
    (pds_cons (pd_ixL (d := .int (iks.getD j2 0)) (PN.pl (pn_lst (pds_cons pd_int (pds_cons pd_int (pds_cons pd_int (pds_cons pd_int (pds_cons pd_int pds_nil))))))) (pd_mod (by decide) (pd_fdiv (wide_div (b := 20) (by decide) (by decide) (by decide) (by decide)) (pd_var 0) pd_int) pd_int) ?_) pds_nil))) ?_
  · rw [e1]
    refine atI_nat ?_
    match j1, l1 with
    | 0, _ => exact congrArg (fun z => some (PyData.str z)) (show Str.ofString " " = ⟨#[32]⟩ by decide +kernel)
    | 1, _ => exact congrArg (fun z => some (PyData.str z)) (show Str.ofString " " = ⟨#[32]⟩ by decide +kernel)
    | 2, _ => exact congrArg (fun z => some (PyData.str z)) (show Str.ofString "a" = ⟨#[97]⟩ by decide +kernel)
    | 3, _ => exact congrArg (fun z => some (PyData.str z)) (show Str.ofString "b" = ⟨#[98]⟩ by decide +kernel)
    | 4, _ => exact congrArg (fun z => some (PyData.str z)) (show Str.ofString "~" = ⟨#[126]⟩ by decide +kernel)
    | 5, _ => exact congrArg (fun z => some (PyData.str z)) (show Str.ofString "^" = ⟨#[94]⟩ by decide +kernel)
    | n + 6, h => omega
  · rw [e2]
    refine atI_nat ?_
    match j2, l2 with
    | 0, _ => rfl
    | 1, _ => rfl
    | 2, _ => rfl
    | 3, _ => rfl
    | 4, _ => rfl
    | n + 5, h => omega
  · show Rs.ok (cellD (sgs.getD (m % 6).toNat 0) (iks.getD (m / 8 % 5).toNat 0)) = _
    rw [e1, e2]
    rfl
def sizeD (m : Int) : Int × Int := (1 + m % (([3, 10] : List Int).getD (m / 16 % 2).toNat 1), 1 + m / 64 % (([4, 9, 20] : List Int).getD (m / 2048 % 3).toNat 1))
def frLSize : List PyData → Rs → Prop := fun ds r => ∃ m : Int, ds = [.int m] ∧ r = .ok (.tuple [.int (sizeD m).1, .int (sizeD m).2])
theorem sc_lsize : FnScope ["_law_more"] ["_law_more"] (defScope s__law_size) := ⟨rfl, rfl, rfl, by decide +kernel, rfl, by decide +kernel, by decide +kernel⟩
theorem size_le (m : Int) : 1 ≤ (sizeD m).1 ∧ (sizeD m).1 ≤ 10 ∧ 1 ≤ (sizeD m).2 ∧ (sizeD m).2 ≤ 20 := by
  obtain ⟨j1, e1, l1⟩ := mod_nat (m / 16) 2 (by decide)
  obtain ⟨j2, e2, l2⟩ := mod_nat (m / 2048) 3 (by decide)
  have e1 : m / 16 % 2 = (j1 : Int) := e1
  have e2 : m / 2048 % 3 = (j2 : Int) := e2
  unfold sizeD
  rw [e1, e2]
  show 1 ≤ 1 + m % (([3, 10] : List Int).getD j1 1) ∧ 1 + m % (([3, 10] : List Int).getD j1 1) ≤ 10 ∧ 1 ≤ 1 + m / 64 % (([4, 9, 20] : List Int).getD j2 1) ∧ 1 + m / 64 % (([4, 9, 20] : List Int).getD j2 1) ≤ 20
  have a1 : 1 ≤ 1 + m % (([3, 10] : List Int).getD j1 1) ∧ 1 + m % (([3, 10] : List Int).getD j1 1) ≤ 10 := by
    match j1, l1 with
    | 0, _ => show 1 ≤ 1 + m % 3 ∧ 1 + m % 3 ≤ 10; omega
    | 1, _ => show 1 ≤ 1 + m % 10 ∧ 1 + m % 10 ≤ 10; omega
    | n + 2, h => omega
  have a2 : 1 ≤ 1 + m / 64 % (([4, 9, 20] : List Int).getD j2 1) ∧ 1 + m / 64 % (([4, 9, 20] : List Int).getD j2 1) ≤ 20 := by
    match j2, l2 with
    | 0, _ => show 1 ≤ 1 + m / 64 % 4 ∧ 1 + m / 64 % 4 ≤ 20; omega
    | 1, _ => show 1 ≤ 1 + m / 64 % 9 ∧ 1 + m / 64 % 9 ≤ 20; omega
    | 2, _ => show 1 ≤ 1 + m / 64 % 20 ∧ 1 + m / 64 % 20 ≤ 20; omega
    | n + 3, h => omega
  exact ⟨a1.1, a1.2, a2.1, a2.2⟩
theorem ok_lsize (F : Df K "_law_size" s__law_size f fd) (hm : mg "_law_size" = some (.ref f)) : DefOk P w K mg base 1 "_law_size" frLSize := by
  refine def_ok F hm sc_lsize (fun _ _ _ _ _ _ us hl => match us, hl with | [_], _ => rfl) (fun ds r h => by obtain ⟨_, rfl, _⟩ := h; rfl) (fun cdv A outer s H E qs ds r hr h => ?_)
  obtain ⟨m, rfl, rfl⟩ := h
  obtain ⟨j1, e1, l1⟩ := mod_nat (m / 16) 2 (by decide)
  obtain ⟨j2, e2, l2⟩ := mod_nat (m / 2048) 3 (by decide)
  have e1 : m / 16 % 2 = (j1 : Int) := e1
  have e2 : m / 2048 % 3 = (j2 : Int) := e2
  have p1 : (0 : Int) < ([3, 10] : List Int).getD j1 1 := by
    match j1, l1 with
    | 0, _ => decide
    | 1, _ => decide
    | n + 2, h => omega
  have p2 : (0 : Int) < ([4, 9, 20] : List Int).getD j2 1 := by
    match j2, l2 with
    | 0, _ => decide
    | 1, _ => decide
    | 2, _ => decide
    | n + 3, h => omega
  refine sd_ret (pd_tup (pds_cons (pd_add pd_int (pd_mod p1 (pd_var 0) (pd_ixL (d := .int (([3, 10] : List Int).getD j1 1)) (PN.pl (pn_lst (pds_cons pd_int (pds_cons pd_int pds_nil)))) (pd_mod (by decide) (pd_fdiv (wide_div (b := 20) (by decide) (by decide) (by decide) (by decide)) (pd_var 0) pd_int) pd_int) ?_)))
    (pds_cons (pd_add pd_int (pd_mod p2 (pd_fdiv (wide_div (b := 20) (by decide) (by decide) (by decide) (by decide)) (pd_var 0) pd_int) (pd_ixL (d := .int (([4, 9, 20] : List Int).getD j2 1)) (PN.pl (pn_lst (pds_cons pd_int (pds_cons pd_int (pds_cons pd_int pds_nil))))) (pd_mod (by decide) (pd_fdiv (wide_div (b := 20) (by decide) (by decide) (by decide) (by decide)) (pd_var 0) pd_int) pd_int) ?_))) pds_nil))) ?_
  · rw [e1]
    refine atI_nat ?_
    match j1, l1 with
    | 0, _ => rfl
    | 1, _ => rfl
    | n + 2, h => omega
  · rw [e2]
    refine atI_nat ?_
    match j2, l2 with
    | 0, _ => rfl
    | 1, _ => rfl
    | 2, _ => rfl
    | n + 3, h => omega
  · show Rs.ok (.tuple [.int (1 + m % (([3, 10] : List Int).getD (m / 16 % 2).toNat 1)), .int (1 + m / 64 % (([4, 9, 20] : List Int).getD (m / 2048 % 3).toNat 1))]) = _
    rw [e1, e2]
    rfl
end
end K96

namespace K96
open PySem PySem.Spec PyProof.Rows L2 FP
section
variable {P : Program} {w : World} {K : PySem.W.Frag} {mg : Str → Option Value} {base : Heap} {f C : Addr} {fd : FuncData}
/-! ### a drawn face -/
def rowL (m : Int) (wd j : Nat) : List PyData := if drawn m j % 3 = 0 then List.replicate wd blankC else (List.range wd).map fun (n : Nat) => cellOfD (drawn (drawn m j) n)
def rowsL (m : Int) (h wd : Nat) : List PyData := (List.range h).map fun (j : Nat) => .tuple (rowL m wd j)
def faceL (m : Int) (h wd : Nat) : PyData := .tuple [.tuple (rowsL m h wd), .int (m / 8 % (h : Int)), .int (m / 128 % (wd : Int))]
def frLFace : List PyData → Rs → Prop := fun ds r => ∃ (m : Int) (h wd : Nat), ds = [.int m, .int (h : Int), .int (wd : Int)] ∧ 1 ≤ h ∧ h ≤ 10 ∧ 1 ≤ wd ∧ wd ≤ 20 ∧ r = .ok (faceL m h wd)
abbrev NF : List Str := ["_law_more", "_law_height", "_law_width", "_law_rows", "_law_j", "_law_here", "_law_cells", "_law_n"]
theorem sc_lface : FnScope NF ["_law_more", "_law_height", "_law_width"] (defScope s__law_face) := ⟨rfl, rfl, rfl, by decide +kernel, rfl, by decide +kernel, by decide +kernel⟩
theorem rangeD_nat (n : Nat) : (rangeD 0 ((n : Nat) : Int).toNat).length = n := by
  rw [rangeD_len]
  omega
theorem rangeD_at {n i : Nat} {d : PyData} (h : (rangeD 0 ((n : Nat) : Int).toNat)[i]? = some d) : i < n ∧ d = .int (i : Int) := by
  have hl : i < n := by
    have := (List.getElem?_eq_some_iff.mp h).1
    rw [rangeD_nat] at this
    exact this
  have e : ((n : Nat) : Int).toNat = n := by omega
  rw [e, rangeD_get hl] at h
  cases h
  exact ⟨hl, by rw [Int.zero_add]⟩
theorem blank_eq : PyData.tuple [.str (Str.ofString " "), .int 0] = blankC := rfl
theorem ok_lface (F : Df K "_law_face" s__law_face f fd) (hm : mg "_law_face" = some (.ref f)) (B : Bl mg) (G1 : DefOk P w K mg base 1 "_law_drawn" frDrawn) (G2 : DefOk P w K mg base 1 "_law_cell_of" frCellOf) : DefOk P w K mg base 2 "_law_face" frLFace := by
  refine def_ok F hm sc_lface (fun _ _ _ _ _ _ us hl => match us, hl with | [_, _, _], _ => rfl) (fun ds r h => by obtain ⟨_, _, _, rfl, _⟩ := h; rfl) (fun cdv A outer s H E qs ds r hr h => ?_)
  obtain ⟨m, h, wd, rfl, h1, h2, w1, w2, rfl⟩ := h
  refine sd_own 3 (pn_lst pds_nil) (fun D => ?_) sc_lface.nd
  refine sd_for 4 (items := rangeD 0 ((h : Nat) : Int).toNat) (fun i δ' ω' => ω' = omD ⟨qs, []⟩ D (.lst (((rowsL m h wd).take i).map .im)) ∧ ∃ y4 y5 y6 y7, δ' = [some (.im (.int m)), some (.im (.int h)), some (.im (.int wd)), some (.ad D), y4, y5, y6, y7])
    (wk_range1 B.range (pd_var 1) (by omega)) ⟨rfl, none, none, none, none, rfl⟩ ?_ ?_ (pg_name sc_lface.nd rfl (Or.inl rfl)) (passes_of rfl) rfl
  · rintro i d δ' ω' hd ⟨rfl, y4, y5, y6, y7, rfl⟩
    obtain ⟨hi, rfl⟩ := rangeD_at hd
    refine sd_set 5 (pd_call G1 hr (pds_cons (pd_var 0) (pds_cons (pd_var 4) pds_nil)) ⟨_, _, rfl, rfl⟩) ?_ sc_lface.nd
    refine sd_setLc 6 (y := "_law_n") (j := 7) (items := rangeD 0 ((wd : Nat) : Int).toNat) (ys := (List.range wd).map fun (n : Nat) => cellOfD (drawn (drawn m i) n)) rfl sc_lface.nd (PWk.ws (wk_range1 B.range (pd_var 2) (by omega))) (by rw [List.length_map, List.length_range, rangeD_nat])
      (blkOk_by (N := NF) (sc := defScope s__law_face) (by decide +kernel)) (fun _ _ _ _ _ => pg_name sc_lface.nd rfl (Or.inl rfl)) ?_ (by rw [rangeD_nat]; omega) (sw_true rfl rfl rfl (by decide +kernel)) ?_
    · intro j d y hd hy D o s H C cl fp
      obtain ⟨hj, rfl⟩ := rangeD_at hd
      rw [List.getElem?_map, List.getElem?_range hj] at hy
      cases hy
      exact pd_call G2 hr (pds_cons (pd_call G1 hr (pds_cons (pd_var 5) (pds_cons (pd_var 7) pds_nil)) ⟨_, _, rfl, rfl⟩) pds_nil) ⟨_, rfl, rfl⟩
    · refine sd_ifJ (fun δ' ω' => ω' = omD ⟨qs, []⟩ D (.lst (((rowsL m h wd).take i).map .im)) ∧ δ' = [some (.im (.int m)), some (.im (.int h)), some (.im (.int wd)), some (.ad D), some (.im (.int (i : Int))), some (.im (.int (drawn m i))), some (.im (.list (rowL m wd i))), y7])
        (pt_cmpd op_eq rd_eqI (pd_mod (by decide) (pd_var 5) pd_int) pd_int (nomark _)) (fun hk => ?_) (fun hk => sd_nil ⟨rfl, ?_⟩) ?_
      · refine sd_set 6 (PN.pd (pn_rep1 (PN.plt (pn_lst (pds_cons (pd_tup (pds_cons pd_str (pds_cons pd_int pds_nil))) pds_nil))) (pd_var 2) (by omega) (by omega))) (sd_nil ⟨rfl, ?_⟩) sc_lface.nd
        unfold rowL
        rw [if_pos (of_decide_eq_true hk)]
        rfl
      · unfold rowL
        rw [if_neg (of_decide_eq_false hk)]
        rfl
      · rintro δ' ω' ⟨rfl, rfl⟩
        refine sd_app 3 (pd_tupleL B.tuple (PD.pl (pd_var 6))) (sd_nil ⟨?_, _, _, _, _, rfl⟩) (by rw [List.length_take]; unfold rowsL; rw [List.length_map, List.length_range]; omega)
        have e : (rowsL m h wd)[i]? = some (.tuple (rowL m wd i)) := by
          unfold rowsL
          rw [List.getElem?_map, List.getElem?_range hi]
          rfl
        rw [List.take_add_one, e]
        rfl
  · rintro δ' ω' ⟨rfl, y4, y5, y6, y7, rfl⟩
    have hl : (rowsL m h wd).length = h := by
      unfold rowsL
      rw [List.length_map, List.length_range]
    have e : (rowsL m h wd).take (rangeD 0 ((h : Nat) : Int).toNat).length = rowsL m h wd := List.take_of_length_le (by rw [rangeD_nat, hl]; exact Nat.le_refl _)
    rw [e]
    have hh : (0 : Int) < (h : Int) := by omega
    have hw : (0 : Int) < (wd : Int) := by omega
    refine sd_ret (pd_tup (pds_cons (pd_tupleL B.tuple (pl_var 3 List.mem_cons_self)) (pds_cons (pd_mod hh (pd_fdiv (wide_div (b := 20) (by decide) (by decide) (by decide) (by decide)) (pd_var 0) pd_int) (pd_var 1)) (pds_cons (pd_mod hw (pd_fdiv (wide_div (b := 20) (by decide) (by decide) (by decide) (by decide)) (pd_var 0) pd_int) (pd_var 2)) pds_nil)))) ?_
    exact rfl
end
end K96

namespace K96
open PySem PySem.Spec PyProof.Rows L2 FP
/-! ### faces of a size -/
def Row (wd : Nat) (x : PyData) : Prop := ∃ cs, x = .tuple cs ∧ cs.length = wd ∧ ∀ y ∈ cs, isCell y = true
structure Fc (h wd : Nat) (d : PyData) (rs : List PyData) (r c : Nat) : Prop where
  eq : d = .tuple [.tuple rs, .int (r : Int), .int (c : Int)]
  len : rs.length = h
  row : ∀ x ∈ rs, Row wd x
  hr : r < h
  hc : c < wd
  h10 : h ≤ 10
  w20 : wd ≤ 20
section
variable {h wd r c H W : Nat} {d : PyData} {rs : List PyData}
theorem Fc.face (F : Fc h wd d rs r c) : isFace d = true := by
  obtain ⟨rfl, hl, row, hr, hc, h10, w20⟩ := F
  match rs, hl, row with
  | [], hl, _ => simp at hl; omega
  | x0 :: rest, hl, row =>
    obtain ⟨c0, rfl, l0, a0⟩ := row x0 List.mem_cons_self
    have e1 : (PyData.tuple c0 :: rest).all isT = true := List.all_eq_true.mpr fun x hx => by
      obtain ⟨cs, rfl, _⟩ := row x hx
      rfl
    have e2 : okSize (.int ((rest.length + 1 : Nat) : Int)) (.int ((c0.length : Nat) : Int)) = true := by
      rw [List.length_cons] at hl
      show ((decide ((1 : Int) ≤ ((rest.length + 1 : Nat) : Int)) && decide (((rest.length + 1 : Nat) : Int) ≤ 10)) && (decide ((1 : Int) ≤ ((c0.length : Nat) : Int)) && decide (((c0.length : Nat) : Int) ≤ 20))) = true
      rw [decide_eq_true (by omega), decide_eq_true (by omega), decide_eq_true (by omega), decide_eq_true (by omega)]
      rfl
    have e3 : (PyData.tuple c0 :: rest).all (okRow c0.length) = true := List.all_eq_true.mpr fun x hx => by
      obtain ⟨cs, rfl, l, a⟩ := row x hx
      show (decide (cs.length = c0.length) && cs.all isCell) = true
      rw [decide_eq_true (by omega), List.all_eq_true.mpr a]
      rfl
    have e4 : isRows (.tuple (.tuple c0 :: rest)) = true := by
      show ((PyData.tuple c0 :: rest).all isT && (okSize (.int ((rest.length + 1 : Nat) : Int)) (.int ((c0.length : Nat) : Int)) && (PyData.tuple c0 :: rest).all (okRow c0.length))) = true
      rw [e1, e2, e3]
      rfl
    show (isRows _ && ((decide ((0 : Int) ≤ (r : Int)) && decide ((r : Int) ≤ (((PyData.tuple c0 :: rest).length : Nat) : Int) - 1)) && (decide ((0 : Int) ≤ (c : Int)) && decide ((c : Int) ≤ ((c0.length : Nat) : Int) - 1)))) = true
    rw [e4, decide_eq_true (by omega), decide_eq_true (by omega), decide_eq_true (by omega), decide_eq_true (by omega)]
    rfl
theorem sm_cell {y : PyData} (h : isCell y = true) : smC y := by
  obtain ⟨k, i, rfl, _⟩ := cell_of h
  intro ds e x hx
  cases e
  intro z ez
  rcases List.mem_cons.mp hx with q | q
  · subst q
    cases ez
    exact (by decide : (1 : Nat) ≤ 1000)
  · rcases List.mem_cons.mp q with q | q
    · subst q
      cases ez
    · cases q
theorem Fc.small (F : Fc h wd d rs r c) : smF d := by
  obtain ⟨rfl, hl, row, hr, hc, h10, w20⟩ := F
  intro ds e x hx
  cases e
  intro es ee
  subst ee
  rcases List.mem_cons.mp hx with q | q
  · cases q
    refine ⟨by omega, fun y hy => ?_⟩
    obtain ⟨cs, rfl, l, a⟩ := row y hy
    intro es ee
    cases ee
    exact ⟨by omega, fun z hz => sm_cell (a z hz)⟩
  · simp at q
theorem shp_cell {y : PyData} (h : isCell y = true) : Shp 1 y := by
  obtain ⟨k, i, rfl, hk, _⟩ := cell_of h
  refine .tup fun x hx => ?_
  rcases List.mem_cons.mp hx with q | q
  · subst q
    refine .str ?_
    unfold okSign at hk
    simp only [Bool.and_eq_true, decide_eq_true_eq] at hk
    show (#[k].all (· < 0x110000)) = true
    simp
    omega
  · rcases List.mem_cons.mp q with q | q
    · subst q
      exact .int i
    · cases q
theorem Fc.shp (F : Fc h wd d rs r c) : Shp 4 d := by
  obtain ⟨rfl, hl, row, hr, hc, h10, w20⟩ := F
  refine .tup fun x hx => ?_
  rcases List.mem_cons.mp hx with q | q
  · subst q
    refine .tup fun y hy => ?_
    obtain ⟨cs, rfl, l, a⟩ := row y hy
    exact .tup fun z hz => shp_cell (a z hz)
  · rcases List.mem_cons.mp q with q | q
    · subst q
      exact .int _
    · rcases List.mem_cons.mp q with q | q
      · subst q
        exact .int _
      · cases q
theorem blank_cell : isCell blankC = true := by decide +kernel
theorem iks_b (j : Nat) (h : j < 5) : 0 ≤ iks.getD j 0 ∧ iks.getD j 0 ≤ 7 := by
  match j, h with
  | 0, _ => decide
  | 1, _ => decide
  | 2, _ => decide
  | 3, _ => decide
  | 4, _ => decide
  | n + 5, h => omega
theorem sgs_b (j : Nat) (h : j < 6) : okSign (sgs.getD j 0) = true := by
  match j, h with
  | 0, _ => decide
  | 1, _ => decide
  | 2, _ => decide
  | 3, _ => decide
  | 4, _ => decide
  | 5, _ => decide
  | n + 6, h => omega
theorem cell_ok {k : Nat} {i : Int} (hk : okSign k = true) (h0 : 0 ≤ i) (h7 : i ≤ 7) : isCell (cellD k i) = true := by
  show (([k].all okSign && decide (1 = 1)) && (decide (0 ≤ i) && decide (i ≤ 7))) = true
  rw [List.all_cons, hk, decide_eq_true h0, decide_eq_true h7]
  rfl
theorem cellOf_ok (m : Int) : isCell (cellOfD m) = true := by
  obtain ⟨j1, e1, l1⟩ := mod_nat m 6 (by decide)
  obtain ⟨j2, e2, l2⟩ := mod_nat (m / 8) 5 (by decide)
  have e1 : m % 6 = (j1 : Int) := e1
  have e2 : m / 8 % 5 = (j2 : Int) := e2
  unfold cellOfD
  rw [e1, e2]
  exact cell_ok (sgs_b j1 l1) (iks_b j2 l2).1 (iks_b j2 l2).2
theorem rowL_row (m : Int) (wd j : Nat) : Row wd (.tuple (rowL m wd j)) := by
  refine ⟨_, rfl, ?_, fun y hy => ?_⟩
  · unfold rowL
    split
    · exact List.length_replicate
    · rw [List.length_map, List.length_range]
  · unfold rowL at hy
    split at hy
    · rw [(List.mem_replicate.mp hy).2]
      exact blank_cell
    · obtain ⟨n, _, rfl⟩ := List.mem_map.mp hy
      exact cellOf_ok _
theorem faceL_fc (m : Int) (h1 : 1 ≤ h) (h2 : h ≤ 10) (w1 : 1 ≤ wd) (w2 : wd ≤ 20) : Fc h wd (faceL m h wd) (rowsL m h wd) (m / 8 % (h : Int)).toNat (m / 128 % (wd : Int)).toNat := by
  obtain ⟨j1, e1, l1⟩ := mod_nat (m / 8) h h1
  obtain ⟨j2, e2, l2⟩ := mod_nat (m / 128) wd w1
  refine ⟨?_, by unfold rowsL; rw [List.length_map, List.length_range], fun x hx => ?_, by rw [e1]; exact l1, by rw [e2]; exact l2, h2, w2⟩
  · unfold faceL
    rw [e1, e2]
    rfl
  · obtain ⟨j, _, rfl⟩ := List.mem_map.mp hx
    exact rowL_row m wd j
theorem blankF_fc (h1 : 1 ≤ h) (h2 : h ≤ 10) (w1 : 1 ≤ wd) (w2 : wd ≤ 20) : Fc h wd (blankF h wd) (List.replicate h (.tuple (List.replicate wd blankC))) 0 0 := by
  refine ⟨rfl, List.length_replicate, fun x hx => ?_, by omega, by omega, h2, w2⟩
  rw [(List.mem_replicate.mp hx).2]
  exact ⟨_, rfl, List.length_replicate, fun y hy => by rw [(List.mem_replicate.mp hy).2]; exact blank_cell⟩
end
end K96

namespace K96
open PySem PySem.Spec PyProof.Rows L2 FP
section
variable {P : Program} {w : World} {K : PySem.W.Frag} {mg : Str → Option Value} {base : Heap} {f C : Addr} {fd : FuncData}
/-! ### things pushed and pulled -/
def pushD (ts : List PyData) (i n : Nat) (d : PyData) : List PyData := (ts.take i ++ List.replicate n d ++ ts.drop i).take ts.length
def pullD (ts : List PyData) (i n : Nat) (d : PyData) : List PyData := (ts.take i ++ ts.drop (i + n)) ++ List.replicate (ts.length - (ts.take i ++ ts.drop (i + n)).length) d
def frPush : List PyData → Rs → Prop := fun ds r => ∃ (ts : List PyData) (i n : Nat) (d : PyData), ds = [.tuple ts, .int (i : Int), .int (n : Int), d] ∧ ts.length ≤ 100 ∧ i ≤ 100 ∧ n ≤ 100 ∧ r = .ok (.tuple (pushD ts i n d))
def frPull : List PyData → Rs → Prop := fun ds r => ∃ (ts : List PyData) (i n : Nat) (d : PyData), ds = [.tuple ts, .int (i : Int), .int (n : Int), d] ∧ ts.length ≤ 100 ∧ i ≤ 100 ∧ n ≤ 100 ∧ r = .ok (.tuple (pullD ts i n d))
theorem sc_push : FnScope ["things", "at", "many", "new"] ["things", "at", "many", "new"] (defScope s_pushed) := ⟨rfl, rfl, rfl, by decide +kernel, rfl, by decide +kernel, by decide +kernel⟩
theorem sc_pull : FnScope ["things", "at", "many", "new", "left"] ["things", "at", "many", "new"] (defScope s_pulled) := ⟨rfl, rfl, rfl, by decide +kernel, rfl, by decide +kernel, by decide +kernel⟩
theorem ok_push (F : Df K "pushed" s_pushed f fd) (hm : mg "pushed" = some (.ref f)) (B : Bl mg) : DefOk P w K mg base 1 "pushed" frPush := by
  refine def_ok F hm sc_push (fun _ _ _ _ _ _ us hl => match us, hl with | [_, _, _, _], _ => rfl) (fun ds r h => by obtain ⟨_, _, _, _, rfl, _⟩ := h; rfl) (fun cdv A outer s H E qs ds r hr h => ?_)
  obtain ⟨ts, i, n, d, rfl, h1, h2, h3, rfl⟩ := h
  have l1 := List.length_take_le i ts
  have l2 : (ts.drop i).length ≤ ts.length := by rw [List.length_drop]; omega
  refine sd_ret (d := .tuple (pushD ts i n d)) (PD.eq (pd_slT (i := none) (j := some ((ts.length : Nat) : Int)) (pd_catT (ds := ts.take i ++ List.replicate n d) (dt := ts.drop i) (pd_catT (ds := ts.take i) (dt := List.replicate n d) (PD.eq (pd_slT (i := none) (j := some ((i : Nat) : Int)) (pd_var 0) rfl ⟨_, rfl, pd_var 1⟩) (by rw [cut_to]))
    (PD.eq (pd_rep1 (k := (n : Int)) (pd_tup (pds_cons (pd_var 3) pds_nil)) (pd_var 2) (by omega) (by omega)) (by rw [show ((n : Nat) : Int).toNat = n by omega])) (by rw [List.length_replicate]; omega)) (PD.eq (pd_slT (i := some ((i : Nat) : Int)) (j := none) (pd_var 0) ⟨_, rfl, pd_var 1⟩ rfl) (by rw [cut_from])) (by rw [List.length_append, List.length_replicate]; omega)) rfl ⟨_, rfl, pd_lenT B.len (pd_var 0)⟩) (by rw [cut_to]; rfl)) rfl
theorem ok_pull (F : Df K "pulled" s_pulled f fd) (hm : mg "pulled" = some (.ref f)) (B : Bl mg) : DefOk P w K mg base 1 "pulled" frPull := by
  refine def_ok F hm sc_pull (fun _ _ _ _ _ _ us hl => match us, hl with | [_, _, _, _], _ => rfl) (fun ds r h => by obtain ⟨_, _, _, _, rfl, _⟩ := h; rfl) (fun cdv A outer s H E qs ds r hr h => ?_)
  obtain ⟨ts, i, n, d, rfl, h1, h2, h3, rfl⟩ := h
  have l1 := List.length_take_le i ts
  have l2 : (ts.drop (i + n)).length ≤ ts.length := by rw [List.length_drop]; omega
  refine sd_set 4 (d := .tuple (ts.take i ++ ts.drop (i + n))) (pd_catT (PD.eq (pd_slT (i := none) (j := some ((i : Nat) : Int)) (pd_var 0) rfl ⟨_, rfl, pd_var 1⟩) (by rw [cut_to])) (PD.eq (pd_slT (i := some (((i + n : Nat)) : Int)) (j := none) (pd_var 0) ⟨_, rfl, PD.eq (pd_add (pd_var 1) (pd_var 2)) (by congr 1)⟩ rfl) (by rw [cut_from])) (by omega)) ?_ sc_pull.nd
  have l3 : (ts.take i ++ ts.drop (i + n)).length ≤ ts.length := by
    rw [List.length_append, List.length_take, List.length_drop]
    omega
  refine sd_ret (PD.eq (pd_catT (pd_var 4) (PD.eq (pd_rep1 (k := (ts.length : Int) - ((ts.take i ++ ts.drop (i + n)).length : Int)) (pd_tup (pds_cons (pd_var 3) pds_nil)) (pd_sub (pd_lenT B.len (pd_var 0)) (pd_lenT B.len (pd_var 4))) (by omega) (by omega)) (by rw [show ((ts.length : Int) - ((ts.take i ++ ts.drop (i + n)).length : Int)).toNat = ts.length - (ts.take i ++ ts.drop (i + n)).length by omega])) (by rw [List.length_replicate]; omega)) rfl) rfl
/-! rolled -/
def rollD (rs : List PyData) (wd : Nat) (by_ : Int) : List PyData := if by_ < 0 then pushD rs 0 (-by_).toNat (.tuple (List.replicate wd blankC)) else pullD rs 0 by_.toNat (.tuple (List.replicate wd blankC))
def frRoll : List PyData → Rs → Prop := fun ds r => ∃ (c0 : List PyData) (rs : List PyData) (by_ : Int), ds = [.tuple (.tuple c0 :: rs), .int by_] ∧ rs.length < 100 ∧ c0.length ≤ 100 ∧ -100 ≤ by_ ∧ by_ ≤ 100 ∧ r = .ok (.tuple (rollD (.tuple c0 :: rs) c0.length by_))
theorem sc_roll : FnScope ["rows", "by", "new"] ["rows", "by"] (defScope s_rolled) := ⟨rfl, rfl, rfl, by decide +kernel, rfl, by decide +kernel, by decide +kernel⟩
theorem ok_roll (F : Df K "rolled" s_rolled f fd) (hm : mg "rolled" = some (.ref f)) (B : Bl mg) (G1 : DefOk P w K mg base 1 "pushed" frPush) (G2 : DefOk P w K mg base 1 "pulled" frPull) (G3 : DefOk P w K mg base 1 "blank_cells" frBlankCells) : DefOk P w K mg base 2 "rolled" frRoll := by
  refine def_ok F hm sc_roll (fun _ _ _ _ _ _ us hl => match us, hl with | [_, _], _ => rfl) (fun ds r h => by obtain ⟨_, _, _, rfl, _⟩ := h; rfl) (fun cdv A outer s H E qs ds r hr h => ?_)
  obtain ⟨c0, rs, by_, rfl, h1, h2, h3, h4, rfl⟩ := h
  refine sd_set 2 (d := .tuple (List.replicate c0.length blankC)) (PD.eq (pd_call G3 hr (pds_cons (pd_lenT B.len (pd_ixT (pd_var 0) pd_int atI0)) pds_nil) ⟨_, rfl, by omega, by omega, rfl⟩) (by rw [show ((c0.length : Nat) : Int).toNat = c0.length by omega])) ?_ sc_roll.nd
  refine sd_if (pt_cmpd op_lt rd_B0 (pd_var 1) pd_int (nomark _)) (fun hk => ?_) (fun hk => sd_nil ?_)
  · have hlt := of_decide_eq_true hk
    refine sd_ret (pd_call G1 hr (pds_cons (pd_var 0) (pds_cons pd_int (pds_cons (pd_neg (pd_var 1)) (pds_cons (pd_var 2) pds_nil)))) ⟨_, 0, (-by_).toNat, _, by rw [show (((-by_).toNat : Nat) : Int) = -by_ by omega]; rfl, by simp; omega, by decide, by omega, rfl⟩) ?_
    unfold rollD
    rw [if_pos hlt]
    exact rfl
  · have hge := of_decide_eq_false hk
    refine sd_ret (pd_call G2 hr (pds_cons (pd_var 0) (pds_cons pd_int (pds_cons (pd_var 1) (pds_cons (pd_var 2) pds_nil)))) ⟨_, 0, by_.toNat, _, by rw [show ((by_.toNat : Nat) : Int) = by_ by omega]; rfl, by simp; omega, by decide, by omega, rfl⟩) ?_
    unfold rollD
    rw [if_neg hge]
    exact rfl
end
end K96

namespace K96
open PySem PySem.Spec PyProof.Rows L2 FP
section
variable {P : Program} {w : World} {K : PySem.W.Frag} {mg : Str → Option Value} {base : Heap} {f C : Addr} {fd : FuncData}
theorem rd_eqS {K : PySem.W.Frag} {y z : Str} : RD K rEq (.str y) (.str z) (.bool (decide (y = z))) := fun ps u v H _ hx hy Q k => by
  cases hx
  cases hy
  refine ⟨rfl, ?_⟩
  have e : decide (V.str y = V.str z) = decide (y = z) := by
    by_cases c : y = z
    · subst c
      simp
    · rw [decide_eq_false c, decide_eq_false (fun q => c (V.str.inj q))]
  rw [e]
  exact k _ H (Same.refl H) (.bl _)
theorem rd_neT {K : PySem.W.Frag} {y z : Str} : RD K rNe (.str y) (.str z) (.bool (!decide (y = z))) := fun ps u v H _ hx hy Q k => by
  cases hx
  cases hy
  refine ⟨rfl, ?_⟩
  have e : decide (V.str y = V.str z) = decide (y = z) := by
    by_cases c : y = z
    · subst c
      simp
    · rw [decide_eq_false c, decide_eq_false (fun q => c (V.str.inj q))]
  rw [e]
  exact k _ H (Same.refl H) (.bl _)
/-! ### what is a part of a change -/
def geZ : PyData → Bool
  | .int i => decide (0 ≤ i)
  | _ => false
def neZ : PyData → Bool
  | .int i => !decide (i = 0)
  | _ => false
def neE : PyData → Bool
  | .str z => !decide (z = "")
  | _ => false
def isPlace (r c : PyData) : Bool := isWhole r && (geZ r && (isWhole c && geZ c))
def partRoll : List PyData → Bool
  | [b] => isWithin b (-10) 10 && neZ b
  | _ => false
def partPut : List PyData → Bool
  | [r, c, k, y] => isPlace r c && (isWithin k 0 7 && (areSigns y && neE y))
  | _ => false
def partCur : List PyData → Bool
  | [r, c] => isPlace r c
  | _ => false
def isPart : PyData → Bool
  | .tuple (.str z :: told) => if z = "roll" then partRoll told else if z = "put" then partPut told else if z = "cursor" then partCur told else false
  | _ => false
def okP (d : PyData) : Prop := ∀ x told, d = .tuple (x :: told) → told.length ≤ 100 ∧ ∀ y ∈ told, smS y
def frPlace : List PyData → Rs → Prop := fun ds s => ∃ r c, ds = [r, c] ∧ s = .ok (.bool (isPlace r c))
theorem sc_place : FnScope ["row", "column"] ["row", "column"] (defScope s_is_place) := ⟨rfl, rfl, rfl, by decide +kernel, rfl, by decide +kernel, by decide +kernel⟩
theorem whole_int {d : PyData} (h : isWhole d = true) : ∃ i, d = .int i := by
  cases d <;> first | exact ⟨_, rfl⟩ | cases h
theorem ok_isplace (F : Df K "is_place" s_is_place f fd) (hm : mg "is_place" = some (.ref f)) (G1 : DefOk P w K mg base 1 "is_whole" frWhole) : DefOk P w K mg base 2 "is_place" frPlace := by
  refine def_ok F hm sc_place (fun _ _ _ _ _ _ us hl => match us, hl with | [_, _], _ => rfl) (fun ds r h => by obtain ⟨_, _, rfl, _⟩ := h; rfl) (fun cdv A outer s H E qs ds r hr h => ?_)
  obtain ⟨r, c, rfl, rfl⟩ := h
  refine sd_ret (pd_and (x := isWhole r) (y := geZ r && (isWhole c && geZ c)) (pd_call G1 hr (pds_cons (pd_var 0) pds_nil) ⟨r, rfl, rfl⟩) (fun hr1 => ?_)) rfl
  obtain ⟨i, rfl⟩ := whole_int hr1
  refine pd_and (x := geZ (.int i)) (y := isWhole c && geZ c) (pd_ge (pd_var 0) pd_int) (fun _ => ?_)
  refine pd_and (x := isWhole c) (y := geZ c) (pd_call G1 hr (pds_cons (pd_var 1) pds_nil) ⟨c, rfl, rfl⟩) (fun hc1 => ?_)
  obtain ⟨j, rfl⟩ := whole_int hc1
  exact pd_one (pd_ge (pd_var 1) pd_int)
def frIsPart : List PyData → Rs → Prop := fun ds r => ∃ d, ds = [d] ∧ okP d ∧ r = .ok (.bool (isPart d))
abbrev NPt : List Str := ["part", "by", "row", "column", "ink", "text"]
theorem sc_part : FnScope NPt ["part"] (defScope s_is_part) := ⟨rfl, rfl, rfl, by decide +kernel, rfl, by decide +kernel, by decide +kernel⟩
theorem within_int {d : PyData} {a b : Int} (h : isWithin d a b = true) : ∃ i, d = .int i := by
  cases d <;> first | exact ⟨_, rfl⟩ | cases h
theorem signs_strP {d : PyData} (h : areSigns d = true) : ∃ z, d = .str z := by
  cases d <;> first | exact ⟨_, rfl⟩ | cases h
theorem ok_ispart (F : Df K "is_part" s_is_part f fd) (hm : mg "is_part" = some (.ref f)) (B : Bl mg) (g1 : GlD K mg "MOST_ROLL" (.int 10)) (g2 : GlD K mg "MOST_INK" (.int 7)) (GW : DefOk P w K mg base 2 "is_within" frWithin) (GP : DefOk P w K mg base 2 "is_place" frPlace) (GS : DefOk P w K mg base 1 "are_signs" frSigns) : DefOk P w K mg base 3 "is_part" frIsPart := by
  refine def_ok F hm sc_part (fun _ _ _ _ _ _ us hl => match us, hl with | [_], _ => rfl) (fun ds r h => by obtain ⟨_, rfl, _⟩ := h; rfl) (fun cdv A outer s H E qs ds r hr h => ?_)
  obtain ⟨d, rfl, sm, rfl⟩ := h
  have hr1 : Room 1 (A.deeper (envOfC "is_part" (defScope s_is_part) s.heap.objs.size f cdv)) := hr.mono (by decide)
  by_cases hd : ∃ ds, d = .tuple ds
  · obtain ⟨ds, rfl⟩ := hd
    cases ds with
    | nil => exact sd_ifT (PWd.pt (PWd.eq (pw_ord (pt_notd (pt_bool (pd_isi B.isi B.tuple bb_tuple (pd_var 0) (k_tuple _)))) (fun _ => pw_orT (pt_notd (k := false) (pt_truT (pd_var 0) rfl)))) rfl)) (sd_ret pd_bl rfl)
    | cons x told =>
      obtain ⟨sl, ss⟩ := sm x told rfl
      by_cases hx : ∃ z, x = .str z
      · obtain ⟨z, rfl⟩ := hx
        refine sd_ifF (PWd.pt (pw_ord (x := false) (y := false) (pt_notd (k := true) (pt_bool (pd_isi B.isi B.tuple bb_tuple (pd_var 0) (k_tuple _)))) (fun _ => pw_ord (x := false) (y := false) (pt_notd (k := true) (pt_truT (pd_var 0) rfl)) (fun _ => pw_or1d (pt_notd (k := true) (pt_bool (pd_isi B.isi B.str bb_str (pd_ixT (d := .str z) (pd_var 0) pd_int atI0) (k_str _)))))))) ?_
        refine sd_match (pd_var 0) ?_
        have no : isPart (.tuple (.str z :: told)) = false → SD (cxOf (L2N.CX P w) P w K mg base NPt "is_part" (defScope s_is_part) f cdv A outer s H E) (WOf E) [] ((defBody s_is_part).drop 2) [some (.im (.tuple (.str z :: told))), none, none, none, none, none] ⟨qs, []⟩ (Fin (.ok (.bool (isPart (.tuple (.str z :: told)))))) := by
          intro e
          rw [e]
          exact sd_ret pd_bl rfl
        match told, sl, ss with
        | [b], sl, ss =>
          by_cases hz : z = "roll"
          · subst hz
            refine mc_hit [1] rfl sc_part.nd rfl (by simp) rfl rfl (show capB NPt (defScope s_is_part) ["by"] [1] = true by decide +kernel) ?_
            refine sd_ret (pd_and (x := isWithin b (-10) 10) (y := neZ b) (pd_call GW (hr.mono (by decide)) (pds_cons (pd_var 1) (pds_cons (pd_neg (pd_glob g1)) (pds_cons (pd_glob g1) pds_nil))) ⟨b, -10, 10, rfl, rfl⟩) (fun hb => ?_)) rfl
            obtain ⟨i, rfl⟩ := within_int hb
            exact pd_one (pd_neI (pd_var 1) pd_int)
          · refine mc_word rfl hz rfl (by simp) (mc_len (by simp) (by simp) (mc_len (by simp) (by simp) (mc_nil (no ?_))))
            show (if z = "roll" then _ else if z = "put" then false else if z = "cursor" then false else false) = false
            rw [if_neg hz]
            split <;> (try split) <;> rfl
        | [r, c], sl, ss =>
          by_cases hz : z = "cursor"
          · subst hz
            refine mc_len (by simp) (by simp) (mc_len (by simp) (by simp) (mc_hit [2, 3] rfl sc_part.nd rfl (by simp) rfl rfl (show capB NPt (defScope s_is_part) ["row", "column"] [2, 3] = true by decide +kernel) ?_))
            exact sd_ret (pd_call GP (hr.mono (by decide)) (pds_cons (pd_var 2) (pds_cons (pd_var 3) pds_nil)) ⟨r, c, rfl, rfl⟩) rfl
          · refine mc_len (by simp) (by simp) (mc_len (by simp) (by simp) (mc_word rfl hz rfl (by simp) (mc_nil (no ?_))))
            show (if z = "roll" then false else if z = "put" then false else if z = "cursor" then _ else false) = false
            rw [if_neg hz]
            split <;> (try split) <;> rfl
        | [r, c, k, y], sl, ss =>
          by_cases hz : z = "put"
          · subst hz
            have sy := ss y (by simp)
            refine mc_len (by simp) (by simp) (mc_hit [2, 3, 4, 5] rfl sc_part.nd rfl (by simp) rfl rfl (show capB NPt (defScope s_is_part) ["row", "column", "ink", "text"] [2, 3, 4, 5] = true by decide +kernel) ?_)
            refine sd_ret (pd_and (x := isPlace r c) (y := isWithin k 0 7 && (areSigns y && neE y)) (pd_call GP (hr.mono (by decide)) (pds_cons (pd_var 2) (pds_cons (pd_var 3) pds_nil)) ⟨r, c, rfl, rfl⟩) (fun _ => ?_)) rfl
            refine pd_and (x := isWithin k 0 7) (y := areSigns y && neE y) (pd_call GW (hr.mono (by decide)) (pds_cons (pd_var 4) (pds_cons pd_int (pds_cons (pd_glob g2) pds_nil))) ⟨k, 0, 7, rfl, rfl⟩) (fun _ => ?_)
            refine pd_and (x := areSigns y) (y := neE y) (pd_call GS hr1 (pds_cons (pd_var 5) pds_nil) ⟨y, rfl, rfl, fun z e => sy z e⟩) (fun hs => ?_)
            obtain ⟨q, rfl⟩ := signs_strP hs
            exact pd_one (pd_cmp op_ne rd_neT (pd_var 5) pd_str (nomark _))
          · refine mc_len (by simp) (by simp) (mc_word rfl hz rfl (by simp) (mc_len (by simp) (by simp) (mc_nil (no ?_))))
            show (if z = "roll" then false else if z = "put" then _ else if z = "cursor" then false else false) = false
            rw [if_neg hz]
            split <;> (try split) <;> rfl
        | [], sl, ss =>
          refine mc_len (by simp) (by simp) (mc_len (by simp) (by simp) (mc_len (by simp) (by simp) (mc_nil (no ?_))))
          show (if z = "roll" then false else if z = "put" then false else if z = "cursor" then false else false) = false
          split <;> (try split) <;> (try split) <;> rfl
        | [a, b, c], sl, ss =>
          refine mc_len (by simp) (by simp) (mc_len (by simp) (by simp) (mc_len (by simp) (by simp) (mc_nil (no ?_))))
          show (if z = "roll" then false else if z = "put" then false else if z = "cursor" then false else false) = false
          split <;> (try split) <;> (try split) <;> rfl
        | a :: b :: c :: d :: e :: rest, sl, ss =>
          have hl : rest.length ≤ 100 := by
            simp only [List.length_cons] at sl
            omega
          have hz : ((.str z :: a :: b :: c :: d :: e :: rest : List PyData)).length ≤ 100000 := by
            simp only [List.length_cons]
            omega
          refine mc_len (by simp) hz (mc_len (by simp) hz (mc_len (by simp) hz (mc_nil (no ?_))))
          show (if z = "roll" then false else if z = "put" then false else if z = "cursor" then false else false) = false
          split <;> (try split) <;> (try split) <;> rfl
      · have nS : isS x = false := by
          cases x with
          | str q => exact absurd ⟨q, rfl⟩ hx
          | _ => rfl
        have e : isPart (.tuple (x :: told)) = false := by
          cases x with
          | str q => exact absurd ⟨q, rfl⟩ hx
          | _ => rfl
        rw [e]
        refine sd_ifT (PWd.pt (PWd.eq (pw_ord (x := false) (pt_notd (k := true) (pt_bool (pd_isi B.isi B.tuple bb_tuple (pd_var 0) (k_tuple _)))) (fun _ => pw_ord (x := false) (pt_notd (k := true) (pt_truT (pd_var 0) rfl)) (fun _ => pw_or1d (pt_notd (pt_bool (pd_isi B.isi B.str bb_str (pd_ixT (d := x) (pd_var 0) pd_int atI0) (k_str _))))))) (by rw [nS]; rfl))) (sd_ret pd_bl rfl)
  · have nT : isT d = false := by
      cases d with
      | tuple q => exact absurd ⟨q, rfl⟩ hd
      | _ => rfl
    have e : isPart d = false := by
      cases d with
      | tuple q => exact absurd ⟨q, rfl⟩ hd
      | _ => rfl
    rw [e]
    exact sd_ifT (PWd.pt (pw_orT (PTd.eq (pt_notd (pt_bool (pd_isi B.isi B.tuple bb_tuple (pd_var 0) (k_tuple _)))) (by rw [nT]; rfl)))) (sd_ret pd_bl rfl)
/-! ### need_change -/
def areParts : PyData → Bool
  | .list xs => xs.all isPart
  | _ => false
def okPs (d : PyData) : Prop := ∀ xs, d = .list xs → ∀ x ∈ xs, okP x
def frNeedC (C : Addr) : List PyData → Rs → Prop := fun ds r => ∃ d, ds = [d] ∧ okPs d ∧ r = if areParts d then .ok .none else .er C
theorem sc_nc : FnScope ["change", "part"] ["change"] (defScope s_need_change) := ⟨rfl, rfl, rfl, by decide +kernel, rfl, by decide +kernel, by decide +kernel⟩
theorem ok_nc (F : Df K "need_change" s_need_change f fd) (hm : mg "need_change" = some (.ref f)) (B : Bl mg) (ml : mg "list" = none) (X1 : ExcF K mg "BadChange" C) (G1 : DefOk P w K mg base 3 "is_part" frIsPart) : DefOk P w K mg base 4 "need_change" (frNeedC C) := by
  refine def_ok F hm sc_nc (fun _ _ _ _ _ _ us hl => match us, hl with | [_], _ => rfl) (fun ds r h => by obtain ⟨_, rfl, _⟩ := h; rfl) (fun cdv A outer s H E qs ds r hr h => ?_)
  obtain ⟨d, rfl, sm, rfl⟩ := h
  have tk : L2N.Takes (cxOf (L2N.CX P w) P w K mg base ["change", "part"] "need_change" (defScope s_need_change) f cdv A outer s H E) (WOf E) := L2N.takes_of rfl rfl rfl rfl
  by_cases hd : ∃ xs, d = .list xs
  · obtain ⟨xs, rfl⟩ := hd
    refine sd_ifF (pt_notd (k := true) (pt_bool (pd_isi B.isi ml bb_list (pd_var 0) (k_list _)))) ?_
    refine sd_for 1 (items := xs) (fun i δ' ω' => (xs.take i).all isPart = true ∧ ω' = ⟨qs, []⟩ ∧ ∃ y1, δ' = [some (.im (.list xs)), y1]) (wk_lst (pd_var 0)) ⟨rfl, rfl, _, rfl⟩ ?_ ?_ (pg_name sc_nc.nd rfl (Or.inl rfl)) (passes_of rfl) rfl
    · rintro i d δ' ω' hd ⟨ha, rfl, y1, rfl⟩
      refine sd_if (pt_notd (pt_bool (pd_call G1 hr (pds_cons (pd_var 1) pds_nil) ⟨d, rfl, sm xs rfl d (List.mem_of_getElem? hd), rfl⟩))) (fun hk => ?_) (fun hk => sd_nil (sd_nil ⟨?_, rfl, _, rfl⟩))
      · have hf : isPart d = false := by
          cases e : isPart d with
          | false => rfl
          | true =>
            rw [e] at hk
            cases hk
        refine sd_raise X1 tk ?_ rfl
        show (if areParts (.list xs) = true then Rs.ok PyData.none else Rs.er C) = Rs.er C
        rw [if_neg]
        intro z
        have := List.all_eq_true.mp (show xs.all isPart = true from z) d (List.mem_of_getElem? hd)
        rw [hf] at this
        cases this
      · have hf : isPart d = true := by
          cases e : isPart d with
          | true => rfl
          | false =>
            rw [e] at hk
            cases hk
        rw [List.take_add_one, hd, List.all_append, ha]
        simp [hf]
    · rintro δ' ω' ⟨ha, rfl, y1, rfl⟩
      refine sd_nil ?_
      rw [List.take_length] at ha
      show (if areParts (.list xs) = true then Rs.ok PyData.none else Rs.er C) = Rs.ok PyData.none
      rw [if_pos (show areParts (.list xs) = true from ha)]
  · have nL : isL d = false := by
      cases d with
      | list q => exact absurd ⟨q, rfl⟩ hd
      | _ => rfl
    refine sd_ifT (PTd.eq (pt_notd (pt_bool (pd_isi B.isi ml bb_list (pd_var 0) (k_list _)))) (by rw [nL]; rfl)) (sd_raise X1 tk ?_ rfl)
    show (if areParts d = true then Rs.ok PyData.none else Rs.er C) = Rs.er C
    cases d with
    | list q => exact absurd ⟨q, rfl⟩ hd
    | _ => rfl
end
end K96

namespace K96
open PySem PySem.Spec PyProof.Rows L2 FP
/-! ### rows pushed, pulled, rolled -/
section
variable {α β : Type}
def pushA (ts : List α) (i n : Nat) (d : α) : List α := (ts.take i ++ List.replicate n d ++ ts.drop i).take ts.length
def pullA (ts : List α) (i n : Nat) (d : α) : List α := (ts.take i ++ ts.drop (i + n)) ++ List.replicate (ts.length - (ts.take i ++ ts.drop (i + n)).length) d
theorem pushA_len (ts : List α) (i n : Nat) (d : α) : (pushA ts i n d).length = ts.length := by
  unfold pushA
  rw [List.length_take, List.length_append, List.length_append, List.length_replicate, List.length_take, List.length_drop]
  omega
theorem pullA_len (ts : List α) (i n : Nat) (d : α) : (pullA ts i n d).length = ts.length := by
  unfold pullA
  rw [List.length_append, List.length_append, List.length_replicate, List.length_take, List.length_drop]
  omega
theorem pushA_mem {ts : List α} {i n : Nat} {d x : α} (h : x ∈ pushA ts i n d) : x ∈ ts ∨ x = d := by
  have h := List.mem_of_mem_take h
  rcases List.mem_append.mp h with h | h
  · rcases List.mem_append.mp h with h | h
    · exact .inl (List.mem_of_mem_take h)
    · exact .inr (List.mem_replicate.mp h).2
  · exact .inl (List.mem_of_mem_drop h)
theorem pullA_mem {ts : List α} {i n : Nat} {d x : α} (h : x ∈ pullA ts i n d) : x ∈ ts ∨ x = d := by
  rcases List.mem_append.mp h with h | h
  · rcases List.mem_append.mp h with h | h
    · exact .inl (List.mem_of_mem_take h)
    · exact .inl (List.mem_of_mem_drop h)
  · exact .inr (List.mem_replicate.mp h).2
theorem pushA_map (g : α → β) (ts : List α) (i n : Nat) (d : α) : (pushA ts i n d).map g = pushA (ts.map g) i n (g d) := by
  unfold pushA
  rw [List.map_take, List.map_append, List.map_append, List.map_take, List.map_drop, List.map_replicate, List.length_map]
theorem pullA_map (g : α → β) (ts : List α) (i n : Nat) (d : α) : (pullA ts i n d).map g = pullA (ts.map g) i n (g d) := by
  unfold pullA
  rw [List.map_append, List.map_append, List.map_take, List.map_drop, List.map_replicate, List.length_map, List.length_append, List.length_append, List.length_take, List.length_take, List.length_drop, List.length_drop, List.length_map]
end
def blankR (w : Nat) : List PyData := List.replicate w blankC
def rollA (rs : List (List PyData)) (w : Nat) (n : Int) : List (List PyData) := if n < 0 then pushA rs 0 (-n).toNat (blankR w) else pullA rs 0 n.toNat (blankR w)
theorem blankR_ok {w : Nat} : (blankR w).length = w ∧ ∀ y ∈ blankR w, isCell y = true := ⟨List.length_replicate, fun y h => by
  rw [(List.mem_replicate.mp h).2]
  exact blank_cell⟩
theorem rollA_len (rs : List (List PyData)) (w : Nat) (n : Int) : (rollA rs w n).length = rs.length := by
  unfold rollA
  split
  · exact pushA_len _ _ _ _
  · exact pullA_len _ _ _ _
theorem rollA_mem {rs : List (List PyData)} {w : Nat} {n : Int} {r : List PyData} (h : r ∈ rollA rs w n) : r ∈ rs ∨ r = blankR w := by
  unfold rollA at h
  split at h
  · exact pushA_mem h
  · exact pullA_mem h
theorem roll_map (rs : List (List PyData)) (w : Nat) (n : Int) : rollD (rs.map .tuple) w n = (rollA rs w n).map .tuple := by
  unfold rollD rollA
  split
  · exact (pushA_map PyData.tuple rs 0 _ (blankR w)).symm
  · exact (pullA_map PyData.tuple rs 0 _ (blankR w)).symm
/-! ### a face as it is -/
structure Sc where
  rows : List (List PyData)
  row : Nat
  col : Nat
  h : Nat
  w : Nat
structure Sc.Ok (s : Sc) : Prop where
  len : s.rows.length = s.h
  wid : ∀ r ∈ s.rows, r.length = s.w ∧ ∀ y ∈ r, isCell y = true
  hr : s.row < s.h
  hc : s.col < s.w
  h10 : s.h ≤ 10
  w20 : s.w ≤ 20
def Sc.d (s : Sc) : PyData := .tuple [.tuple (s.rows.map .tuple), .int (s.row : Int), .int (s.col : Int)]
theorem Sc.Ok.fc {s : Sc} (o : s.Ok) : Fc s.h s.w s.d (s.rows.map .tuple) s.row s.col :=
  ⟨rfl, by rw [List.length_map]; exact o.len, fun x hx => by
    obtain ⟨r, hr, rfl⟩ := List.mem_map.mp hx
    exact ⟨r, rfl, (o.wid r hr).1, (o.wid r hr).2⟩, o.hr, o.hc, o.h10, o.w20⟩
theorem Sc.of_fc {h wd r c : Nat} {d : PyData} {rs : List PyData} (F : Fc h wd d rs r c) : ∃ s : Sc, s.Ok ∧ s.h = h ∧ s.w = wd ∧ d = s.d := by
  have row := F.row
  have key : ∃ rs' : List (List PyData), rs = rs'.map .tuple := by
    clear F
    induction rs with
    | nil => exact ⟨[], rfl⟩
    | cons x xs ih =>
      obtain ⟨cs, rfl, _, _⟩ := row x List.mem_cons_self
      obtain ⟨rs', rfl⟩ := ih fun y hy => row y (List.mem_cons_of_mem _ hy)
      exact ⟨cs :: rs', rfl⟩
  obtain ⟨rs', rfl⟩ := key
  have hl := F.len
  rw [List.length_map] at hl
  refine ⟨⟨rs', r, c, h, wd⟩, ⟨hl, fun x hx => ?_, F.hr, F.hc, F.h10, F.w20⟩, rfl, rfl, F.eq⟩
  obtain ⟨cs, e, l, a⟩ := row (.tuple x) (List.mem_map.mpr ⟨x, hx, rfl⟩)
  cases e
  exact ⟨l, a⟩
/-! ### parts -/
inductive Pt where
  | roll (n : Int)
  | put (r c k : Nat) (z : Str)
  | cur (r c : Nat)
def Pt.d : Pt → PyData
  | .roll n => .tuple [.str "roll", .int n]
  | .put r c k z => .tuple [.str "put", .int (r : Int), .int (c : Int), .int (k : Int), .str z]
  | .cur r c => .tuple [.str "cursor", .int (r : Int), .int (c : Int)]
def Pt.Ok : Pt → Prop
  | .roll n => -10 ≤ n ∧ n ≤ 10 ∧ n ≠ 0
  | .put _ _ k z => k ≤ 7 ∧ 1 ≤ z.length ∧ z.length ≤ 1000 ∧ ∀ c ∈ z.cps.toList, okSign c = true
  | .cur _ _ => True
def cellsZ (z : Str) (k : Nat) : List PyData := z.cps.toList.map fun x => cellD x (k : Int)
def putC (cs : List PyData) (c : Nat) (new : List PyData) : List PyData := cs.take c ++ new ++ cs.drop (c + new.length)
def Sc.part (s : Sc) : Pt → Option Sc
  | .roll n => some { s with rows := rollA s.rows s.w n }
  | .put r c k z => if r < s.h ∧ c + z.length ≤ s.w then some { s with rows := s.rows.set r (putC (s.rows.getD r []) c (cellsZ z k)) } else none
  | .cur r c => if r < s.h ∧ c + 1 ≤ s.w then some { s with row := r, col := c } else none
def Sc.all (s : Sc) : List Pt → Option Sc
  | [] => some s
  | p :: ps => match s.part p with
    | some t => t.all ps
    | none => none
theorem cellsZ_len (z : Str) (k : Nat) : (cellsZ z k).length = z.length := by
  unfold cellsZ
  rw [List.length_map, Array.length_toList]
  rfl
theorem cell_okN {c : Nat} {i : Nat} (hc : okSign c = true) (hi : i ≤ 7) : isCell (cellD c (i : Int)) = true := by
  show ((([c] : List Nat).all okSign && decide (([c] : List Nat).length = 1)) && (decide ((0 : Int) ≤ (i : Int)) && decide ((i : Int) ≤ 7))) = true
  rw [decide_eq_true (show (0 : Int) ≤ (i : Int) by omega), decide_eq_true (show (i : Int) ≤ 7 by omega)]
  simp [hc]
theorem cellsZ_ok {z : Str} {k : Nat} (hk : k ≤ 7) (h : ∀ c ∈ z.cps.toList, okSign c = true) : ∀ y ∈ cellsZ z k, isCell y = true := fun y hy => by
  obtain ⟨c, hc, rfl⟩ := List.mem_map.mp hy
  exact cell_okN (h c hc) hk
theorem putC_len {cs new : List PyData} {c : Nat} (h : c + new.length ≤ cs.length) : (putC cs c new).length = cs.length := by
  unfold putC
  rw [List.length_append, List.length_append, List.length_take, List.length_drop]
  omega
theorem Sc.Ok.row_at {s : Sc} (o : s.Ok) {r : Nat} (h : r < s.h) : s.rows[r]? = some (s.rows.getD r []) ∧ (s.rows.getD r []).length = s.w ∧ ∀ y ∈ s.rows.getD r [], isCell y = true := by
  have hl : r < s.rows.length := by rw [o.len]; exact h
  have e : s.rows.getD r [] = s.rows[r] := by rw [List.getD_eq_getElem?_getD, List.getElem?_eq_getElem hl]; rfl
  rw [e, List.getElem?_eq_getElem hl]
  exact ⟨rfl, o.wid _ (List.getElem_mem hl)⟩
theorem Sc.Ok.part {s t : Sc} {p : Pt} (o : s.Ok) (hp : p.Ok) (e : s.part p = some t) : t.Ok ∧ t.h = s.h ∧ t.w = s.w := by
  cases p with
  | roll n =>
    cases e
    refine ⟨⟨(rollA_len _ _ _).trans o.len, fun r hr => ?_, o.hr, o.hc, o.h10, o.w20⟩, rfl, rfl⟩
    rcases rollA_mem hr with q | q
    · exact o.wid r q
    · rw [q]
      exact blankR_ok
  | put r c k z =>
    replace e : (if r < s.h ∧ c + z.length ≤ s.w then some { s with rows := s.rows.set r (putC (s.rows.getD r []) c (cellsZ z k)) } else none) = some t := e
    split at e
    · rename_i hh
      cases e
      obtain ⟨a1, a2, a3⟩ := o.row_at hh.1
      refine ⟨⟨List.length_set.trans o.len, fun x hx => ?_, o.hr, o.hc, o.h10, o.w20⟩, rfl, rfl⟩
      rcases List.mem_or_eq_of_mem_set hx with q | q
      · exact o.wid x q
      · subst q
        refine ⟨(putC_len (by rw [cellsZ_len, a2]; exact hh.2)).trans a2, fun y hy => ?_⟩
        unfold putC at hy
        rcases List.mem_append.mp hy with q | q
        · rcases List.mem_append.mp q with q | q
          · exact a3 y (List.mem_of_mem_take q)
          · exact cellsZ_ok hp.1 hp.2.2.2 y q
        · exact a3 y (List.mem_of_mem_drop q)
    · cases e
  | cur r c =>
    replace e : (if r < s.h ∧ c + 1 ≤ s.w then some { s with row := r, col := c } else none) = some t := e
    split at e
    · rename_i hh
      cases e
      exact ⟨⟨o.len, o.wid, hh.1, by have := hh.2; show c < s.w; omega, o.h10, o.w20⟩, rfl, rfl⟩
    · cases e
theorem Pt.is {p : Pt} (h : p.Ok) : isPart p.d = true := by
  cases p with
  | roll n =>
    obtain ⟨h1, h2, h3⟩ := h
    show ((decide ((-10 : Int) ≤ n) && decide (n ≤ 10)) && !decide (n = 0)) = true
    rw [decide_eq_true h1, decide_eq_true h2, decide_eq_false h3]
    rfl
  | put r c k z =>
    obtain ⟨h1, h2, h3, h4⟩ := h
    have hz : ¬ z = "" := fun e => by
      subst e
      exact absurd h2 (by decide)
    show (true && (decide ((0 : Int) ≤ (r : Int)) && (true && decide ((0 : Int) ≤ (c : Int)))) && ((decide ((0 : Int) ≤ (k : Int)) && decide ((k : Int) ≤ 7)) && (z.cps.toList.all okSign && !decide (z = "")))) = true
    rw [decide_eq_true (by omega), decide_eq_true (by omega), decide_eq_true (by omega), decide_eq_true (by omega), List.all_eq_true.mpr h4, decide_eq_false hz]
    rfl
  | cur r c =>
    show (true && (decide ((0 : Int) ≤ (r : Int)) && (true && decide ((0 : Int) ≤ (c : Int))))) = true
    rw [decide_eq_true (by omega), decide_eq_true (by omega)]
    rfl
theorem Pt.okP {p : Pt} (h : p.Ok) : K96.okP p.d := by
  intro x told e
  cases p with
  | roll n =>
    cases e
    exact ⟨(show 1 ≤ 100 by decide), fun y hy => by rw [List.mem_singleton.mp hy]; exact fun z e => by cases e⟩
  | put r c k z =>
    cases e
    refine ⟨(show 4 ≤ 100 by decide), fun y hy => ?_⟩
    simp only [List.mem_cons, List.not_mem_nil, or_false] at hy
    rcases hy with rfl | rfl | rfl | rfl
    · exact fun z e => by cases e
    · exact fun z e => by cases e
    · exact fun z e => by cases e
    · intro q e
      cases e
      exact h.2.2.1
  | cur r c =>
    cases e
    refine ⟨(show 2 ≤ 100 by decide), fun y hy => ?_⟩
    simp only [List.mem_cons, List.not_mem_nil, or_false] at hy
    rcases hy with rfl | rfl <;> exact fun z e => by cases e
theorem parts_are {ps : List Pt} (h : ∀ p ∈ ps, p.Ok) : areParts (.list (ps.map Pt.d)) = true := List.all_eq_true.mpr fun x hx => by
  obtain ⟨p, hp, rfl⟩ := List.mem_map.mp hx
  exact Pt.is (h p hp)
theorem parts_ok {ps : List Pt} (h : ∀ p ∈ ps, p.Ok) : okPs (.list (ps.map Pt.d)) := by
  intro xs e x hx
  cases e
  obtain ⟨p, hp, rfl⟩ := List.mem_map.mp hx
  exact Pt.okP (h p hp)
end K96

namespace K96
open PySem PySem.Spec PyProof.Rows L2 FP
section
variable {P : Program} {w : World} {K : PySem.W.Frag} {mg : Str → Option Value} {base : Heap} {f C CF CB : Addr} {fd : FuncData}
theorem rows_form {s : Sc} (o : s.Ok) : ∃ c0 rest, s.rows = c0 :: rest ∧ c0.length = s.w ∧ rest.length < 10 := by
  have h1 := o.len
  have h2 := o.hr
  have h3 := o.h10
  match e : s.rows, h1 with
  | [], h1 => simp at h1; omega
  | c0 :: rest, h1 => exact ⟨c0, rest, rfl, (o.wid c0 (by rw [e]; exact List.mem_cons_self)).1, by simp at h1; omega⟩
theorem roll_call {s : Sc} (o : s.Ok) {n : Int} (h1 : -100 ≤ n) (h2 : n ≤ 100) : frRoll [.tuple (s.rows.map .tuple), .int n] (.ok (.tuple ((rollA s.rows s.w n).map .tuple))) := by
  obtain ⟨c0, rest, e, l, lr⟩ := rows_form o
  have w20 := o.w20
  refine ⟨c0, rest.map .tuple, n, by rw [e]; rfl, by rw [List.length_map]; omega, by omega, h1, h2, ?_⟩
  rw [← roll_map, e, l]
  rfl
/-! need_places -/
def frNp (CB : Addr) : List PyData → Rs → Prop := fun ds q => ∃ (s : Sc) (r c n : Nat), s.Ok ∧ ds = [.tuple (s.rows.map .tuple), .int (r : Int), .int (c : Int), .int (n : Int)] ∧ q = if r < s.h ∧ c + n ≤ s.w then .ok .none else .er CB
theorem sc_np : FnScope ["rows", "row", "column", "many"] ["rows", "row", "column", "many"] (defScope s_need_places) := ⟨rfl, rfl, rfl, by decide +kernel, rfl, by decide +kernel, by decide +kernel⟩
theorem ok_np (F : Df K "need_places" s_need_places f fd) (hm : mg "need_places" = some (.ref f)) (B : Bl mg) (X1 : ExcF K mg "BadChange" CB) : DefOk P w K mg base 1 "need_places" (frNp CB) := by
  refine def_ok F hm sc_np (fun _ _ _ _ _ _ us hl => match us, hl with | [_, _, _, _], _ => rfl) (fun ds r h => by obtain ⟨_, _, _, _, _, rfl, _⟩ := h; rfl) (fun cdv A outer s H E qs ds r hr h => ?_)
  obtain ⟨t, r, c, n, o, rfl, rfl⟩ := h
  have tk : L2N.Takes (cxOf (L2N.CX P w) P w K mg base ["rows", "row", "column", "many"] "need_places" (defScope s_need_places) f cdv A outer s H E) (WOf E) := L2N.takes_of rfl rfl rfl rfl
  obtain ⟨c0, rest, e, l, lr⟩ := rows_form o
  have hl : (t.rows.map PyData.tuple).length = t.h := by rw [List.length_map]; exact o.len
  refine sd_if (pt_cmpd op_ge rd_B0 (pd_var 1) (pd_lenT B.len (pd_var 0)) (nomark _)) (fun hk => ?_) (fun hk => sd_nil ?_)
  · have hk := of_decide_eq_true hk
    rw [hl] at hk
    refine sd_raise X1 tk ?_ rfl
    show (if r < t.h ∧ c + n ≤ t.w then Rs.ok PyData.none else Rs.er CB) = Rs.er CB
    rw [if_neg (by omega)]
  · have hk := of_decide_eq_false hk
    rw [hl] at hk
    refine sd_if (pt_cmpd op_gt rd_B0 (pd_add (pd_var 2) (pd_var 3)) (pd_lenT B.len (pd_ixT (d := .tuple c0) (pd_var 0) pd_int (atI_nat (j := 0) (by rw [e]; rfl)))) (nomark _)) (fun hk2 => ?_) (fun hk2 => sd_nil (sd_nil ?_))
    · have hk2 := of_decide_eq_true hk2
      refine sd_raise X1 tk ?_ rfl
      show (if r < t.h ∧ c + n ≤ t.w then Rs.ok PyData.none else Rs.er CB) = Rs.er CB
      rw [if_neg (by omega)]
    · have hk2 := of_decide_eq_false hk2
      show (if r < t.h ∧ c + n ≤ t.w then Rs.ok PyData.none else Rs.er CB) = Rs.ok PyData.none
      rw [if_pos (by omega)]
/-! cells_of -/
def frCs : List PyData → Rs → Prop := fun ds q => ∃ (z : Str) (k : Nat), z.length ≤ 1000 ∧ ds = [.str z, .int (k : Int)] ∧ q = .ok (.tuple (cellsZ z k))
theorem sc_cs : FnScope ["text", "ink", "sign"] ["text", "ink"] (defScope s_cells_of) := ⟨rfl, rfl, rfl, by decide +kernel, rfl, by decide +kernel, by decide +kernel⟩
theorem ok_cs (F : Df K "cells_of" s_cells_of f fd) (hm : mg "cells_of" = some (.ref f)) (B : Bl mg) : DefOk P w K mg base 1 "cells_of" frCs := by
  refine def_ok F hm sc_cs (fun _ _ _ _ _ _ us hl => match us, hl with | [_, _], _ => rfl) (fun ds r h => by obtain ⟨_, _, _, rfl, _⟩ := h; rfl) (fun cdv A outer s H E qs ds r hr h => ?_)
  obtain ⟨z, k, hz, rfl, rfl⟩ := h
  have hl : (signsD z).length = z.length := by
    unfold signsD
    rw [List.length_map, Array.length_toList]
    rfl
  refine sd_ret (pd_tupleL B.tuple (PN.pl (pn_lc (y := "sign") (j := 2) (items := signsD z) (ys := cellsZ z k) rfl sc_cs.nd (PWk.ws (wk_str (pd_var 0))) (by rw [hl, cellsZ_len]) (blkOk_by (N := ["text", "ink", "sign"]) (sc := defScope s_cells_of) (by decide +kernel)) (fun _ _ _ _ _ => pg_name sc_cs.nd rfl (Or.inl rfl)) ?_ (by rw [hl]; omega)))) rfl
  intro i d y hd hy D o s H C cl fp
  unfold signsD at hd
  unfold cellsZ at hy
  rw [List.getElem?_map] at hd hy
  cases hc : z.cps.toList[i]? with
  | none =>
    rw [hc] at hd
    cases hd
  | some c =>
    rw [hc] at hd hy
    cases hd
    cases hy
    exact pd_tup (pds_cons (pd_var 2) (pds_cons (pd_var 1) pds_nil))
/-! with_put -/
def frWp : List PyData → Rs → Prop := fun ds q => ∃ (rs : List (List PyData)) (cs : List PyData) (r c : Nat) (new : List PyData), rs[r]? = some cs ∧ rs.length ≤ 100 ∧ cs.length ≤ 100 ∧ new.length ≤ 1000 ∧ ds = [.tuple (rs.map .tuple), .int (r : Int), .int (c : Int), .tuple new] ∧ q = .ok (.tuple ((rs.set r (putC cs c new)).map .tuple))
abbrev NWp : List Str := ["rows", "row", "column", "new", "cells", "put"]
theorem sc_wp : FnScope NWp ["rows", "row", "column", "new"] (defScope s_with_put) := ⟨rfl, rfl, rfl, by decide +kernel, rfl, by decide +kernel, by decide +kernel⟩
theorem ok_wp (F : Df K "with_put" s_with_put f fd) (hm : mg "with_put" = some (.ref f)) (B : Bl mg) : DefOk P w K mg base 1 "with_put" frWp := by
  refine def_ok F hm sc_wp (fun _ _ _ _ _ _ us hl => match us, hl with | [_, _, _, _], _ => rfl) (fun ds r h => by obtain ⟨_, _, _, _, _, _, _, _, _, rfl, _⟩ := h; rfl) (fun cdv A outer s H E qs ds r hr h => ?_)
  obtain ⟨rs, cs, r, c, new, hx, l1, l2, l3, rfl, rfl⟩ := h
  have hlt := (List.getElem?_eq_some_iff.mp hx).1
  have t1 : (cs.take c).length ≤ cs.length := by rw [List.length_take]; omega
  have t2 : (cs.drop (c + new.length)).length ≤ cs.length := by rw [List.length_drop]; omega
  refine sd_set 4 (d := .tuple cs) (pd_ixT (pd_var 0) (pd_var 1) (atI_nat (j := r) (by rw [List.getElem?_map, hx]; rfl))) ?_ sc_wp.nd
  refine sd_set 5 (d := .tuple (putC cs c new)) (pd_catT (ds := cs.take c ++ new) (dt := cs.drop (c + new.length)) (pd_catT (ds := cs.take c) (dt := new) (PD.eq (pd_slT (i := none) (j := some ((c : Nat) : Int)) (pd_var 4) rfl ⟨_, rfl, pd_var 2⟩) (by rw [cut_to])) (pd_var 3) (by omega)) (PD.eq (pd_slT (i := some (((c + new.length : Nat)) : Int)) (j := none) (pd_var 4) ⟨_, rfl, PD.eq (pd_add (pd_var 2) (pd_lenT B.len (pd_var 3))) rfl⟩ rfl) (by rw [cut_from])) (by rw [List.length_append]; omega)) ?_ sc_wp.nd
  have m1 := List.length_take_le r (rs.map PyData.tuple)
  have m2 : ((rs.map PyData.tuple).drop (r + 1)).length ≤ rs.length := by rw [List.length_drop, List.length_map]; omega
  refine sd_ret (d := .tuple (((rs.map PyData.tuple).take r ++ [PyData.tuple (putC cs c new)]) ++ (rs.map PyData.tuple).drop (r + 1))) ?_ ?_
  · exact pd_catT (ds := (rs.map PyData.tuple).take r ++ [PyData.tuple (putC cs c new)]) (dt := (rs.map PyData.tuple).drop (r + 1)) (pd_catT (ds := (rs.map PyData.tuple).take r) (dt := [PyData.tuple (putC cs c new)]) (PD.eq (pd_slT (i := none) (j := some ((r : Nat) : Int)) (pd_var 0) rfl ⟨_, rfl, pd_var 1⟩) (by rw [cut_to])) (pd_tup (pds_cons (pd_var 5) pds_nil)) (by simp only [List.length_cons, List.length_nil]; omega)) (PD.eq (pd_slT (i := some (((r + 1 : Nat)) : Int)) (j := none) (pd_var 0) ⟨_, rfl, PD.eq (pd_add (pd_var 1) pd_int) rfl⟩ rfl) (by rw [cut_from])) (by rw [List.length_append]; simp only [List.length_cons, List.length_nil]; omega)
  show Rs.ok (.tuple ((rs.set r (putC cs c new)).map .tuple)) = _
  rw [List.map_set, List.set_eq_take_append_cons_drop, if_pos (by rw [List.length_map]; exact hlt)]
  simp
/-! part_done -/
def frPart (CB : Addr) : List PyData → Rs → Prop := fun ds q => ∃ (s : Sc) (p : Pt), s.Ok ∧ p.Ok ∧ ds = [s.d, p.d] ∧ q = match s.part p with | some t => .ok t.d | none => .er CB
abbrev NPd : List Str := ["face", "part", "rows", "row", "column", "by", "at_row", "at_column", "ink", "text", "to_row", "to_column"]
theorem sc_pd : FnScope NPd ["face", "part"] (defScope s_part_done) := ⟨rfl, rfl, rfl, by decide +kernel, rfl, by decide +kernel, by decide +kernel⟩
theorem ok_pd (F : Df K "part_done" s_part_done f fd) (hm : mg "part_done" = some (.ref f)) (B : Bl mg) (GR : DefOk P w K mg base 2 "rolled" frRoll) (GN : DefOk P w K mg base 1 "need_places" (frNp CB)) (GC : DefOk P w K mg base 1 "cells_of" frCs) (GW : DefOk P w K mg base 1 "with_put" frWp) : DefOk P w K mg base 3 "part_done" (frPart CB) := by
  refine def_ok F hm sc_pd (fun _ _ _ _ _ _ us hl => match us, hl with | [_, _], _ => rfl) (fun ds r h => by obtain ⟨_, _, _, _, rfl, _⟩ := h; rfl) (fun cdv A outer s H E qs ds r hr h => ?_)
  obtain ⟨t, p, o, hp, rfl, rfl⟩ := h
  have tk : L2N.Takes (cxOf (L2N.CX P w) P w K mg base NPd "part_done" (defScope s_part_done) f cdv A outer s H E) (WOf E) := L2N.takes_of rfl rfl rfl rfl
  have hr1 : Room 1 (A.deeper (envOfC "part_done" (defScope s_part_done) s.heap.objs.size f cdv)) := hr.mono (by decide)
  have h10 := o.h10
  have w20 := o.w20
  refine sd_unp [2, 3, 4] (ds := [.tuple (t.rows.map .tuple), .int (t.row : Int), .int (t.col : Int)]) (pd_var 0) (pg_tup rfl (pgs_cons (pg_name sc_pd.nd rfl (Or.inl rfl)) (pgs_cons (pg_name sc_pd.nd rfl (Or.inl rfl)) (pgs_cons (pg_name sc_pd.nd rfl (Or.inl rfl)) pgs_nil)))) rfl rfl ?_
  refine sd_match (pd_var 1) ?_
  cases p with
  | roll n =>
    refine mc_hit [5] rfl sc_pd.nd rfl (by simp) rfl rfl (show capB NPd (defScope s_part_done) ["by"] [5] = true by decide +kernel) ?_
    exact sd_ret (pd_tup (pds_cons (pd_call GR (hr.mono (by decide)) (pds_cons (pd_var 2) (pds_cons (pd_var 5) pds_nil)) (roll_call o (by have := hp.1; omega) (by have := hp.2.1; omega))) (pds_cons (pd_var 3) (pds_cons (pd_var 4) pds_nil)))) rfl
  | put r c k z =>
    have hz := hp.2.2.1
    have ez : (z.length : Int) = ((z.length : Nat) : Int) := rfl
    refine mc_len (by simp) (by simp) (mc_hit [6, 7, 8, 9] rfl sc_pd.nd rfl (by simp) rfl rfl (show capB NPd (defScope s_part_done) ["at_row", "at_column", "ink", "text"] [6, 7, 8, 9] = true by decide +kernel) ?_)
    have ep : t.part (.put r c k z) = if r < t.h ∧ c + z.length ≤ t.w then some { t with rows := t.rows.set r (putC (t.rows.getD r []) c (cellsZ z k)) } else none := rfl
    refine sd_callX GN hr1 tk (pds_cons (pd_var 2) (pds_cons (pd_var 6) (pds_cons (pd_var 7) (pds_cons (pd_lenS B.len (pd_var 9) (by omega)) pds_nil)))) ⟨t, r, c, z.length, o, rfl, rfl⟩ (fun d1 e1 => ?_) (fun Z e1 => ?_)
    · have hh : r < t.h ∧ c + z.length ≤ t.w := by
        by_cases hh : r < t.h ∧ c + z.length ≤ t.w
        · exact hh
        · rw [if_neg hh] at e1
          cases e1
      rw [ep, if_pos hh]
      obtain ⟨a1, a2, a3⟩ := o.row_at hh.1
      exact sd_ret (pd_tup (pds_cons (pd_call GW hr1 (pds_cons (pd_var 2) (pds_cons (pd_var 6) (pds_cons (pd_var 7) (pds_cons (pd_call GC hr1 (pds_cons (pd_var 9) (pds_cons (pd_var 8) pds_nil)) ⟨z, k, hz, rfl, rfl⟩) pds_nil)))) ⟨t.rows, _, r, c, cellsZ z k, a1, by rw [o.len]; omega, by rw [a2]; omega, by rw [cellsZ_len]; omega, rfl, rfl⟩) (pds_cons (pd_var 3) (pds_cons (pd_var 4) pds_nil)))) rfl
    · have hh : ¬ (r < t.h ∧ c + z.length ≤ t.w) := fun hh => by
        rw [if_pos hh] at e1
        cases e1
      rw [if_neg hh] at e1
      cases e1
      show (match t.part (.put r c k z) with | some t => Rs.ok t.d | none => Rs.er CB) = Rs.er CB
      rw [ep, if_neg hh]
  | cur r c =>
    refine mc_len (by simp) (by simp) (mc_len (by simp) (by simp) (mc_hit [10, 11] rfl sc_pd.nd rfl (by simp) rfl rfl (show capB NPd (defScope s_part_done) ["to_row", "to_column"] [10, 11] = true by decide +kernel) ?_))
    have ep : t.part (.cur r c) = if r < t.h ∧ c + 1 ≤ t.w then some { t with row := r, col := c } else none := rfl
    refine sd_callX GN hr1 tk (pds_cons (pd_var 2) (pds_cons (pd_var 10) (pds_cons (pd_var 11) (pds_cons pd_int pds_nil)))) ⟨t, r, c, 1, o, rfl, rfl⟩ (fun d1 e1 => ?_) (fun Z e1 => ?_)
    · have hh : r < t.h ∧ c + 1 ≤ t.w := by
        by_cases hh : r < t.h ∧ c + 1 ≤ t.w
        · exact hh
        · rw [if_neg hh] at e1
          cases e1
      rw [ep, if_pos hh]
      exact sd_ret (pd_tup (pds_cons (pd_var 2) (pds_cons (pd_var 10) (pds_cons (pd_var 11) pds_nil)))) rfl
    · have hh : ¬ (r < t.h ∧ c + 1 ≤ t.w) := fun hh => by
        rw [if_pos hh] at e1
        cases e1
      rw [if_neg hh] at e1
      cases e1
      show (match t.part (.cur r c) with | some t => Rs.ok t.d | none => Rs.er CB) = Rs.er CB
      rw [ep, if_neg hh]
end
end K96

namespace K96
open PySem PySem.Spec PyProof.Rows L2 FP
theorem Sc.all_app : ∀ (ps qs : List Pt) (s : Sc), s.all (ps ++ qs) = match s.all ps with | some t => t.all qs | none => none
  | [], qs, s => rfl
  | p :: ps, qs, s => by
    show (match s.part p with | some t => t.all (ps ++ qs) | none => none) = match (match s.part p with | some t => t.all ps | none => none) with | some t => t.all qs | none => none
    cases s.part p with
    | none => rfl
    | some t => exact Sc.all_app ps qs t
theorem Sc.all_snoc {ps : List Pt} {i : Nat} {p : Pt} {s t : Sc} (h : s.all (ps.take i) = some t) (e : ps[i]? = some p) : s.all (ps.take (i + 1)) = t.part p := by
  rw [List.take_add_one, e, Sc.all_app, h]
  show (match t.part p with | some u => some u | none => none) = t.part p
  cases t.part p <;> rfl
theorem Sc.all_none {ps : List Pt} {i : Nat} {s : Sc} (h : s.all (ps.take i) = none) : s.all ps = none := by
  rw [← List.take_append_drop i ps, Sc.all_app, h]
theorem Sc.Ok.all : ∀ {ps : List Pt} {s t : Sc}, s.Ok → (∀ p ∈ ps, p.Ok) → s.all ps = some t → t.Ok ∧ t.h = s.h ∧ t.w = s.w
  | [], s, t, o, _, e => by
    cases e
    exact ⟨o, rfl, rfl⟩
  | p :: ps, s, t, o, hp, e => by
    replace e : (match s.part p with | some t => t.all ps | none => none) = some t := e
    cases e1 : s.part p with
    | none =>
      rw [e1] at e
      cases e
    | some u =>
      rw [e1] at e
      obtain ⟨o1, a1, a2⟩ := o.part (hp p List.mem_cons_self) e1
      obtain ⟨o2, b1, b2⟩ := Sc.Ok.all o1 (fun q hq => hp q (List.mem_cons_of_mem _ hq)) e
      exact ⟨o2, b1.trans a1, b2.trans a2⟩
def rsOf (CB : Addr) : Option Sc → Rs
  | some t => .ok t.d
  | none => .er CB
def Pt.cost : Pt → Nat
  | .roll _ => 4
  | .put _ _ _ z => 4 + z.length
  | .cur _ _ => 3
def costL (ps : List Pt) : List Int := ps.map fun (p : Pt) => ((p.cost : Nat) : Int)
def costs (ps : List Pt) : Int := (costL ps).sum
section
variable {P : Program} {w : World} {K : PySem.W.Frag} {mg : Str → Option Value} {base : Heap} {f C CF CB : Addr} {fd : FuncData}
def frParts (CB : Addr) : List PyData → Rs → Prop := fun ds q => ∃ (s : Sc) (ps : List Pt), s.Ok ∧ (∀ p ∈ ps, p.Ok) ∧ ds = [s.d, .list (ps.map Pt.d)] ∧ q = rsOf CB (s.all ps)
abbrev NPs : List Str := ["face", "change", "now", "part"]
theorem sc_pds : FnScope NPs ["face", "change"] (defScope s_parts_done) := ⟨rfl, rfl, rfl, by decide +kernel, rfl, by decide +kernel, by decide +kernel⟩
theorem ok_pds (F : Df K "parts_done" s_parts_done f fd) (hm : mg "parts_done" = some (.ref f)) (G : DefOk P w K mg base 3 "part_done" (frPart CB)) : DefOk P w K mg base 4 "parts_done" (frParts CB) := by
  refine def_ok F hm sc_pds (fun _ _ _ _ _ _ us hl => match us, hl with | [_, _], _ => rfl) (fun ds r h => by obtain ⟨_, _, _, _, rfl, _⟩ := h; rfl) (fun cdv A outer s H E qs ds r hr h => ?_)
  obtain ⟨t, ps, o, hp, rfl, rfl⟩ := h
  have tk : L2N.Takes (cxOf (L2N.CX P w) P w K mg base NPs "parts_done" (defScope s_parts_done) f cdv A outer s H E) (WOf E) := L2N.takes_of rfl rfl rfl rfl
  refine sd_set 2 (pd_var 0) ?_ sc_pds.nd
  refine sd_for 3 (items := ps.map Pt.d) (fun i δ' ω' => ∃ u : Sc, u.Ok ∧ t.all (ps.take i) = some u ∧ ω' = ⟨qs, []⟩ ∧ ∃ y3, δ' = [some (.im t.d), some (.im (.list (ps.map Pt.d))), some (.im u.d), y3]) (wk_lst (pd_var 1)) ⟨t, o, rfl, rfl, _, rfl⟩ ?_ ?_ (pg_name sc_pds.nd rfl (Or.inl rfl)) (passes_of rfl) rfl
  · rintro i d δ' ω' hd ⟨u, ou, eu, rfl, y3, rfl⟩
    rw [List.getElem?_map] at hd
    cases e : ps[i]? with
    | none =>
      rw [e] at hd
      cases hd
    | some p =>
      rw [e] at hd
      cases hd
      have hp1 := hp p (List.mem_of_getElem? e)
      have es := Sc.all_snoc eu e
      refine sd_setX 2 (PR.ex (pr_call G hr tk (pds_cons (pd_var 2) (pds_cons (pd_var 3) pds_nil)) ⟨u, p, ou, hp1, rfl, rfl⟩) (fun d e1 => ?_) (fun Z e1 => ?_)) sc_pds.nd
      · cases ep : u.part p with
        | none =>
          rw [ep] at e1
          cases e1
        | some v =>
          rw [ep] at e1
          cases e1
          exact sd_nil ⟨v, (ou.part hp1 ep).1, es.trans ep, rfl, _, rfl⟩
      · cases ep : u.part p with
        | some v =>
          rw [ep] at e1
          cases e1
        | none =>
          rw [ep] at e1
          cases e1
          show rsOf CB (t.all ps) = Rs.er CB
          rw [Sc.all_none (es.trans ep)]
          rfl
  · rintro δ' ω' ⟨u, ou, eu, rfl, y3, rfl⟩
    rw [List.length_map, List.take_length] at eu
    rw [eu]
    exact sd_ret (pd_var 2) rfl
/-! changed -/
def frChanged (CF CB : Addr) : List PyData → Rs → Prop := fun ds q =>
  (∃ (s : Sc) (ps : List Pt), s.Ok ∧ (∀ p ∈ ps, p.Ok) ∧ ds = [s.d, .list (ps.map Pt.d)] ∧ q = rsOf CB (s.all ps)) ∨
  (∃ d e, isFace d = false ∧ smF d ∧ ds = [d, e] ∧ q = .er CF) ∨
  (∃ (s : Sc) (e : PyData), s.Ok ∧ okPs e ∧ areParts e = false ∧ ds = [s.d, e] ∧ q = .er CB)
/-! costs -/
def frPc : List PyData → Rs → Prop := fun ds q => ∃ p : Pt, p.Ok ∧ ds = [p.d] ∧ q = .ok (.int (p.cost : Int))
theorem sc_pc : FnScope ["part"] ["part"] (defScope s_part_cost) := ⟨rfl, rfl, rfl, by decide +kernel, rfl, by decide +kernel, by decide +kernel⟩
theorem ok_pc (F : Df K "part_cost" s_part_cost f fd) (hm : mg "part_cost" = some (.ref f)) (B : Bl mg) (g1 : GlD K mg "ROLL_COST" (.int 4)) (g2 : GlD K mg "CURSOR_COST" (.int 3)) (g3 : GlD K mg "PUT_COST" (.int 4)) : DefOk P w K mg base 1 "part_cost" frPc := by
  refine def_ok F hm sc_pc (fun _ _ _ _ _ _ us hl => match us, hl with | [_], _ => rfl) (fun ds r h => by obtain ⟨_, _, rfl, _⟩ := h; rfl) (fun cdv A outer s H E qs ds r hr h => ?_)
  obtain ⟨p, hp, rfl, rfl⟩ := h
  cases p with
  | roll n => exact sd_ifT (PTd.eq (pt_cmpd op_eq rd_eqS (pd_ixT (d := .str "roll") (pd_var 0) pd_int atI0) pd_str (nomark _)) (by decide +kernel)) (sd_ret (pd_glob g1) rfl)
  | cur r c =>
    refine sd_ifF (PTd.eq (pt_cmpd op_eq rd_eqS (pd_ixT (d := .str "cursor") (pd_var 0) pd_int atI0) pd_str (nomark _)) (by decide +kernel)) ?_
    exact sd_ifT (PTd.eq (pt_cmpd op_eq rd_eqS (pd_ixT (d := .str "cursor") (pd_var 0) pd_int atI0) pd_str (nomark _)) (by decide +kernel)) (sd_ret (pd_glob g2) rfl)
  | put r c k z =>
    have hz := hp.2.2.1
    refine sd_ifF (PTd.eq (pt_cmpd op_eq rd_eqS (pd_ixT (d := .str "put") (pd_var 0) pd_int atI0) pd_str (nomark _)) (by decide +kernel)) ?_
    refine sd_ifF (PTd.eq (pt_cmpd op_eq rd_eqS (pd_ixT (d := .str "put") (pd_var 0) pd_int atI0) pd_str (nomark _)) (by decide +kernel)) ?_
    refine sd_ret (d := .int (4 + (z.length : Int))) (pd_add (pd_glob g3) (pd_lenS B.len (pd_ixT (d := .str z) (pd_var 0) (pd_neg pd_int) (atI_last (xs := [.str "put", .int (r : Int), .int (c : Int), .int (k : Int)]))) (by omega))) ?_
    show Rs.ok (.int ((4 + z.length : Nat) : Int)) = _
    rw [Int.natCast_add]
    rfl
def frCp : List PyData → Rs → Prop := fun ds q => ∃ ps : List Pt, (∀ p ∈ ps, p.Ok) ∧ ps.length ≤ 1000 ∧ ds = [.list (ps.map Pt.d)] ∧ q = .ok (.int (costs ps))
theorem sc_cp : FnScope ["change", "part"] ["change"] (defScope s_cost_of_parts) := ⟨rfl, rfl, rfl, by decide +kernel, rfl, by decide +kernel, by decide +kernel⟩
theorem ok_cp (F : Df K "cost_of_parts" s_cost_of_parts f fd) (hm : mg "cost_of_parts" = some (.ref f)) (ms : mg "sum" = none) (G : DefOk P w K mg base 1 "part_cost" frPc) : DefOk P w K mg base 2 "cost_of_parts" frCp := by
  refine def_ok F hm sc_cp (fun _ _ _ _ _ _ us hl => match us, hl with | [_], _ => rfl) (fun ds r h => by obtain ⟨_, _, _, rfl, _⟩ := h; rfl) (fun cdv A outer s H E qs ds r hr h => ?_)
  obtain ⟨ps, hp, hl, rfl, rfl⟩ := h
  refine sd_ret (pd_sumI (ns := costL ps) rfl ms (PN.pl (pn_lc (y := "part") (j := 1) (items := ps.map Pt.d) (ys := (costL ps).map .int) rfl sc_cp.nd (PWk.ws (wk_lst (pd_var 0))) (by simp [costL]) (blkOk_by (N := ["change", "part"]) (sc := defScope s_cost_of_parts) (by decide +kernel)) (fun _ _ _ _ _ => pg_name sc_cp.nd rfl (Or.inl rfl)) ?_ (by rw [List.length_map]; omega)))) rfl
  intro i d y hd hy D o s H C cl fp
  rw [List.getElem?_map] at hd
  unfold costL at hy
  rw [List.getElem?_map, List.getElem?_map] at hy
  cases e : ps[i]? with
  | none =>
    rw [e] at hd
    cases hd
  | some p =>
    rw [e] at hd hy
    cases hd
    cases hy
    exact pd_call G hr (pds_cons (pd_var 1) pds_nil) ⟨p, hp p (List.mem_of_getElem? e), rfl, rfl⟩
def frCost (CB : Addr) : List PyData → Rs → Prop := fun ds q => (∃ ps : List Pt, (∀ p ∈ ps, p.Ok) ∧ ps.length ≤ 1000 ∧ ds = [.list (ps.map Pt.d)] ∧ q = .ok (.int (costs ps))) ∨ ∃ e, okPs e ∧ areParts e = false ∧ ds = [e] ∧ q = .er CB
end
end K96

namespace K96
open PySem PySem.Spec PyProof.Rows L2 FP
/-! ### cells -/
def sgN : PyData → Nat
  | .tuple (.str z :: _) => z.cps.toList.headD 0
  | _ => 0
def inkN : PyData → Nat
  | .tuple (_ :: .int k :: _) => k.toNat
  | _ => 0
theorem cell_eq {d : PyData} (h : isCell d = true) : d = cellD (sgN d) (inkN d : Int) ∧ okSign (sgN d) = true ∧ inkN d ≤ 7 := by
  obtain ⟨c, i, rfl, h1, h2, h3⟩ := cell_of h
  refine ⟨?_, h1, ?_⟩
  · show cellD c i = cellD c (i.toNat : Int)
    rw [show ((i.toNat : Nat) : Int) = i by omega]
  · show i.toNat ≤ 7
    omega
/-! ### spans -/
def seg (cs : List PyData) (f l : Nat) : List PyData := (cs.drop f).take (l + 1 - f)
def alike (cs : List PyData) (f l : Nat) : Prop := ∀ i, f ≤ i → i ≤ l → inkN (cs.getD i .none) = inkN (cs.getD f .none)
instance {cs : List PyData} {f l : Nat} : Decidable (alike cs f l) :=
  decidable_of_iff (∀ i, i < l + 1 → f ≤ i → inkN (cs.getD i .none) = inkN (cs.getD f .none)) ⟨fun h i h1 h2 => h i (by omega) h1, fun h i h1 h2 => h i h2 (by omega)⟩
def worth (cs : List PyData) (a b : Nat) : Bool := decide ((b : Int) - (a : Int) - 1 < 4) && decide (alike cs a b)
def stepS (cs : List PyData) (sp : List (Nat × Nat)) (c : Nat) : List (Nat × Nat) := match sp.getLast? with
  | some p => if worth cs p.2 c = true then sp.dropLast ++ [(p.1, c)] else sp ++ [(c, c)]
  | none => sp ++ [(c, c)]
structure SpanOk (cs : List PyData) (p : Nat × Nat) : Prop where
  le : p.1 ≤ p.2
  lt : p.2 < cs.length
  ink : alike cs p.1 p.2
theorem step_cases (cs : List PyData) (sp : List (Nat × Nat)) (c : Nat) : stepS cs sp c = sp ++ [(c, c)] ∨ ∃ sp0 p, sp = sp0 ++ [p] ∧ alike cs p.2 c ∧ stepS cs sp c = sp0 ++ [(p.1, c)] := by
  unfold stepS
  rcases List.eq_nil_or_concat sp with e | ⟨sp0, p, e⟩
  · subst e
    exact .inl rfl
  · rw [List.concat_eq_append] at e
    subst e
    have e1 : (sp0 ++ [p]).getLast? = some p := by rw [List.getLast?_append]; rfl
    rw [e1]
    show (if worth cs p.2 c = true then _ else _) = _ ∨ _
    by_cases hw : worth cs p.2 c = true
    · rw [if_pos hw]
      refine .inr ⟨sp0, p, rfl, ?_, ?_⟩
      · unfold worth at hw
        exact of_decide_eq_true (by rw [Bool.and_eq_true] at hw; exact hw.2)
      · show (if worth cs p.2 c = true then _ else _) = _
        rw [if_pos hw, List.dropLast_concat]
    · rw [if_neg hw]
      exact .inl rfl
theorem spans_inv (cs : List PyData) : ∀ (us : List Nat) (sp : List (Nat × Nat)), (∀ p ∈ sp, SpanOk cs p ∧ ∀ c ∈ us, p.2 < c) → us.Pairwise (· < ·) → (∀ c ∈ us, c < cs.length) →
    (∀ p ∈ us.foldl (stepS cs) sp, SpanOk cs p) ∧ (∀ p ∈ sp, ∃ q ∈ us.foldl (stepS cs) sp, q.1 ≤ p.1 ∧ p.2 ≤ q.2) ∧ ∀ c ∈ us, ∃ q ∈ us.foldl (stepS cs) sp, q.1 ≤ c ∧ c ≤ q.2
  | [], sp, h, _, _ => ⟨fun p hp => (h p hp).1, fun p hp => ⟨p, hp, Nat.le_refl _, Nat.le_refl _⟩, fun c hc => (List.not_mem_nil hc).elim⟩
  | c :: us, sp, h, hp, hl => by
    obtain ⟨hp1, hp2⟩ := List.pairwise_cons.mp hp
    have hc := hl c List.mem_cons_self
    have self : SpanOk cs (c, c) := ⟨Nat.le_refl _, hc, fun i h1 h2 => by
      have h1 : c ≤ i := h1
      have h2 : i ≤ c := h2
      rw [show i = c by omega]⟩
    have key : (∀ p ∈ stepS cs sp c, SpanOk cs p ∧ ∀ d ∈ us, p.2 < d) ∧ (∀ p ∈ sp, ∃ q ∈ stepS cs sp c, q.1 ≤ p.1 ∧ p.2 ≤ q.2) ∧ ∃ q ∈ stepS cs sp c, q.1 ≤ c ∧ c ≤ q.2 := by
      rcases step_cases cs sp c with e | ⟨sp0, p, rfl, al, e⟩
      · rw [e]
        refine ⟨fun p hp => ?_, fun p hp => ⟨p, List.mem_append_left _ hp, Nat.le_refl _, Nat.le_refl _⟩, (c, c), List.mem_append_right _ List.mem_cons_self, Nat.le_refl _, Nat.le_refl _⟩
        rcases List.mem_append.mp hp with q | q
        · exact ⟨(h p q).1, fun d hd => (h p q).2 d (List.mem_cons_of_mem _ hd)⟩
        · rw [List.mem_singleton.mp q]
          exact ⟨self, fun d hd => hp1 d hd⟩
      · rw [e]
        have hpm : p ∈ sp0 ++ [p] := List.mem_append_right _ List.mem_cons_self
        obtain ⟨ok, lts⟩ := h p hpm
        have lpc := lts c List.mem_cons_self
        have le1 := ok.le
        refine ⟨fun q hq => ?_, fun q hq => ?_, (p.1, c), List.mem_append_right _ List.mem_cons_self, by show p.1 ≤ c; omega, Nat.le_refl _⟩
        · rcases List.mem_append.mp hq with z | z
          · have hz := h q (List.mem_append_left _ z)
            exact ⟨hz.1, fun d hd => hz.2 d (List.mem_cons_of_mem _ hd)⟩
          · rw [List.mem_singleton.mp z]
            refine ⟨⟨by show p.1 ≤ c; omega, hc, fun i h1 h2 => ?_⟩, fun d hd => hp1 d hd⟩
            have h1 : p.1 ≤ i := h1
            have h2 : i ≤ c := h2
            have e2 := ok.ink p.2 le1 (Nat.le_refl _)
            by_cases hi : i ≤ p.2
            · exact ok.ink i h1 hi
            · exact (al i (by omega) h2).trans e2
        · rcases List.mem_append.mp hq with z | z
          · exact ⟨q, List.mem_append_left _ z, Nat.le_refl _, Nat.le_refl _⟩
          · rw [List.mem_singleton.mp z]
            exact ⟨(p.1, c), List.mem_append_right _ List.mem_cons_self, Nat.le_refl _, by show p.2 ≤ c; omega⟩
    obtain ⟨k1, k2, k3⟩ := key
    obtain ⟨i1, i2, i3⟩ := spans_inv cs us (stepS cs sp c) k1 hp2 fun d hd => hl d (List.mem_cons_of_mem _ hd)
    refine ⟨i1, fun p hp => ?_, fun d hd => ?_⟩
    · obtain ⟨q, hq, a, b⟩ := k2 p hp
      obtain ⟨r, hr, a2, b2⟩ := i2 q hq
      exact ⟨r, hr, by omega, by omega⟩
    · rcases List.mem_cons.mp hd with e | e
      · subst e
        obtain ⟨q, hq, a, b⟩ := k3
        obtain ⟨r, hr, a2, b2⟩ := i2 q hq
        exact ⟨r, hr, by omega, by omega⟩
      · exact i3 d e
/-- the columns in which two rows are unlike -/
def unlike (old new : List PyData) : List Nat := (List.range new.length).filter fun c => PyData.eqv (old.getD c .none) (new.getD c .none) = false
end K96

namespace K96
open PySem PySem.Spec PyProof.Rows L2 FP
theorem eqv_cell {a b : PyData} (ha : isCell a = true) (hb : isCell b = true) : PyData.eqv a b = true ↔ a = b := by
  obtain ⟨c, i, rfl, _⟩ := cell_of ha
  obtain ⟨d, j, rfl, _⟩ := cell_of hb
  have e : PyData.eqv (.tuple [.str ⟨#[c]⟩, .int i]) (.tuple [.str ⟨#[d]⟩, .int j]) = (((⟨#[c]⟩ : Str) == ⟨#[d]⟩) && ((i == j) && true)) := by
    simp only [PyData.eqv, PyData.eqvAll]
  rw [e, Bool.and_true, Bool.and_eq_true, beq_iff_eq, beq_iff_eq]
  constructor
  · rintro ⟨h1, h2⟩
    rw [h1, h2]
  · intro h
    injection h with h
    injection h with h1 h2
    injection h1 with h1
    injection h2 with h2
    injection h2 with h2
    exact ⟨h1, h2⟩
/-! ### segments put -/
def segsF (new : List PyData) (cs : List PyData) (sp : List (Nat × Nat)) : List PyData := sp.foldl (fun cs p => putC cs p.1 (seg new p.1 p.2)) cs
theorem seg_len {new : List PyData} {f l : Nat} (h1 : f ≤ l) (h2 : l < new.length) : (seg new f l).length = l + 1 - f := by
  unfold seg
  rw [List.length_take, List.length_drop]
  omega
theorem putC_at {cs new : List PyData} {c i : Nat} (h : c + new.length ≤ cs.length) : (putC cs c new)[i]? = if c ≤ i ∧ i < c + new.length then new[i - c]? else cs[i]? := by
  unfold putC
  have lc : (cs.take c).length = c := by rw [List.length_take]; omega
  by_cases h1 : i < c
  · rw [if_neg (by omega), List.append_assoc, List.getElem?_append_left (by rw [lc]; exact h1), List.getElem?_take_of_lt h1]
  · by_cases h2 : i < c + new.length
    · rw [if_pos ⟨by omega, h2⟩, List.append_assoc, List.getElem?_append_right (by rw [lc]; omega), lc, List.getElem?_append_left (by omega)]
    · rw [if_neg (by omega), List.getElem?_append_right (by rw [List.length_append, lc]; omega), List.length_append, lc, List.getElem?_drop]
      congr 1
      omega
theorem seg_at {new : List PyData} {f l i : Nat} (h1 : f ≤ i) (h2 : i ≤ l) : (seg new f l)[i - f]? = new[i]? := by
  unfold seg
  rw [List.getElem?_take_of_lt (by omega), List.getElem?_drop]
  congr 1
  omega
theorem segs_get {new : List PyData} : ∀ (sp : List (Nat × Nat)) (cs : List PyData), cs.length = new.length → (∀ p ∈ sp, SpanOk new p) →
    (segsF new cs sp).length = new.length ∧ ∀ i, ((∃ p ∈ sp, p.1 ≤ i ∧ i ≤ p.2) → (segsF new cs sp)[i]? = new[i]?) ∧ ((¬ ∃ p ∈ sp, p.1 ≤ i ∧ i ≤ p.2) → (segsF new cs sp)[i]? = cs[i]?)
  | [], cs, hl, _ => ⟨hl, fun i => ⟨fun ⟨p, hp, _⟩ => (List.not_mem_nil hp).elim, fun _ => rfl⟩⟩
  | p :: sp, cs, hl, h => by
    have ok := h p List.mem_cons_self
    have sl := seg_len ok.le ok.lt
    have le := ok.le
    have lt := ok.lt
    have fit : p.1 + (seg new p.1 p.2).length ≤ cs.length := by rw [sl]; omega
    obtain ⟨a, b⟩ := segs_get sp (putC cs p.1 (seg new p.1 p.2)) ((putC_len fit).trans hl) fun q hq => h q (List.mem_cons_of_mem _ hq)
    refine ⟨a, fun i => ?_⟩
    obtain ⟨b1, b2⟩ := b i
    have at1 := putC_at (i := i) fit
    rw [sl] at at1
    by_cases hs : ∃ q ∈ sp, q.1 ≤ i ∧ i ≤ q.2
    · refine ⟨fun _ => b1 hs, fun hn => ?_⟩
      obtain ⟨q, hq, hh⟩ := hs
      exact (hn ⟨q, List.mem_cons_of_mem _ hq, hh⟩).elim
    · have e2 := b2 hs
      by_cases hi : p.1 ≤ i ∧ i ≤ p.2
      · rw [if_pos ⟨hi.1, by omega⟩, seg_at hi.1 hi.2] at at1
        exact ⟨fun _ => e2.trans at1, fun hn => (hn ⟨p, List.mem_cons_self, hi⟩).elim⟩
      · rw [if_neg (by omega)] at at1
        refine ⟨fun hq => ?_, fun _ => e2.trans at1⟩
        obtain ⟨q, hq, hh⟩ := hq
        rcases List.mem_cons.mp hq with z | z
        · subst z
          exact (hi hh).elim
        · exact (hs ⟨q, z, hh⟩).elim
def spans (old new : List PyData) : List (Nat × Nat) := (unlike old new).foldl (stepS new) []
theorem unlike_pw (old new : List PyData) : (unlike old new).Pairwise (· < ·) := List.Pairwise.filter _ List.pairwise_lt_range
theorem spans_ok {old new : List PyData} : ∀ p ∈ spans old new, SpanOk new p :=
  (spans_inv new (unlike old new) [] (fun p hp => (List.not_mem_nil hp).elim) (unlike_pw old new) fun c hc => List.mem_range.mp (List.mem_filter.mp hc).1).1
theorem spans_new {old new : List PyData} (hl : old.length = new.length) (h1 : ∀ y ∈ old, isCell y = true) (h2 : ∀ y ∈ new, isCell y = true) : segsF new old (spans old new) = new := by
  obtain ⟨a, b⟩ := segs_get (spans old new) old hl spans_ok
  have cov := (spans_inv new (unlike old new) [] (fun p hp => (List.not_mem_nil hp).elim) (unlike_pw old new) fun c hc => List.mem_range.mp (List.mem_filter.mp hc).1).2.2
  refine List.ext_getElem? fun i => ?_
  obtain ⟨b1, b2⟩ := b i
  by_cases hs : ∃ p ∈ spans old new, p.1 ≤ i ∧ i ≤ p.2
  · exact b1 hs
  · rw [b2 hs]
    by_cases hi : i < new.length
    · have ho : i < old.length := by omega
      have nu : i ∉ unlike old new := fun hm => hs (cov i hm)
      have hd : ¬ (PyData.eqv (old.getD i .none) (new.getD i .none) = false) := fun z => nu (List.mem_filter.mpr ⟨List.mem_range.mpr hi, decide_eq_true z⟩)
      have e1 : old.getD i .none = old[i] := by rw [List.getD_eq_getElem?_getD, List.getElem?_eq_getElem ho]; rfl
      have e2 : new.getD i .none = new[i] := by rw [List.getD_eq_getElem?_getD, List.getElem?_eq_getElem hi]; rfl
      rw [e1, e2, Bool.not_eq_false, eqv_cell (h1 _ (List.getElem_mem ho)) (h2 _ (List.getElem_mem hi))] at hd
      rw [List.getElem?_eq_getElem ho, List.getElem?_eq_getElem hi, hd]
    · rw [List.getElem?_eq_none (by omega), List.getElem?_eq_none (by omega)]
/-! ### puts of a row -/
def textOf (new : List PyData) (p : Nat × Nat) : Str := ⟨((seg new p.1 p.2).map sgN).toArray⟩
def putOf (r : Nat) (new : List PyData) (p : Nat × Nat) : Pt := .put r p.1 (inkN (new.getD p.1 .none)) (textOf new p)
theorem textOf_len {new : List PyData} {p : Nat × Nat} (o : SpanOk new p) : (textOf new p).length = p.2 + 1 - p.1 := by
  show ((seg new p.1 p.2).map sgN).toArray.size = _
  rw [List.size_toArray, List.length_map, seg_len o.le o.lt]
theorem seg_mem {new : List PyData} {f l : Nat} {y : PyData} (h : y ∈ seg new f l) : y ∈ new := List.mem_of_mem_drop (List.mem_of_mem_take h)
theorem put_cells {new : List PyData} {p : Nat × Nat} (o : SpanOk new p) (h2 : ∀ y ∈ new, isCell y = true) : cellsZ (textOf new p) (inkN (new.getD p.1 .none)) = seg new p.1 p.2 := by
  unfold cellsZ textOf
  show (((seg new p.1 p.2).map sgN).toArray.toList).map _ = _
  rw [List.toList_toArray, List.map_map]
  have le := o.le
  have lt := o.lt
  have sl := seg_len le lt
  refine List.ext_getElem? fun j => ?_
  rw [List.getElem?_map]
  cases e : (seg new p.1 p.2)[j]? with
  | none => rfl
  | some y =>
    have hj : j < p.2 + 1 - p.1 := by rw [← sl]; exact (List.getElem?_eq_some_iff.mp e).1
    have e2 := seg_at (new := new) (f := p.1) (l := p.2) (i := p.1 + j) (by omega) (by omega)
    rw [show p.1 + j - p.1 = j by omega, e] at e2
    have ey : new.getD (p.1 + j) .none = y := by rw [List.getD_eq_getElem?_getD, ← e2]; rfl
    have ik := o.ink (p.1 + j) (by omega) (by omega)
    rw [ey] at ik
    obtain ⟨c1, c2, c3⟩ := cell_eq (h2 y (List.mem_of_getElem? e2.symm))
    show some (cellD (sgN y) ((inkN (new.getD p.1 .none) : Nat) : Int)) = some y
    rw [← ik, ← c1]
theorem putOf_ok {r : Nat} {new : List PyData} {p : Nat × Nat} (o : SpanOk new p) (h2 : ∀ y ∈ new, isCell y = true) (hl : new.length ≤ 20) : (putOf r new p).Ok := by
  have le := o.le
  have lt := o.lt
  have hp : p.1 < new.length := by omega
  have e : new.getD p.1 .none = new[p.1] := by rw [List.getD_eq_getElem?_getD, List.getElem?_eq_getElem hp]; rfl
  refine ⟨?_, ?_, ?_, fun c hc => ?_⟩
  · rw [e]
    exact (cell_eq (h2 _ (List.getElem_mem hp))).2.2
  · rw [textOf_len o]
    omega
  · rw [textOf_len o]
    omega
  · have hc : c ∈ ((seg new p.1 p.2).map sgN).toArray.toList := hc
    rw [List.toList_toArray] at hc
    obtain ⟨y, hy, rfl⟩ := List.mem_map.mp hc
    exact (cell_eq (h2 y (seg_mem hy))).2.1
theorem row_puts {new : List PyData} {r : Nat} (h2 : ∀ y ∈ new, isCell y = true) : ∀ (sp : List (Nat × Nat)) (t : Sc), (∀ p ∈ sp, SpanOk new p) → r < t.h → t.rows.length = t.h → new.length = t.w →
    t.all (sp.map (putOf r new)) = some { t with rows := t.rows.set r (segsF new (t.rows.getD r []) sp) }
  | [], t, _, hr, hl, _ => by
    have hlt : r < t.rows.length := by omega
    have e : t.rows.getD r [] = t.rows[r] := by rw [List.getD_eq_getElem?_getD, List.getElem?_eq_getElem hlt]; rfl
    show some t = some { t with rows := t.rows.set r (t.rows.getD r []) }
    rw [e, List.set_getElem_self]
  | p :: sp, t, h, hr, hl, hw => by
    have ok := h p List.mem_cons_self
    have le := ok.le
    have lt := ok.lt
    have e1 : t.part (putOf r new p) = some { t with rows := t.rows.set r (putC (t.rows.getD r []) p.1 (seg new p.1 p.2)) } := by
      show (if r < t.h ∧ p.1 + (textOf new p).length ≤ t.w then some { t with rows := t.rows.set r (putC (t.rows.getD r []) p.1 (cellsZ (textOf new p) (inkN (new.getD p.1 .none)))) } else none) = _
      rw [if_pos ⟨hr, by rw [textOf_len ok]; omega⟩, put_cells ok h2]
    show (match t.part (putOf r new p) with | some t => t.all (sp.map (putOf r new)) | none => none) = _
    rw [e1]
    show Sc.all { t with rows := t.rows.set r (putC (t.rows.getD r []) p.1 (seg new p.1 p.2)) } (sp.map (putOf r new)) = _
    rw [row_puts h2 sp { t with rows := t.rows.set r (putC (t.rows.getD r []) p.1 (seg new p.1 p.2)) } (fun q hq => h q (List.mem_cons_of_mem _ hq)) hr (by show (t.rows.set _ _).length = t.h; rw [List.length_set]; exact hl) hw]
    have eg : (t.rows.set r (putC (t.rows.getD r []) p.1 (seg new p.1 p.2))).getD r [] = putC (t.rows.getD r []) p.1 (seg new p.1 p.2) := by
      rw [List.getD_eq_getElem?_getD, List.getElem?_set_self (by omega)]
      rfl
    show some { t with rows := (t.rows.set r _).set r (segsF new ((t.rows.set r _).getD r []) sp) } = _
    rw [eg, List.set_set]
    rfl
/-! ### all rows -/
def putsAt (old new : List (List PyData)) (r : Nat) : List Pt := (spans (old.getD r []) (new.getD r [])).map (putOf r (new.getD r []))
def putsTo (old new : List (List PyData)) (n : Nat) : List Pt := (List.range n).flatMap (putsAt old new)
theorem putsTo_succ (old new : List (List PyData)) (n : Nat) : putsTo old new (n + 1) = putsTo old new n ++ putsAt old new n := by
  unfold putsTo
  rw [List.range_succ, List.flatMap_append]
  simp
theorem puts_done {s o : Sc} (hs : s.Ok) (ho : o.Ok) (hh : o.h = s.h) (hw : o.w = s.w) : ∀ n, n ≤ s.h → s.all (putsTo s.rows o.rows n) = some { s with rows := o.rows.take n ++ s.rows.drop n }
  | 0, _ => rfl
  | n + 1, hn => by
    have ih := puts_done hs ho hh hw n (by omega)
    rw [putsTo_succ, Sc.all_app, ih]
    obtain ⟨a1, a2, a3⟩ := hs.row_at (show n < s.h by omega)
    obtain ⟨b1, b2, b3⟩ := ho.row_at (show n < o.h by omega)
    have ls := hs.len
    have lo := ho.len
    have lt : (o.rows.take n).length = n := by rw [List.length_take]; omega
    have eg : (o.rows.take n ++ s.rows.drop n).getD n [] = s.rows.getD n [] := by
      rw [List.getD_eq_getElem?_getD, List.getElem?_append_right (by omega), lt, Nat.sub_self, List.getElem?_drop, Nat.add_zero, List.getD_eq_getElem?_getD]
    have q := row_puts (r := n) b3 (spans (s.rows.getD n []) (o.rows.getD n [])) { s with rows := o.rows.take n ++ s.rows.drop n } spans_ok (show n < s.h by omega) (by show (o.rows.take n ++ s.rows.drop n).length = s.h; rw [List.length_append, lt, List.length_drop]; omega) (by rw [b2, hw])
    show Sc.all { s with rows := o.rows.take n ++ s.rows.drop n } (putsAt s.rows o.rows n) = _
    refine q.trans ?_
    show some { s with rows := (o.rows.take n ++ s.rows.drop n).set n (segsF (o.rows.getD n []) ((o.rows.take n ++ s.rows.drop n).getD n []) (spans (s.rows.getD n []) (o.rows.getD n []))) } = _
    rw [eg, spans_new (by rw [a2, b2, hw]) a3 b3, List.set_append_right _ _ (by omega), lt, Nat.sub_self]
    have ed : s.rows.drop n = s.rows.getD n [] :: s.rows.drop (n + 1) := by
      have hlt : n < s.rows.length := by omega
      rw [List.drop_eq_getElem_cons hlt, List.getD_eq_getElem?_getD, List.getElem?_eq_getElem hlt]
      rfl
    rw [ed, List.set_cons_zero, List.take_add_one, b1]
    simp
/-! ### the change with a roll -/
def chg (s o : Sc) (b : Int) : List Pt := ((if b ≠ 0 then [Pt.roll b] else []) ++ putsTo (rollA s.rows s.w b) o.rows s.h) ++ (if s.row = o.row ∧ s.col = o.col then [] else [Pt.cur o.row o.col])
theorem roll0 (rs : List (List PyData)) (w : Nat) : rollA rs w 0 = rs := by
  unfold rollA pullA
  rw [if_neg (by decide)]
  simp
theorem rolled_ok {s : Sc} (hs : s.Ok) (b : Int) : ({ s with rows := rollA s.rows s.w b } : Sc).Ok :=
  ⟨(rollA_len _ _ _).trans hs.len, fun r hr => by
    rcases rollA_mem hr with q | q
    · exact hs.wid r q
    · rw [q]
      exact blankR_ok, hs.hr, hs.hc, hs.h10, hs.w20⟩
theorem chg_done {s o : Sc} (hs : s.Ok) (ho : o.Ok) (hh : o.h = s.h) (hw : o.w = s.w) (b : Int) : s.all (chg s o b) = some o := by
  have e1 : s.all (if b ≠ 0 then [Pt.roll b] else []) = some { s with rows := rollA s.rows s.w b } := by
    by_cases hb : b ≠ 0
    · rw [if_pos hb]
      rfl
    · rw [if_neg hb]
      have : b = 0 := by omega
      subst this
      rw [roll0]
      rfl
  have e2 := puts_done (rolled_ok hs b) ho hh hw s.h (Nat.le_refl _)
  have lo := ho.len
  have e3 : o.rows.take s.h ++ (rollA s.rows s.w b).drop s.h = o.rows := by
    rw [List.take_of_length_le (by omega), List.drop_eq_nil_of_le (by rw [rollA_len, hs.len]; exact Nat.le_refl _), List.append_nil]
  unfold chg
  rw [Sc.all_app, Sc.all_app, e1]
  show (match Sc.all { s with rows := rollA s.rows s.w b } (putsTo (rollA s.rows s.w b) o.rows s.h) with | some t => t.all (if s.row = o.row ∧ s.col = o.col then [] else [Pt.cur o.row o.col]) | none => none) = _
  have e2' : Sc.all { s with rows := rollA s.rows s.w b } (putsTo (rollA s.rows s.w b) o.rows s.h) = some { s with rows := o.rows } := by
    refine e2.trans ?_
    show some { s with rows := o.rows.take s.h ++ (rollA s.rows s.w b).drop s.h } = _
    rw [e3]
  rw [e2']
  show Sc.all { s with rows := o.rows } _ = _
  have hr := ho.hr
  have hc := ho.hc
  obtain ⟨o1, o2, o3, o4, o5⟩ := o
  simp only at hh hw hr hc ⊢
  subst hh hw
  by_cases hq : s.row = o2 ∧ s.col = o3
  · rw [if_pos hq, ← hq.1, ← hq.2]
    rfl
  · rw [if_neg hq]
    show (match (if o2 < s.h ∧ o3 + 1 ≤ s.w then some ({ s with rows := o1, row := o2, col := o3 } : Sc) else none) with | some t => some t | none => none) = _
    rw [if_pos ⟨hr, hc⟩]
theorem chg_ok {s o : Sc} (hs : s.Ok) (ho : o.Ok) (hh : o.h = s.h) (hw : o.w = s.w) {b : Int} (h1 : -10 ≤ b) (h2 : b ≤ 10) : ∀ p ∈ chg s o b, p.Ok := by
  intro p hp
  unfold chg at hp
  rcases List.mem_append.mp hp with q | q
  · rcases List.mem_append.mp q with q | q
    · by_cases hb : b ≠ 0
      · rw [if_pos hb] at q
        rw [List.mem_singleton.mp q]
        exact ⟨h1, h2, hb⟩
      · rw [if_neg hb] at q
        exact (List.not_mem_nil q).elim
    · unfold putsTo at q
      obtain ⟨r, hr, q⟩ := List.mem_flatMap.mp q
      have hr := List.mem_range.mp hr
      obtain ⟨b1, b2, b3⟩ := ho.row_at (show r < o.h by omega)
      obtain ⟨x, hx, rfl⟩ := List.mem_map.mp q
      have := ho.w20
      exact putOf_ok (spans_ok x hx) b3 (by omega)
  · split at q
    · exact (List.not_mem_nil q).elim
    · rw [List.mem_singleton.mp q]
      trivial
end K96

namespace K96
open PySem PySem.Spec PyProof.Rows L2 FP
theorem cut_mid (ds : List PyData) {i j : Nat} (hi : i ≤ j) (hj : j ≤ ds.length) : FP.cutD ds (some (i : Int)) (some (j : Int)) = (ds.drop i).take (j - i) := by
  unfold FP.cutD
  rw [HT.sIx_nat, HT.sIx_nat, Nat.min_eq_left hj, Nat.min_eq_left (Nat.le_trans hi hj)]
theorem cut_seg (cs : List PyData) {f l : Nat} (h1 : f ≤ l) (h2 : l < cs.length) : FP.cutD cs (some (f : Int)) (some ((l + 1 : Nat) : Int)) = seg cs f l := cut_mid cs (by omega) (by omega)
section
variable {P : Program} {w : World} {K : PySem.W.Frag} {mg : Str → Option Value} {base : Heap} {f C CF CB : Addr} {fd : FuncData}
/-! ### put_of -/
def frPo : List PyData → Rs → Prop := fun ds q => ∃ (r a b : Nat) (cs : List PyData), SpanOk cs (a, b) ∧ (∀ y ∈ cs, isCell y = true) ∧ cs.length ≤ 20 ∧ ds = [.int (r : Int), .int (a : Int), .int (b : Int), .tuple cs] ∧ q = .ok (putOf r cs (a, b)).d
abbrev NPo : List Str := ["row", "first", "last", "cells", "text", "cell"]
theorem sc_po : FnScope NPo ["row", "first", "last", "cells"] (defScope s_put_of) := ⟨rfl, rfl, rfl, by decide +kernel, rfl, by decide +kernel, by decide +kernel⟩
theorem cell_sg {y : PyData} (h : isCell y = true) : ∃ k, y = .tuple [.str ⟨#[sgN y]⟩, .int k] ∧ k = (inkN y : Int) := ⟨_, (cell_eq h).1, rfl⟩
theorem ok_po (F : Df K "put_of" s_put_of f fd) (hm : mg "put_of" = some (.ref f)) : DefOk P w K mg base 1 "put_of" frPo := by
  refine def_ok F hm sc_po (fun _ _ _ _ _ _ us hl => match us, hl with | [_, _, _, _], _ => rfl) (fun ds r h => by obtain ⟨_, _, _, _, _, _, _, rfl, _⟩ := h; rfl) (fun cdv A outer sh H E qs ds q hr h => ?_)
  obtain ⟨r, a, b, cs, so, hc, hl, rfl, rfl⟩ := h
  have le : a ≤ b := so.le
  have lt : b < cs.length := so.lt
  have sl := seg_len le lt
  refine sd_set 4 (d := .str (textOf cs (a, b))) (PD.eq (pd_join (ys := ((seg cs a b).map sgN).map fun c => (⟨#[c]⟩ : Str)) pd_str (PN.pl (pn_lc (y := "cell") (j := 5) (items := seg cs a b) (ys := (((seg cs a b).map sgN).map fun c => (⟨#[c]⟩ : Str)).map .str) rfl sc_po.nd (PWk.ws (wk_tup (PD.eq (pd_slT (i := some (a : Int)) (j := some ((b + 1 : Nat) : Int)) (pd_var 3) ⟨_, rfl, pd_var 1⟩ ⟨_, rfl, PD.eq (pd_add (pd_var 2) pd_int) (by rw [Int.natCast_add]; rfl)⟩) (by rw [cut_seg cs le lt])))) (by simp) (blkOk_by (N := NPo) (sc := defScope s_put_of) (by decide +kernel)) (fun _ _ _ _ _ => pg_name sc_po.nd rfl (Or.inl rfl)) ?el (by rw [sl]; omega))) ?sz) (by rw [glued_ones]; rfl)) ?rest sc_po.nd
  case sz =>
    have e1 : ∀ cs : List Nat, ((cs.map fun c => (⟨#[c]⟩ : Str)).map (·.length)).sum = cs.length := by
      intro cs
      induction cs with
      | nil => rfl
      | cons c cs ih =>
        rw [List.map_cons, List.map_cons, List.sum_cons, ih, List.length_cons]
        show 1 + cs.length = _
        omega
    have e2 : (Str.ofString "").length = 0 := by decide +kernel
    rw [e1, e2, List.length_map, sl]
    omega
  case el =>
    intro i d y hd hy D o s H C cl fp
    rw [List.getElem?_map, List.getElem?_map, List.getElem?_map, hd] at hy
    cases hy
    obtain ⟨k, e, _⟩ := cell_sg (hc d (seg_mem (List.mem_of_getElem? hd)))
    exact pd_ixT (ds := [.str ⟨#[sgN d]⟩, .int k]) (PD.eq (pd_var 5) e) pd_int atI0
  case rest =>
    have ha : a < cs.length := by omega
    have hy : cs[a]? = some cs[a] := List.getElem?_eq_getElem ha
    have eg : cs.getD a .none = cs[a] := by rw [List.getD_eq_getElem?_getD, hy]; rfl
    obtain ⟨k, e, ek⟩ := cell_sg (hc _ (List.getElem_mem ha))
    refine sd_ret (d := (putOf r cs (a, b)).d) (PD.eq (pd_tup (pds_cons pd_str (pds_cons (pd_var 0) (pds_cons (pd_var 1) (pds_cons (pd_ixT (d := .int k) (pd_ixT (d := .tuple [.str ⟨#[sgN cs[a]]⟩, .int k]) (pd_var 3) (pd_var 1) (atI_nat (by rw [hy]; exact congrArg some e))) pd_int atI1) (pds_cons (pd_var 4) pds_nil)))))) ?_) rfl
    show _ = PyData.tuple [.str "put", .int (r : Int), .int (a : Int), .int ((inkN (cs.getD a .none) : Nat) : Int), .str (textOf cs (a, b))]
    rw [eg, ek]
/-! ### is_worth_joining -/
def frWj : List PyData → Rs → Prop := fun ds q => ∃ (a b : Nat) (cs : List PyData), a ≤ b ∧ b < cs.length ∧ (∀ y ∈ cs, isCell y = true) ∧ cs.length ≤ 20 ∧ ds = [.tuple cs, .int (a : Int), .int (b : Int)] ∧ q = .ok (.bool (worth cs a b))
abbrev NWj : List Str := ["cells", "last", "column", "inks", "cell"]
theorem sc_wj : FnScope NWj ["cells", "last", "column"] (defScope s_is_worth_joining) := ⟨rfl, rfl, rfl, by decide +kernel, rfl, by decide +kernel, by decide +kernel⟩
theorem alike_seg {cs : List PyData} {a b : Nat} (h1 : a ≤ b) (h2 : b < cs.length) : alike cs a b ↔ ∀ y ∈ seg cs a b, inkN y = inkN (cs.getD a .none) := by
  constructor
  · intro h y hy
    obtain ⟨j, hj⟩ := List.getElem?_of_mem hy
    have hl := (List.getElem?_eq_some_iff.mp hj).1
    rw [seg_len h1 h2] at hl
    have e := seg_at (new := cs) (f := a) (l := b) (i := a + j) (by omega) (by omega)
    rw [show a + j - a = j by omega, hj] at e
    have := h (a + j) (by omega) (by omega)
    rwa [List.getD_eq_getElem?_getD, ← e] at this
  · intro h i hi1 hi2
    have e := seg_at (new := cs) (f := a) (l := b) hi1 hi2
    have hi : i < cs.length := by omega
    rw [List.getElem?_eq_getElem hi] at e
    have := h _ (List.mem_of_getElem? e)
    have eg : cs.getD i .none = cs[i] := by rw [List.getD_eq_getElem?_getD, List.getElem?_eq_getElem hi]; rfl
    rw [eg]
    exact this
theorem ok_wj (F : Df K "is_worth_joining" s_is_worth_joining f fd) (hm : mg "is_worth_joining" = some (.ref f)) (B : Bl mg) (g : GlD K mg "PUT_COST" (.int 4)) : DefOk P w K mg base 1 "is_worth_joining" frWj := by
  refine def_ok F hm sc_wj (fun _ _ _ _ _ _ us hl => match us, hl with | [_, _, _], _ => rfl) (fun ds r h => by obtain ⟨_, _, _, _, _, _, _, rfl, _⟩ := h; rfl) (fun cdv A outer sh H E qs ds q hr h => ?_)
  obtain ⟨a, b, cs, le, lt, hc, hl, rfl, rfl⟩ := h
  have sl := seg_len le lt
  have ha : a < cs.length := by omega
  have eg : cs.getD a .none = cs[a] := by rw [List.getD_eq_getElem?_getD, List.getElem?_eq_getElem ha]; rfl
  refine sd_ownLc 3 (y := "cell") (j := 4) (items := seg cs a b) (ys := ((seg cs a b).map fun y => (inkN y : Int)).map .int) rfl sc_wj.nd (PWk.ws (wk_tup (PD.eq (pd_slT (i := some (a : Int)) (j := some ((b + 1 : Nat) : Int)) (pd_var 0) ⟨_, rfl, pd_var 1⟩ ⟨_, rfl, PD.eq (pd_add (pd_var 2) pd_int) (by rw [Int.natCast_add]; rfl)⟩) (by rw [cut_seg cs le lt])))) (by simp) (blkOk_by (N := NWj) (sc := defScope s_is_worth_joining) (by decide +kernel)) (fun _ _ _ _ _ => pg_name sc_wj.nd rfl (Or.inl rfl)) ?el (by rw [sl]; omega) rfl (fun D => ?rest)
  case el =>
    intro i d y hd hy D o s H C cl fp
    rw [List.getElem?_map, List.getElem?_map, hd] at hy
    cases hy
    obtain ⟨k, e, ek⟩ := cell_sg (hc d (seg_mem (List.mem_of_getElem? hd)))
    exact PD.eq (pd_ixT (ds := [.str ⟨#[sgN d]⟩, .int k]) (d := .int k) (PD.eq (pd_var 4) e) pd_int atI1) (congrArg PyData.int ek)
  case rest =>
    have e0 : (seg cs a b)[0]? = some cs[a] := by
      have e := seg_at (new := cs) (f := a) (l := b) (i := a) (Nat.le_refl _) le
      rw [Nat.sub_self] at e
      rw [e, List.getElem?_eq_getElem ha]
    have at0 : atI (((seg cs a b).map fun y => (inkN y : Int)).map PyData.int) 0 = some (.int (inkN cs[a] : Int)) := atI_nat (j := 0) (by rw [List.getElem?_map, List.getElem?_map, e0]; rfl)
    refine sd_ret (d := .bool (worth cs a b)) (PD.eq (pd_and (pd_lt (pd_sub (pd_sub (pd_var 2) (pd_var 1)) pd_int) (pd_glob g)) (fun _ => pd_one (pd_eqI (pd_count (pl_var 3 List.mem_cons_self) (pd_ixL (pl_var 3 List.mem_cons_self) pd_int at0)) (pd_lenL B.len (pl_var 3 List.mem_cons_self))))) ?_) rfl
    congr 1
    unfold worth
    congr 1
    have e1 : decide (alike cs a b) = decide (∀ y ∈ seg cs a b, inkN y = inkN (cs.getD a .none)) := by
      rw [decide_eq_decide]
      exact alike_seg le lt
    rw [e1, decide_eq_decide, eg, List.length_map]
    constructor
    · intro h y hy
      have h2 : ((seg cs a b).map fun y => (inkN y : Int)).count (inkN cs[a] : Int) = ((seg cs a b).map fun y => (inkN y : Int)).length := by omega
      have := List.count_eq_length.mp h2 _ (List.mem_map.mpr ⟨y, hy, rfl⟩)
      omega
    · intro h
      have h2 := List.count_eq_length (a := (inkN cs[a] : Int)) (l := (seg cs a b).map fun y => (inkN y : Int)) |>.mpr (fun x hx => by
        obtain ⟨y, hy, rfl⟩ := List.mem_map.mp hx
        rw [h y hy])
      omega
/-! ### spans_to_put -/
def spD (p : Nat × Nat) : PyData := .tuple [.int (p.1 : Int), .int (p.2 : Int)]
def frSp : List PyData → Rs → Prop := fun ds q => ∃ (old new : List PyData), old.length = new.length ∧ (∀ y ∈ old, isCell y = true) ∧ (∀ y ∈ new, isCell y = true) ∧ new.length ≤ 20 ∧ ds = [.tuple old, .tuple new] ∧ q = .ok (.list ((spans old new).map spD))
abbrev NSp : List Str := ["old", "new", "spans", "column", "unlike"]
theorem sc_sp : FnScope NSp ["old", "new"] (defScope s_spans_to_put) := ⟨rfl, rfl, rfl, by decide +kernel, rfl, by decide +kernel, by decide +kernel⟩
theorem pick_if {p : Nat → Bool} {g : Nat → PyData} : ∀ l : List Nat, pick (l.map fun i => if p i = true then some (g i) else none) = (l.filter p).map g
  | [] => rfl
  | i :: l => by
    have ih := pick_if (p := p) (g := g) l
    unfold pick at ih ⊢
    rw [List.map_cons, List.filter_cons, List.filterMap_cons]
    by_cases h : p i = true
    · rw [if_pos h, if_pos h]
      show g i :: _ = _
      rw [ih]
      rfl
    · rw [if_neg h, if_neg h]
      exact ih
theorem step_last (cs : List PyData) : ∀ (us : List Nat) (sp : List (Nat × Nat)), ∀ p ∈ us.foldl (stepS cs) sp, p.2 ∈ us ∨ ∃ q ∈ sp, p.2 = q.2
  | [], sp, p, hp => .inr ⟨p, hp, rfl⟩
  | c :: us, sp, p, hp => by
    rcases step_last cs us (stepS cs sp c) p hp with h | ⟨q, hq, e⟩
    · exact .inl (List.mem_cons_of_mem _ h)
    · rcases step_cases cs sp c with z | ⟨sp0, x, rfl, _, z⟩
      · rw [z] at hq
        rcases List.mem_append.mp hq with y | y
        · exact .inr ⟨q, y, e⟩
        · rw [List.mem_singleton.mp y] at e
          exact .inl (by rw [e]; exact List.mem_cons_self)
      · rw [z] at hq
        rcases List.mem_append.mp hq with y | y
        · exact .inr ⟨q, List.mem_append_left _ y, e⟩
        · rw [List.mem_singleton.mp y] at e
          exact .inl (by rw [e]; exact List.mem_cons_self)
theorem fold_len (cs : List PyData) : ∀ (us : List Nat) (sp : List (Nat × Nat)), (us.foldl (stepS cs) sp).length ≤ sp.length + us.length
  | [], sp => Nat.le_refl _
  | c :: us, sp => by
    have ih := fold_len cs us (stepS cs sp c)
    have h1 : (stepS cs sp c).length ≤ sp.length + 1 := by
      rcases step_cases cs sp c with z | ⟨sp0, x, rfl, _, z⟩
      · rw [z]; simp
      · rw [z]; simp
    show (us.foldl (stepS cs) (stepS cs sp c)).length ≤ _
    rw [List.length_cons]
    omega
theorem unlike_len (old new : List PyData) : (unlike old new).length ≤ new.length := by
  unfold unlike
  exact Nat.le_trans (List.length_filter_le _ _) (by rw [List.length_range]; exact Nat.le_refl _)
theorem ixN_last {α : Type} (xs : List α) (x : α) : ixN (xs ++ [x]).length (-1) = some xs.length := by
  unfold ixN
  rw [if_neg (by decide), if_pos (by simp; omega)]
  congr 1
  simp
  omega
theorem ok_sp (F : Df K "spans_to_put" s_spans_to_put f fd) (hm : mg "spans_to_put" = some (.ref f)) (B : Bl mg) (G : DefOk P w K mg base 1 "is_worth_joining" frWj) : DefOk P w K mg base 2 "spans_to_put" frSp := by
  refine def_ok F hm sc_sp (fun _ _ _ _ _ _ us hl => match us, hl with | [_, _], _ => rfl) (fun ds r h => by obtain ⟨_, _, _, _, _, _, rfl, _⟩ := h; rfl) (fun cdv A outer sh H E qs ds q hr h => ?_)
  obtain ⟨old, new, hl, ho, hn, h20, rfl, rfl⟩ := h
  have hr1 := hr
  refine sd_ownP 2 (pn_lst pds_nil) (fun D1 hD1 => ?_) sc_sp.nd
  refine sd_ownLcIf 4 (y := "column") (j := 3) (items := rangeD 0 ((new.length : Nat) : Int).toNat) (sel := (List.range new.length).map fun c => if decide (PyData.eqv (old.getD c .none) (new.getD c .none) = false) = true then some (.int (c : Int)) else none) rfl sc_sp.nd (PWk.ws (wk_range1 (j := (new.length : Int)) B.range (pd_lenT B.len (pd_var 1)) (by omega))) (by rw [rangeD_nat]; simp) (blkOk_by (N := NSp) (sc := defScope s_spans_to_put) (by decide +kernel)) (fun _ _ _ _ _ => pg_name sc_sp.nd rfl (Or.inl rfl)) ?ht ?he (by rw [rangeD_nat]; omega) (fun D2 => ?rest)
  case ht =>
    intro i d sv hd hy D o s H C cl fp
    obtain ⟨hi, rfl⟩ := rangeD_at hd
    have hi : i < new.length := by simpa using hi
    rw [List.getElem?_map, List.getElem?_range hi] at hy
    cases hy
    have h2 : i < old.length := by omega
    have e1 : old.getD i .none = old[i] := by rw [List.getD_eq_getElem?_getD, List.getElem?_eq_getElem h2]; rfl
    have e2 : new.getD i .none = new[i] := by rw [List.getD_eq_getElem?_getD, List.getElem?_eq_getElem hi]; rfl
    refine PTd.eq (pt_cmpd (op_neD hr.units) (rd_neD ((shp_cell (ho _ (List.getElem_mem h2))).ok (by decide)) ((shp_cell (hn _ (List.getElem_mem hi))).ok (by decide))) (pd_ixT (d := old[i]) (pd_var 0) (pd_var 3) (atI_nat (List.getElem?_eq_getElem h2))) (pd_ixT (d := new[i]) (pd_var 1) (pd_var 3) (atI_nat (List.getElem?_eq_getElem hi))) (nomark _)) ?_
    show (!PyData.eqv old[i] new[i]) = (if decide (PyData.eqv (old.getD i .none) (new.getD i .none) = false) = true then some (PyData.int (i : Int)) else none).isSome
    rw [e1, e2]
    cases PyData.eqv old[i] new[i] <;> rfl
  case he =>
    intro i d y hd hy D o s H C cl fp
    obtain ⟨hi, rfl⟩ := rangeD_at hd
    have hi : i < new.length := by simpa using hi
    rw [List.getElem?_map, List.getElem?_range hi] at hy
    have ey : y = .int (i : Int) := by
      have hy : (if decide (PyData.eqv (old.getD i .none) (new.getD i .none) = false) = true then some (PyData.int (i : Int)) else none) = some y := by injection hy
      split at hy
      · injection hy with hy
        exact hy.symm
      · cases hy
    subst ey
    exact pd_var 3
  case rest =>
    have ep : pick ((List.range new.length).map fun c => if decide (PyData.eqv (old.getD c .none) (new.getD c .none) = false) = true then some (PyData.int (c : Int)) else none) = (unlike old new).map fun (c : Nat) => PyData.int (c : Int) := pick_if _
    rw [ep]
    refine sd_forO 3 (ad := D2) (xs := (unlike old new).map fun (c : Nat) => PyData.int (c : Int)) (fun i δ' ω' => ω' = ⟨qs, [(D2, .lst (((unlike old new).map fun (c : Nat) => PyData.int (c : Int)).map .im)), (D1, .lst (((((unlike old new).take i).foldl (stepS new) []).map spD).map .im))]⟩ ∧ ∃ y3, δ' = [some (.im (.tuple old)), some (.im (.tuple new)), some (.ad D1), y3, some (.ad D2)])
      (ps1_var 4) List.mem_cons_self ⟨rfl, _, rfl⟩ (fun i δ' ω' h => by rw [h.1]; exact List.mem_cons_self) ?_ ?_ (pg_name sc_sp.nd rfl (Or.inl rfl)) (passes_of rfl) rfl
    · rintro i d δ' ω' hd ⟨rfl, y3, rfl⟩
      rw [List.getElem?_map] at hd
      obtain ⟨c, hc, rfl⟩ : ∃ c, (unlike old new)[i]? = some c ∧ PyData.int (c : Int) = d := by
        cases e : (unlike old new)[i]? with
        | none => rw [e] at hd; cases hd
        | some c => rw [e] at hd; exact ⟨c, rfl, by injection hd⟩
      have cl : c < new.length := List.mem_range.mp (List.mem_filter.mp (List.mem_of_getElem? hc)).1
      have hsn : ((unlike old new).take (i + 1)).foldl (stepS new) [] = stepS new (((unlike old new).take i).foldl (stepS new) []) c := by
        rw [List.take_add_one, hc, List.foldl_append]
        rfl
      have lts : ∀ p ∈ ((unlike old new).take i).foldl (stepS new) [], p.2 < c := by
        intro p hp
        rcases step_last new _ [] p hp with z | ⟨q, hq, _⟩
        · obtain ⟨j, hj⟩ := List.getElem?_of_mem z
          have hji : j < i := by
            have := (List.getElem?_eq_some_iff.mp hj).1
            rw [List.length_take] at this
            omega
          rw [List.getElem?_take_of_lt hji] at hj
          obtain ⟨h1, e1⟩ := List.getElem?_eq_some_iff.mp hj
          obtain ⟨h2, e2⟩ := List.getElem?_eq_some_iff.mp hc
          have := List.pairwise_iff_getElem.mp (unlike_pw old new) j i h1 h2 hji
          omega
        · exact (List.not_mem_nil hq).elim
      generalize hsp : ((unlike old new).take i).foldl (stepS new) [] = sp at hsn lts
      rcases List.eq_nil_or_concat sp with e | ⟨sp0, p, e⟩
      · subst e
        refine sd_if (kk := false) (PWd.pt (pw_andF (pt_truA (xs := []) (ps1_var 2) (List.mem_cons_of_mem _ List.mem_cons_self)))) (fun z => by cases z) (fun _ => sd_appS (j := 1) (ps1_var 2) rfl (pd_tup (pds_cons (pd_var 3) (pds_cons (pd_var 3) pds_nil))) (sd_nil (sd_nil ⟨?_, _, rfl⟩)) (by decide))
        rw [hsn]
        rfl
      · rw [List.concat_eq_append] at e
        subst e
        have hp := lts p (List.mem_append_right _ List.mem_cons_self)
        have em : (sp0 ++ [p]).map spD = sp0.map spD ++ [spD p] := by rw [List.map_append]; rfl
        have lsp : (sp0.map spD ++ [spD p]).length ≤ 21 := by
          rw [← em, List.length_map, ← hsp]
          exact Nat.le_trans (fold_len new _ []) (by rw [List.length_take]; simp; have := unlike_len old new; omega)
        have es : stepS new (sp0 ++ [p]) c = if worth new p.2 c = true then sp0 ++ [(p.1, c)] else (sp0 ++ [p]) ++ [(c, c)] := by
          unfold stepS
          rw [show (sp0 ++ [p]).getLast? = some p by rw [List.getLast?_append]; rfl]
          show (if worth new p.2 c = true then (sp0 ++ [p]).dropLast ++ [(p.1, c)] else _) = _
          rw [List.dropLast_concat]
        rw [em]
        refine sd_if (PWd.pt (pw_andd (pt_truA (ps1_var 2) (List.mem_cons_of_mem _ List.mem_cons_self)) (fun _ => pw_and1d (pt_bool (pd_call G hr1 (pds_cons (pd_var 1) (pds_cons (pd_ixT (ds := [.int (p.1 : Int), .int (p.2 : Int)]) (d := .int (p.2 : Int)) (pd_ixL (d := spD p) (pl_var 2 (List.mem_cons_of_mem _ List.mem_cons_self)) (pd_neg pd_int) atI_last) pd_int atI1) (pds_cons (pd_var 3) pds_nil))) ⟨p.2, c, new, by omega, cl, hn, h20, rfl, rfl⟩))))) (fun hk => ?_) (fun hk => ?_)
        · have hwt : worth new p.2 c = true := (Bool.and_eq_true_iff.mp hk).2
          refine sd_lsetK (c := D1) (n := sp0.length) (k := -1) (PD.ex (d := spD (p.1, c)) (pd_tup (pds_cons (pd_ixT (ds := [.int (p.1 : Int), .int (p.2 : Int)]) (d := .int (p.1 : Int)) (pd_ixL (d := spD p) (pl_var 2 (List.mem_cons_of_mem _ List.mem_cons_self)) (pd_neg pd_int) atI_last) pd_int atI0) (pds_cons (pd_var 3) pds_nil))) ⟨1, (sp0.map spD ++ [spD p]).map .im, ps1_var 2, rfl, pd_neg pd_int, by rw [List.length_map, ixN_last, List.length_map], sd_nil (sd_nil ⟨?_, _, rfl⟩)⟩)
          rw [hsn, es, if_pos hwt]
          have e9 : ((sp0.map spD ++ [spD p]).map Sd.im).set sp0.length (Sd.im (spD (p.1, c))) = ((sp0 ++ [(p.1, c)]).map spD).map Sd.im := by
            rw [List.map_append, List.set_append_right _ _ (by rw [List.length_map, List.length_map]; exact Nat.le_refl _), List.length_map, List.length_map, Nat.sub_self, List.map_append, List.map_append]
            rfl
          show (⟨qs, [_, (D1, .lst (((sp0.map spD ++ [spD p]).map Sd.im).set sp0.length (Sd.im (spD (p.1, c)))))]⟩ : Om) = _
          rw [e9]
        · have hwf : ¬ worth new p.2 c = true := fun hw => by
            rw [hw, Bool.and_true] at hk
            have : ((sp0.map spD ++ [spD p]).map Sd.im).isEmpty = false := by simp
            rw [this] at hk
            cases hk
          refine sd_appS (j := 1) (ps1_var 2) rfl (pd_tup (pds_cons (pd_var 3) (pds_cons (pd_var 3) pds_nil))) (sd_nil (sd_nil ⟨?_, _, rfl⟩)) (by rw [List.length_map]; omega)
          rw [hsn, es, if_neg hwf]
          have e9 : ((sp0.map spD ++ [spD p]).map Sd.im) ++ [Sd.im (spD (c, c))] = (((sp0 ++ [p]) ++ [(c, c)]).map spD).map Sd.im := by simp
          show (⟨qs, [_, (D1, .lst (((sp0.map spD ++ [spD p]).map Sd.im) ++ [Sd.im (spD (c, c))]))]⟩ : Om) = _
          rw [e9]
    · rintro δ' ω' ⟨rfl, y3, rfl⟩
      rw [List.length_map, List.take_length]
      exact sd_retP 2 (List.mem_cons_of_mem _ List.mem_cons_self) hD1 rfl
end
end K96

namespace K96
open PySem PySem.Spec PyProof.Rows L2 FP
/-! ### the law's parts -/
def abS : List Nat := [97, 98, 32, 94, 126]
theorem abS_ok : ∀ i, okSign (abS.getD i 97) = true := by
  intro i
  match i with
  | 0 => decide +kernel
  | 1 => decide +kernel
  | 2 => decide +kernel
  | 3 => decide +kernel
  | 4 => decide +kernel
  | i + 5 => exact (show okSign 97 = true by decide +kernel)
def txtL (x : Int) (n : Nat) : List Nat := (List.range n).map fun (j : Nat) => abS.getD (drawn x j % 5).toNat 97
def txt (x : Int) (n : Nat) : Str := ⟨(txtL x n).toArray⟩
theorem txtL_len (x : Int) (n : Nat) : (txtL x n).length = n := by
  unfold txtL
  simp
theorem txt_len (x : Int) (n : Nat) : (txt x n).length = n := by
  show (txtL x n).toArray.size = n
  rw [List.size_toArray, txtL_len]
def rlS : List Int := [1, -1, 2, -10, 10]
def rwL (m : Int) (h : Nat) : Nat := (m / 64 % (h : Int)).toNat
def colL (m : Int) (wd : Nat) : Nat := (m / 1024 % (wd : Int)).toNat
def manyL (m : Int) (wd : Nat) : Nat := (1 + m / 1048576 % ((wd : Int) - (colL m wd : Int))).toNat
def partL (m : Int) (h wd : Nat) : Pt :=
  if m % 4 = 0 then .roll (rlS.getD (m / 8 % 5).toNat 1)
  else if m % 4 = 1 then .cur (rwL m h) (colL m wd)
  else .put (rwL m h) (colL m wd) (m / 65536 % 8).toNat (txt m (manyL m wd))
theorem rwL_b (m : Int) {h : Nat} (h1 : 1 ≤ h) : rwL m h < h ∧ m / 64 % (h : Int) = (rwL m h : Int) := by
  obtain ⟨j, e, l⟩ := mod_nat (m / 64) h h1
  unfold rwL
  rw [e]
  exact ⟨l, rfl⟩
theorem colL_b (m : Int) {wd : Nat} (w1 : 1 ≤ wd) : colL m wd < wd ∧ m / 1024 % (wd : Int) = (colL m wd : Int) := by
  obtain ⟨j, e, l⟩ := mod_nat (m / 1024) wd w1
  unfold colL
  rw [e]
  exact ⟨l, rfl⟩
theorem manyL_b (m : Int) {wd : Nat} (w1 : 1 ≤ wd) : 1 ≤ manyL m wd ∧ colL m wd + manyL m wd ≤ wd ∧ 1 + m / 1048576 % ((wd : Int) - (colL m wd : Int)) = (manyL m wd : Int) := by
  obtain ⟨c1, _⟩ := colL_b m w1
  have q1 := Int.emod_nonneg (m / 1048576) (show (wd : Int) - (colL m wd : Int) ≠ 0 by omega)
  have q2 := Int.emod_lt_of_pos (m / 1048576) (show (0 : Int) < (wd : Int) - (colL m wd : Int) by omega)
  unfold manyL
  omega
theorem rlS_ok : ∀ i, -10 ≤ rlS.getD i 1 ∧ rlS.getD i 1 ≤ 10 ∧ rlS.getD i 1 ≠ 0 := by
  intro i
  match i with
  | 0 => decide
  | 1 => decide
  | 2 => decide
  | 3 => decide
  | 4 => decide
  | i + 5 => exact (show (-10 : Int) ≤ 1 ∧ (1 : Int) ≤ 10 ∧ (1 : Int) ≠ 0 by decide)
theorem partL_ok (m : Int) {h wd : Nat} (w1 : 1 ≤ wd) (w2 : wd ≤ 20) : (partL m h wd).Ok := by
  unfold partL
  split
  · exact rlS_ok _
  · split
    · trivial
    · obtain ⟨a1, a2, a3⟩ := manyL_b m w1
      refine ⟨?_, by rw [txt_len]; exact a1, by rw [txt_len]; omega, fun c hc => ?_⟩
      · have q1 := Int.emod_nonneg (m / 65536) (show (8 : Int) ≠ 0 by decide)
        have q2 := Int.emod_lt_of_pos (m / 65536) (show (0 : Int) < 8 by decide)
        omega
      · have hc : c ∈ (txtL m (manyL m wd)).toArray.toList := hc
        rw [List.toList_toArray] at hc
        unfold txtL at hc
        obtain ⟨j, _, rfl⟩ := List.mem_map.mp hc
        exact abS_ok _
/-- it can be done -/
theorem partL_done (m : Int) {s : Sc} (h1 : 1 ≤ s.h) (w1 : 1 ≤ s.w) : ∃ t, s.part (partL m s.h s.w) = some t := by
  obtain ⟨r1, _⟩ := rwL_b m h1
  obtain ⟨c1, _⟩ := colL_b m w1
  obtain ⟨a1, a2, a3⟩ := manyL_b m w1
  unfold partL
  split
  · exact ⟨_, rfl⟩
  · split
    · exact ⟨_, if_pos ⟨r1, c1⟩⟩
    · exact ⟨_, if_pos ⟨r1, by rw [txt_len]; exact a2⟩⟩
section
variable {P : Program} {w : World} {K : PySem.W.Frag} {mg : Str → Option Value} {base : Heap} {f C CF CB : Addr} {fd : FuncData}
def frLPart : List PyData → Rs → Prop := fun ds q => ∃ (m : Int) (h wd : Nat), 1 ≤ h ∧ h ≤ 10 ∧ 1 ≤ wd ∧ wd ≤ 20 ∧ ds = [.int m, .int (h : Int), .int (wd : Int)] ∧ q = .ok (partL m h wd).d
abbrev NLp : List Str := ["_law_more", "_law_height", "_law_width", "_law_row", "_law_column", "_law_many", "_law_j"]
end
end K96

namespace K96
open PySem PySem.Spec PyProof.Rows L2 FP
/-! ### there is a list that is sorted so -/
def leA (x y : Int) : Bool := decide (absI x ≤ absI y)
theorem sorted_ex (ns : List Int) : AbsSorted (ns.mergeSort leA) ns := by
  have tr : ∀ a b c : Int, leA a b = true → leA b c = true → leA a c = true := fun a b c h1 h2 => by
    have h1 := of_decide_eq_true h1
    have h2 := of_decide_eq_true h2
    exact decide_eq_true (Int.le_trans h1 h2)
  have to : ∀ a b : Int, (leA a b || leA b a) = true := fun a b => by
    by_cases h : absI a ≤ absI b
    · rw [show leA a b = true from decide_eq_true h]
      rfl
    · rw [show leA b a = true from decide_eq_true (by omega), Bool.or_true]
  have pm : (ns.mergeSort leA).Perm ns := List.mergeSort_perm ns leA
  refine ⟨pm, (List.pairwise_mergeSort tr to ns).imp fun h => of_decide_eq_true h, fun z => ?_⟩
  have pw : (ns.filter fun x => absI x == z).Pairwise fun a b => leA a b = true := by
    rw [List.pairwise_iff_forall_sublist]
    intro a b hab
    have ma : a ∈ ns.filter fun x => absI x == z := hab.subset List.mem_cons_self
    have mb : b ∈ ns.filter fun x => absI x == z := hab.subset (List.mem_cons_of_mem _ List.mem_cons_self)
    have ea : absI a = z := by simpa using (List.mem_filter.mp ma).2
    have eb : absI b = z := by simpa using (List.mem_filter.mp mb).2
    exact decide_eq_true (by omega)
  have sb := List.sublist_mergeSort tr to pw List.filter_sublist
  have sb2 := sb.filter fun x => absI x == z
  rw [List.filter_filter] at sb2
  have e1 : (ns.filter fun x => (absI x == z) && (absI x == z)) = ns.filter fun x => absI x == z := List.filter_congr fun x _ => Bool.and_self _
  rw [e1] at sb2
  exact (sb2.eq_of_length (pm.filter _).length_eq.symm).symm
theorem rolls_ok (ns : List Int) : AbsSorted (rollsOf ns) ns := (rolls_is (sorted_ex ns)).2
/-! ### the first of least cost -/
structure Best (l : List (List Pt)) (i : Nat) : Prop where
  lt : i < l.length
  best : ∀ j, j < l.length → costs (l.getD i []) ≤ costs (l.getD j []) ∧ (j < i → costs (l.getD i []) < costs (l.getD j []))
theorem best_one {l : List (List Pt)} {i j : Nat} (a : Best l i) (b : Best l j) : i = j := by
  have h1 := a.best j b.lt
  have h2 := b.best i a.lt
  by_cases h : i = j
  · exact h
  · rcases Nat.lt_or_gt_of_ne h with z | z
    · have := h2.2 z
      have := h1.1
      omega
    · have := h1.2 z
      have := h2.1
      omega
theorem best_ex (l : List (List Pt)) : ∀ n, n < l.length → ∃ i, i ≤ n ∧ ∀ j, j ≤ n → costs (l.getD i []) ≤ costs (l.getD j []) ∧ (j < i → costs (l.getD i []) < costs (l.getD j []))
  | 0, _ => ⟨0, Nat.le_refl _, fun j hj => by
    have : j = 0 := by omega
    subst this
    exact ⟨Int.le_refl _, fun h => absurd h (Nat.lt_irrefl _)⟩⟩
  | n + 1, hn => by
    obtain ⟨i, hi, hb⟩ := best_ex l n (by omega)
    by_cases h : costs (l.getD (n + 1) []) < costs (l.getD i [])
    · refine ⟨n + 1, Nat.le_refl _, fun j hj => ?_⟩
      by_cases e : j = n + 1
      · subst e
        exact ⟨Int.le_refl _, fun z => absurd z (Nat.lt_irrefl _)⟩
      · have := (hb j (by omega)).1
        exact ⟨by omega, fun _ => by omega⟩
    · refine ⟨i, by omega, fun j hj => ?_⟩
      by_cases e : j = n + 1
      · subst e
        exact ⟨by omega, fun z => absurd z (by omega)⟩
      · exact hb j (by omega)
open Classical in
noncomputable def bestOf (l : List (List Pt)) : List Pt := if h : ∃ i, Best l i then l.getD (Classical.choose h) [] else []
theorem bestOf_is {l : List (List Pt)} {i : Nat} (b : Best l i) : bestOf l = l.getD i [] := by
  have hex : ∃ i, Best l i := ⟨i, b⟩
  unfold bestOf
  rw [dif_pos hex, best_one (Classical.choose_spec hex) b]
theorem bestOf_ex {l : List (List Pt)} (h : 0 < l.length) : ∃ i, Best l i := by
  obtain ⟨i, hi, hb⟩ := best_ex l (l.length - 1) (by omega)
  exact ⟨i, by omega, fun j hj => hb j (by omega)⟩
/-! ### the change that is told -/
noncomputable def coL (s o : Sc) : List (List Pt) := (rollsOf (rgI (1 - (s.h : Int)) ((s.h : Int) + 1))).map (chg s o)
noncomputable def coS (s o : Sc) : List Pt := bestOf (coL s o)
theorem rg_mem {a b x : Int} : x ∈ rgI a b ↔ a ≤ x ∧ x < b := by
  unfold rgI
  rw [List.mem_map]
  constructor
  · rintro ⟨i, hi, rfl⟩
    have := List.mem_range.mp hi
    omega
  · intro h
    exact ⟨(x - a).toNat, List.mem_range.mpr (by omega), by omega⟩
/-- by 0 comes first -/
theorem rolls_head {h : Nat} (h1 : 1 ≤ h) : ∃ t, rollsOf (rgI (1 - (h : Int)) ((h : Int) + 1)) = 0 :: t ∧ ∀ x ∈ t, x ≠ 0 := by
  have S := rolls_ok (rgI (1 - (h : Int)) ((h : Int) + 1))
  have m0 : (0 : Int) ∈ rollsOf (rgI (1 - (h : Int)) ((h : Int) + 1)) := S.perm.mem_iff.mpr (rg_mem.mpr ⟨by omega, by omega⟩)
  have f0 := S.stay 0
  have fz : (rgI (1 - (h : Int)) ((h : Int) + 1)).filter (fun x => absI x == 0) = [0] := by
    have nd : (rgI (1 - (h : Int)) ((h : Int) + 1)).Nodup := by
      unfold rgI
      show List.Pairwise (· ≠ ·) _
      rw [List.pairwise_map]
      exact List.nodup_range.imp fun {x y} hne e => hne (by omega)
    have all : ∀ x ∈ (rgI (1 - (h : Int)) ((h : Int) + 1)).filter (fun x => absI x == 0), x = 0 := fun x hx => by
      have e : absI x = 0 := by simpa using (List.mem_filter.mp hx).2
      unfold absI at e
      split at e <;> omega
    have mem : (0 : Int) ∈ (rgI (1 - (h : Int)) ((h : Int) + 1)).filter (fun x => absI x == 0) := List.mem_filter.mpr ⟨rg_mem.mpr ⟨by omega, by omega⟩, rfl⟩
    have ndf := nd.filter (fun x => absI x == 0)
    generalize (rgI (1 - (h : Int)) ((h : Int) + 1)).filter (fun x => absI x == 0) = F at all mem ndf
    match F with
    | [] => exact (List.not_mem_nil mem).elim
    | [x] => rw [all x List.mem_cons_self]
    | x :: y :: r =>
      have e1 := all x List.mem_cons_self
      have e2 := all y (List.mem_cons_of_mem _ List.mem_cons_self)
      exact absurd (List.mem_cons_self (a := y) (l := r)) (by rw [e2, ← e1]; exact (List.nodup_cons.mp ndf).1 ∘ fun z => by rw [e1, ← e2]; exact List.mem_cons_self)
  rw [fz] at f0
  have od := S.ord
  generalize rollsOf (rgI (1 - (h : Int)) ((h : Int) + 1)) = R at m0 f0 od
  match R with
  | [] => exact (List.not_mem_nil m0).elim
  | x :: t =>
    obtain ⟨a, _⟩ := List.pairwise_cons.mp od
    have x0 : x = 0 := by
      rcases List.mem_cons.mp m0 with e | e
      · exact e.symm
      · have := a 0 e
        have z0 : absI 0 = 0 := rfl
        rw [z0] at this
        unfold absI at this
        split at this <;> omega
    subst x0
    refine ⟨t, rfl, fun y hy e => ?_⟩
    subst e
    rw [List.filter_cons, if_pos (show (absI 0 == 0) = true from rfl)] at f0
    injection f0 with _ f1
    have := List.filter_eq_nil_iff.mp f1 0 hy
    exact this rfl
theorem coL_pos {s o : Sc} (h1 : 1 ≤ s.h) : 0 < (coL s o).length := by
  obtain ⟨t, e, _⟩ := rolls_head h1
  unfold coL
  rw [e]
  exact Nat.succ_pos _
theorem coS_of {s o : Sc} (h1 : 1 ≤ s.h) (h10 : s.h ≤ 10) : ∃ b : Int, -10 ≤ b ∧ b ≤ 10 ∧ coS s o = chg s o b := by
  obtain ⟨i, b⟩ := bestOf_ex (coL_pos (o := o) h1)
  have lt := b.lt
  have e := bestOf_is b
  unfold coL at lt e
  rw [List.length_map] at lt
  have hm := (rolls_ok (rgI (1 - (s.h : Int)) ((s.h : Int) + 1))).perm.mem_iff.mp (List.getElem_mem lt)
  have hb := rg_mem.mp hm
  refine ⟨(rollsOf (rgI (1 - (s.h : Int)) ((s.h : Int) + 1)))[i], by omega, by omega, e.trans ?_⟩
  rw [List.getD_eq_getElem?_getD, List.getElem?_map, List.getElem?_eq_getElem lt]
  rfl
theorem coS_done {s o : Sc} (hs : s.Ok) (ho : o.Ok) (hh : o.h = s.h) (hw : o.w = s.w) : s.all (coS s o) = some o ∧ ∀ p ∈ coS s o, p.Ok := by
  have hr := hs.hr
  obtain ⟨b, h1, h2, e⟩ := coS_of (o := o) (show 1 ≤ s.h by omega) hs.h10
  rw [e]
  exact ⟨chg_done hs ho hh hw b, chg_ok hs ho hh hw h1 h2⟩
theorem coS_first {s o : Sc} (h1 : 1 ≤ s.h) (hc : ∀ b : Int, b ≠ 0 → costs (chg s o 0) ≤ costs (chg s o b)) : coS s o = chg s o 0 := by
  obtain ⟨t, e, nz⟩ := rolls_head h1
  have el : coL s o = chg s o 0 :: t.map (chg s o) := by
    unfold coL
    rw [e]
    rfl
  have b : Best (coL s o) 0 := ⟨coL_pos h1, fun j hj => ⟨?_, fun z => absurd z (Nat.not_lt_zero _)⟩⟩
  · have := bestOf_is b
    rw [el] at this
    unfold coS
    rw [el]
    exact this
  · rw [el] at hj ⊢
    cases j with
    | zero => exact Int.le_refl _
    | succ j =>
      have hj : j < t.length := by
        have : j + 1 < (t.map (chg s o)).length + 1 := hj
        rw [List.length_map] at this
        omega
      show costs (chg s o 0) ≤ costs ((t.map (chg s o)).getD j [])
      rw [List.getD_eq_getElem?_getD, List.getElem?_map, List.getElem?_eq_getElem hj]
      exact hc _ (nz _ (List.getElem_mem hj))
/-! ### rows that are alike -/
theorem eqv_self {a : PyData} (h : isCell a = true) : PyData.eqv a a = true := (eqv_cell h h).mpr rfl
theorem spans_self {cs : List PyData} (h : ∀ y ∈ cs, isCell y = true) : spans cs cs = [] := by
  have e : unlike cs cs = [] := by
    unfold unlike
    rw [List.filter_eq_nil_iff]
    intro c hc
    have hl := List.mem_range.mp hc
    have eg : cs.getD c .none = cs[c] := by rw [List.getD_eq_getElem?_getD, List.getElem?_eq_getElem hl]; rfl
    rw [eg, eqv_self (h _ (List.getElem_mem hl))]
    decide
  unfold spans
  rw [e]
  rfl
theorem puts_self {s : Sc} (hs : s.Ok) : ∀ n, n ≤ s.h → putsTo s.rows s.rows n = []
  | 0, _ => rfl
  | n + 1, hn => by
    obtain ⟨a1, a2, a3⟩ := hs.row_at (show n < s.h by omega)
    rw [putsTo_succ, puts_self hs n (by omega)]
    unfold putsAt
    rw [spans_self a3]
    rfl
theorem chg0 {s o : Sc} (hs : s.Ok) (hr : o.rows = s.rows) : chg s o 0 = if s.row = o.row ∧ s.col = o.col then [] else [Pt.cur o.row o.col] := by
  unfold chg
  rw [roll0, hr, puts_self hs s.h (Nat.le_refl _)]
  rfl
theorem costs_app (ps qs : List Pt) : costs (ps ++ qs) = costs ps + costs qs := by
  unfold costs costL
  rw [List.map_append, List.sum_append]
theorem costs_nn : ∀ ps : List Pt, 0 ≤ costs ps
  | [] => Int.le_refl _
  | p :: ps => by
    have := costs_nn ps
    show 0 ≤ ((p.cost : Nat) : Int) + costs ps
    omega
/-- faces with the same rows: only the cursor is told -/
theorem coS_rows {s o : Sc} (hs : s.Ok) (hr : o.rows = s.rows) : coS s o = if s.row = o.row ∧ s.col = o.col then [] else [Pt.cur o.row o.col] := by
  have h := hs.hr
  rw [← chg0 hs hr]
  refine coS_first (by omega) fun b hb => ?_
  rw [chg0 hs hr]
  unfold chg
  rw [costs_app]
  have := costs_nn ((if b ≠ 0 then [Pt.roll b] else []) ++ putsTo (rollA s.rows s.w b) o.rows s.h)
  omega
theorem coS_self {s : Sc} (hs : s.Ok) : coS s s = [] := by
  rw [coS_rows hs rfl, if_pos ⟨rfl, rfl⟩]
end K96

namespace K96
open PySem PySem.Spec PyProof.Rows L2 FP
section
variable {P : Program} {w : World} {K : PySem.W.Frag} {mg : Str → Option Value} {base : Heap} {f C : Addr} {fd : FuncData}
/-! ### a face of a size -/
theorem face_ok {h wd r c : Nat} {d : PyData} {rs : List PyData} (F : Fc h wd d rs r c) : frFace C [d] (.ok .none) := by
  refine ⟨d, rfl, ?_, F.small⟩
  rw [F.face]
  rfl
theorem rd_neI' {K : PySem.W.Frag} {m n : Nat} (h : m = n) : RD K rNe (.int (m : Int)) (.int (n : Int)) (.bool false) := by
  have z := rd_neI (K := K) (i := (m : Int)) (j := (n : Int))
  rw [decide_eq_true (show (m : Int) = (n : Int) by omega)] at z
  exact z
def hgt : PyData → Int
  | .tuple (.tuple rs :: _) => rs.length
  | _ => 0
def wid : PyData → Int
  | .tuple (.tuple (.tuple c :: _) :: _) => c.length
  | _ => 0
def faceOf (d : PyData) (h w : Int) : Bool := isFace d && (decide (hgt d = h) && decide (wid d = w))
def frFos (C : Addr) : List PyData → Rs → Prop := fun ds s => ∃ (d : PyData) (h w : Int), ds = [d, .int h, .int w] ∧ smF d ∧ s = if faceOf d h w then .ok .none else .er C
theorem sc_fos : FnScope ["face", "height", "width", "rows"] ["face", "height", "width"] (defScope s_need_face_of_size) := ⟨rfl, rfl, rfl, by decide +kernel, rfl, by decide +kernel, by decide +kernel⟩
theorem face_form {d : PyData} (h : isFace d = true) : ∃ c0 rs a b, d = .tuple [.tuple (.tuple c0 :: rs), a, b] := by
  unfold isFace at h
  split at h
  · rename_i x a b
    simp only [Bool.and_eq_true] at h
    obtain ⟨c0, rs, rfl⟩ := rows_of h.1
    exact ⟨c0, rs, a, b, rfl⟩
  · cases h
theorem ok_fos (F : Df K "need_face_of_size" s_need_face_of_size f fd) (hm : mg "need_face_of_size" = some (.ref f)) (B : Bl mg) (X1 : ExcF K mg "BadFace" C) (G1 : DefOk P w K mg base 5 "need_face" (frFace C)) : DefOk P w K mg base 6 "need_face_of_size" (frFos C) := by
  refine def_ok F hm sc_fos (fun _ _ _ _ _ _ us hl => match us, hl with | [_, _, _], _ => rfl) (fun ds r h => by obtain ⟨_, _, _, rfl, _⟩ := h; rfl) (fun cdv A outer s H E qs ds r0 hr h => ?_)
  obtain ⟨d, h, wd, rfl, sm, rfl⟩ := h
  have tk : L2N.Takes (cxOf (L2N.CX P w) P w K mg base ["face", "height", "width", "rows"] "need_face_of_size" (defScope s_need_face_of_size) f cdv A outer s H E) (WOf E) := L2N.takes_of rfl rfl rfl rfl
  refine sd_callX G1 hr tk (pds_cons (pd_var 0) pds_nil) ⟨d, rfl, rfl, sm⟩ (fun d1 e1 => ?_) (fun Z e1 => ?_)
  · have hf : isFace d = true := by
      cases e : isFace d with
      | true => rfl
      | false =>
        rw [e] at e1
        cases e1
    obtain ⟨c0, rs, a, b, rfl⟩ := face_form hf
    refine sd_set 3 (pd_ixT (pd_var 0) pd_int atI0) ?_ sc_fos.nd
    refine sd_if (PWd.pt (pw_ord (pt_cmpd op_ne rd_neI (pd_lenT B.len (pd_var 3)) (pd_var 1) (nomark _)) (fun _ => pw_or1d (pt_cmpd op_ne rd_neI (pd_lenT B.len (pd_ixT (pd_var 3) pd_int atI0)) (pd_var 2) (nomark _))))) (fun hk => ?_) (fun hk => sd_nil (sd_nil ?_))
    · refine sd_raise X1 tk ?_ rfl
      show (if faceOf _ h wd = true then Rs.ok PyData.none else Rs.er C) = Rs.er C
      rw [if_neg]
      unfold faceOf
      rw [hf]
      simp only [Bool.or_eq_true, Bool.not_eq_true', decide_eq_false_iff_not] at hk
      simp only [Bool.true_and, Bool.and_eq_true, decide_eq_true_eq]
      rintro ⟨z1, z2⟩
      rcases hk with hk | hk
      · exact hk z1
      · exact hk z2
    · show (if faceOf _ h wd = true then Rs.ok PyData.none else Rs.er C) = Rs.ok PyData.none
      rw [if_pos]
      unfold faceOf
      rw [hf]
      simp only [Bool.or_eq_false_iff, Bool.not_eq_false', decide_eq_true_eq] at hk
      simp only [Bool.true_and, Bool.and_eq_true, decide_eq_true_eq]
      exact hk
  · have hf : isFace d = false := by
      cases e : isFace d with
      | false => rfl
      | true =>
        rw [e] at e1
        cases e1
    rw [hf] at e1
    cases e1
    show (if faceOf d h wd = true then Rs.ok PyData.none else Rs.er C) = Rs.er C
    unfold faceOf
    rw [hf]
    rfl
theorem fos_ok {h wd r c : Nat} {d : PyData} {rs : List PyData} (F : Fc h wd d rs r c) : faceOf d h wd = true := by
  unfold faceOf
  rw [F.face]
  have e := F.eq
  have hl := F.len
  have hr := F.hr
  have row := F.row
  subst e
  match rs, hl, row with
  | [], hl, _ => simp at hl; omega
  | x0 :: rest, hl, row =>
    obtain ⟨c0, rfl, l0, _⟩ := row x0 List.mem_cons_self
    show (true && (decide ((((PyData.tuple c0 :: rest).length : Nat) : Int) = (h : Int)) && decide (((c0.length : Nat) : Int) = (wd : Int)))) = true
    rw [decide_eq_true (by omega), decide_eq_true (by omega)]
    rfl
theorem fos_no {h wd r c : Nat} {d : PyData} {rs : List PyData} {h' w' : Int} (F : Fc h wd d rs r c) (hn : (h : Int) ≠ h' ∨ (wd : Int) ≠ w') : faceOf d h' w' = false := by
  unfold faceOf
  rw [F.face]
  have e := F.eq
  have hl := F.len
  have hr := F.hr
  have row := F.row
  subst e
  match rs, hl, row with
  | [], hl, _ => simp at hl; omega
  | x0 :: rest, hl, row =>
    obtain ⟨c0, rfl, l0, _⟩ := row x0 List.mem_cons_self
    show (true && (decide ((((PyData.tuple c0 :: rest).length : Nat) : Int) = h') && decide (((c0.length : Nat) : Int) = w'))) = false
    rcases hn with hn | hn
    · rw [decide_eq_false (by omega)]
      rfl
    · rw [decide_eq_false (p := ((c0.length : Nat) : Int) = w') (by omega), Bool.and_false]
      rfl
end
section
variable {P : Program} {w : World} {K : PySem.W.Frag} {mg : Str → Option Value} {base : Heap} {f C CF CB : Addr} {fd : FuncData}
theorem Sc.hgt {s : Sc} (o : s.Ok) : hgt s.d = (s.h : Int) := by
  show ((s.rows.map PyData.tuple).length : Int) = _
  rw [List.length_map, o.len]
theorem Sc.wid {s : Sc} (o : s.Ok) : K96.wid s.d = (s.w : Int) := by
  have hl := o.len
  have hr := o.hr
  match h : s.rows, hl with
  | [], hl => simp at hl; omega
  | c0 :: rest, _ =>
    have w0 := (o.wid c0 (by rw [h]; exact List.mem_cons_self)).1
    unfold K96.wid Sc.d
    rw [h]
    show ((c0.length : Nat) : Int) = _
    rw [w0]
def frSo : List PyData → Rs → Prop := fun ds q => ∃ s : Sc, s.Ok ∧ ds = [s.d] ∧ q = .ok (.tuple [.int (s.h : Int), .int (s.w : Int)])
theorem sc_so : FnScope ["face"] ["face"] (defScope s_size_of) := ⟨rfl, rfl, rfl, by decide +kernel, rfl, by decide +kernel, by decide +kernel⟩
theorem Sc.row0 {s : Sc} (o : s.Ok) : ∃ c0 rest, s.rows = c0 :: rest ∧ c0.length = s.w := by
  have hl := o.len
  have hr := o.hr
  match h : s.rows, hl with
  | [], hl => simp at hl; omega
  | c0 :: rest, _ => exact ⟨c0, rest, rfl, (o.wid c0 (by rw [h]; exact List.mem_cons_self)).1⟩
theorem ok_so (F : Df K "size_of" s_size_of f fd) (hm : mg "size_of" = some (.ref f)) (B : Bl mg) : DefOk P w K mg base 1 "size_of" frSo := by
  refine def_ok F hm sc_so (fun _ _ _ _ _ _ us hl => match us, hl with | [_], _ => rfl) (fun ds r h => by obtain ⟨_, _, rfl, _⟩ := h; rfl) (fun cdv A outer s H E qs ds r hr h => ?_)
  obtain ⟨t, o, rfl, rfl⟩ := h
  obtain ⟨c0, rest, er, lw⟩ := Sc.row0 o
  have l1 : ((t.rows.map PyData.tuple).length : Int) = (t.h : Int) := by rw [List.length_map, o.len]
  refine sd_ret (pd_tup (pds_cons (PD.eq (pd_lenT B.len (pd_ixT (d := .tuple (t.rows.map .tuple)) (pd_var 0) pd_int atI0)) (by rw [l1])) (pds_cons (PD.eq (pd_lenT B.len (pd_ixT (d := .tuple c0) (pd_ixT (d := .tuple (t.rows.map .tuple)) (pd_var 0) pd_int atI0) pd_int (by rw [er]; exact atI0))) (by rw [lw])) pds_nil))) rfl
def frLike (C : Addr) : List PyData → Rs → Prop := fun ds q => ∃ (d : PyData) (s : Sc), s.Ok ∧ ds = [d, s.d] ∧ smF d ∧ q = if faceOf d (s.h : Int) (s.w : Int) then .ok .none else .er C
abbrev NLk : List Str := ["face", "other", "height", "width"]
theorem sc_like : FnScope NLk ["face", "other"] (defScope s_need_face_like) := ⟨rfl, rfl, rfl, by decide +kernel, rfl, by decide +kernel, by decide +kernel⟩
theorem ok_like (F : Df K "need_face_like" s_need_face_like f fd) (hm : mg "need_face_like" = some (.ref f)) (G1 : DefOk P w K mg base 1 "size_of" frSo) (G2 : DefOk P w K mg base 6 "need_face_of_size" (frFos C)) : DefOk P w K mg base 7 "need_face_like" (frLike C) := by
  refine def_ok F hm sc_like (fun _ _ _ _ _ _ us hl => match us, hl with | [_, _], _ => rfl) (fun ds r h => by obtain ⟨_, _, _, rfl, _⟩ := h; rfl) (fun cdv A outer s H E qs ds r hr h => ?_)
  obtain ⟨d, t, o, rfl, sm, rfl⟩ := h
  have tk : L2N.Takes (cxOf (L2N.CX P w) P w K mg base NLk "need_face_like" (defScope s_need_face_like) f cdv A outer s H E) (WOf E) := L2N.takes_of rfl rfl rfl rfl
  refine sd_unp [2, 3] (pd_call G1 (hr.mono (by decide)) (pds_cons (pd_var 1) pds_nil) ⟨t, o, rfl, rfl⟩) (pg_tup rfl (pgs_cons (pg_name sc_like.nd rfl (Or.inl rfl)) (pgs_cons (pg_name sc_like.nd rfl (Or.inl rfl)) pgs_nil))) rfl rfl ?_
  exact sd_callX G2 hr tk (pds_cons (pd_var 0) (pds_cons (pd_var 2) (pds_cons (pd_var 3) pds_nil))) ⟨d, _, _, rfl, sm, rfl⟩ (fun d1 e1 => sd_nil (by
    split at e1
    · rename_i hk
      show (if _ then Rs.ok PyData.none else Rs.er C) = _
      rw [if_pos hk]
    · cases e1)) (fun Z e1 => e1)
/-! ### change_of -/
theorem face_like {f1 s : Sc} (o : f1.Ok) (e1 : f1.h = s.h) (e2 : f1.w = s.w) : faceOf f1.d (s.h : Int) (s.w : Int) = true := by
  unfold faceOf
  rw [o.fc.face, Sc.hgt o, Sc.wid o, e1, e2, decide_eq_true rfl, decide_eq_true rfl]
  rfl
def frCwr : List PyData → Rs → Prop := fun ds q => ∃ (s o : Sc) (b : Int), s.Ok ∧ o.Ok ∧ o.h = s.h ∧ o.w = s.w ∧ -10 ≤ b ∧ b ≤ 10 ∧ ds = [s.d, o.d, .int b] ∧ q = .ok (.list ((chg s o b).map Pt.d))
/-- what change_of promises: the change that is told -/
def frCo : List PyData → Rs → Prop := fun ds q => ∃ s o : Sc, s.Ok ∧ o.Ok ∧ o.h = s.h ∧ o.w = s.w ∧ ds = [s.d, o.d] ∧ q = .ok (.list ((coS s o).map Pt.d))
abbrev NCo : List Str := ["one", "other", "height", "rolls", "by"]
theorem sc_co : FnScope NCo ["one", "other"] (defScope s_change_of) := ⟨rfl, rfl, rfl, by decide +kernel, rfl, by decide +kernel, by decide +kernel⟩
theorem rg_len {h : Nat} : (rollsOf (rgI (1 - (h : Int)) ((h : Int) + 1))).length = 2 * h := by
  rw [(rolls_ok _).perm.length_eq]
  unfold rgI
  rw [List.length_map, List.length_range]
  omega
theorem putsTo_len {old new : List (List PyData)} : ∀ n, (∀ r, (new.getD r []).length ≤ 20) → (putsTo old new n).length ≤ n * 20
  | 0, _ => Nat.le_refl _
  | n + 1, h => by
    have ih := putsTo_len (old := old) n h
    have l1 : (putsAt old new n).length ≤ 20 := by
      unfold putsAt spans
      rw [List.length_map]
      have a1 := fold_len (new.getD n []) (unlike (old.getD n []) (new.getD n [])) []
      have a2 := unlike_len (old.getD n []) (new.getD n [])
      have a3 := h n
      have a4 : ([] : List (Nat × Nat)).length = 0 := rfl
      omega
    rw [putsTo_succ, List.length_append]
    omega
theorem chg_len {s o : Sc} (hs : s.Ok) (ho : o.Ok) (hh : o.h = s.h) (b : Int) : (chg s o b).length ≤ 1000 := by
  have h10 := hs.h10
  have w20 := ho.w20
  have l1 := putsTo_len (old := rollA s.rows s.w b) (new := o.rows) s.h (fun r => by
    by_cases h : r < o.h
    · rw [(ho.row_at h).2.1]
      exact w20
    · rw [List.getD_eq_getElem?_getD, List.getElem?_eq_none (by rw [ho.len]; omega)]
      exact Nat.zero_le _)
  unfold chg
  rw [List.length_append, List.length_append]
  have l2 : (if b ≠ 0 then [Pt.roll b] else []).length ≤ 1 := by split <;> simp
  have l3 : (if s.row = o.row ∧ s.col = o.col then [] else [Pt.cur o.row o.col]).length ≤ 1 := by split <;> simp
  omega
theorem ok_co (F : Df K "change_of" s_change_of f fd) (hm : mg "change_of" = some (.ref f)) (B : Bl mg) (ms : mg "sorted" = none) (ma : mg "abs" = none) (GF : DefOk P w K mg base 5 "need_face" (frFace C)) (GL : DefOk P w K mg base 7 "need_face_like" (frLike C)) (GW : DefOk P w K mg base 3 "change_with_roll" frCwr) (GC : DefOk P w K mg base 2 "cost_of_parts" frCp) : DefOk P w K mg base 8 "change_of" frCo := by
  refine def_ok F hm sc_co (fun _ _ _ _ _ _ us hl => match us, hl with | [_, _], _ => rfl) (fun ds r h => by obtain ⟨_, _, _, _, _, _, rfl, _⟩ := h; rfl) (fun cdv A outer sh H E qs ds q hr h => ?_)
  obtain ⟨s, o, os, oo, hh, hw, rfl, rfl⟩ := h
  have tk : L2N.Takes (cxOf (L2N.CX P w) P w K mg base NCo "change_of" (defScope s_change_of) f cdv A outer sh H E) (WOf E) := L2N.takes_of rfl rfl rfl rfl
  have h10 := os.h10
  have hr0 := os.hr
  refine sd_callX GF (hr.mono (by decide)) tk (pds_cons (pd_var 0) pds_nil) ⟨s.d, rfl, rfl, os.fc.small⟩ (fun d1 e1 => ?_) (fun Z e1 => ?_)
  · refine sd_callX GL (hr.mono (by decide)) tk (pds_cons (pd_var 1) (pds_cons (pd_var 0) pds_nil)) ⟨o.d, s, os, rfl, oo.fc.small, rfl⟩ (fun d2 e2 => ?_) (fun Z e2 => ?_)
    · refine sd_set 2 (d := .int (s.h : Int)) (PD.eq (pd_lenT B.len (pd_ixT (d := .tuple (s.rows.map .tuple)) (pd_var 0) pd_int atI0)) (by rw [List.length_map, os.len])) ?_ sc_co.nd
      refine sd_ownP 3 (pn_sortedAbs (i := 1 - (s.h : Int)) (j := (s.h : Int) + 1) rfl ms B.range ma (pd_sub pd_int (pd_var 2)) (pd_add (pd_var 2) pd_int) ⟨by omega, by omega, by omega, by omega, by omega⟩ (by omega)) (fun D hD => ?_) sc_co.nd
      have rl := rg_len (h := s.h)
      have ro := rolls_ok (rgI (1 - (s.h : Int)) ((s.h : Int) + 1))
      have ecl : (coL s o).map (fun ps => PyData.list (ps.map Pt.d)) = (rollsOf (rgI (1 - (s.h : Int)) ((s.h : Int) + 1))).map fun b => .list ((chg s o b).map Pt.d) := by
        unfold coL
        rw [List.map_map]
        rfl
      have cln : (coL s o).length = 2 * s.h := by unfold coL; rw [List.length_map, rl]
      refine sd_ret (d := .list ((coS s o).map Pt.d)) (pd_minK (kf := fun i => costs ((coL s o).getD i [])) GC (hr.mono (by decide)) rfl B.min (ds := (coL s o).map fun ps => PyData.list (ps.map Pt.d)) (pn_lc (y := "by") (j := 4) (items := (rollsOf (rgI (1 - (s.h : Int)) ((s.h : Int) + 1))).map .int) rfl sc_co.nd (ws_lst (pl_var 3 List.mem_cons_self)) (by rw [List.length_map, List.length_map, cln, rl]) (blkOk_by (N := NCo) (sc := defScope s_change_of) (by decide +kernel)) (fun _ _ _ _ _ => pg_name sc_co.nd rfl (Or.inl rfl)) ?el (by rw [List.length_map, rl]; omega)) (by rw [List.length_map, cln]; omega) ?cost ?best) rfl
      case el =>
        intro i d y hd hy D o2 s2 H C cl fp
        rw [ecl, List.getElem?_map] at hy
        rw [List.getElem?_map] at hd
        cases e : (rollsOf (rgI (1 - (s.h : Int)) ((s.h : Int) + 1)))[i]? with
        | none => rw [e] at hd; cases hd
        | some b =>
          rw [e] at hd hy
          cases hd
          cases hy
          have hb := rg_mem.mp (ro.perm.mem_iff.mp (List.mem_of_getElem? e))
          exact pd_call GW (hr.mono (by decide)) (pds_cons (pd_var 0) (pds_cons (pd_var 1) (pds_cons (pd_var 4) pds_nil))) ⟨s, o, b, os, oo, hh, hw, by omega, by omega, rfl, rfl⟩
      case cost =>
        intro i e he
        rw [List.getElem?_map] at he
        cases ei : (coL s o)[i]? with
        | none => rw [ei] at he; cases he
        | some ps =>
          rw [ei] at he
          cases he
          have eg : (coL s o).getD i [] = ps := by rw [List.getD_eq_getElem?_getD, ei]; rfl
          have em := List.mem_of_getElem? ei
          unfold coL at em
          obtain ⟨b, hb, rfl⟩ := List.mem_map.mp em
          have hb := rg_mem.mp (ro.perm.mem_iff.mp hb)
          exact ⟨_, chg_ok os oo hh hw (by omega) (by omega), chg_len os oo hh b, rfl, by show _ = Rs.ok (.int (costs (chg s o b))); rw [← eg]⟩
      case best =>
        intro i e he hbst
        rw [List.getElem?_map] at he
        rw [List.length_map] at hbst
        cases ei : (coL s o)[i]? with
        | none => rw [ei] at he; cases he
        | some ps =>
          rw [ei] at he
          cases he
          have b : Best (coL s o) i := ⟨(List.getElem?_eq_some_iff.mp ei).1, hbst⟩
          have := bestOf_is b
          unfold coS
          rw [this, List.getD_eq_getElem?_getD, ei]
          rfl
    · rw [if_pos (face_like oo hh hw)] at e2
      cases e2
  · rw [if_pos os.fc.face] at e1
    cases e1
end
end K96

namespace K96
open PySem PySem.Spec PyProof.Rows L2 FP
section
variable {P : Program} {w : World} {K : PySem.W.Frag} {mg : Str → Option Value} {base : Heap} {f : Addr} {fd : FuncData}
/-! ### change_with_roll -/
abbrev NCw : List Str := ["one", "other", "by", "change", "row", "old", "new", "first", "last"]
theorem sc_cw : FnScope NCw ["one", "other", "by"] (defScope s_change_with_roll) := ⟨rfl, rfl, rfl, by decide +kernel, rfl, by decide +kernel, by decide +kernel⟩
def head (b : Int) : List Pt := if b ≠ 0 then [Pt.roll b] else []
theorem chg_eq (s o : Sc) (b : Int) : chg s o b = (head b ++ putsTo (rollA s.rows s.w b) o.rows s.h) ++ (if s.row = o.row ∧ s.col = o.col then [] else [Pt.cur o.row o.col]) := rfl
theorem cut_two (x : PyData) (i j : Int) : FP.cutD [x, .int i, .int j] (some 1) none = [.int i, .int j] := rfl
theorem eqv_two (i j k l : Int) : PyData.eqv (.tuple [.int i, .int j]) (.tuple [.int k, .int l]) = (decide (i = k) && decide (j = l)) := by
  have e : PyData.eqv (.tuple [.int i, .int j]) (.tuple [.int k, .int l]) = ((i == k) && ((j == l) && true)) := by simp only [PyData.eqv, PyData.eqvAll]
  rw [e, Bool.and_true]
  congr 1 <;> (rw [beq_eq_decide])
theorem ok_cwr (F : Df K "change_with_roll" s_change_with_roll f fd) (hm : mg "change_with_roll" = some (.ref f)) (me : mg "enumerate" = none) (mz : mg "zip" = none) (GR : DefOk P w K mg base 2 "rolled" frRoll) (GP : DefOk P w K mg base 1 "put_of" frPo) (GS : DefOk P w K mg base 2 "spans_to_put" frSp) : DefOk P w K mg base 3 "change_with_roll" frCwr := by
  refine def_ok F hm sc_cw (fun _ _ _ _ _ _ us hl => match us, hl with | [_, _, _], _ => rfl) (fun ds r h => by obtain ⟨_, _, _, _, _, _, _, _, _, rfl, _⟩ := h; rfl) (fun cdv A outer sh H E qs ds q hr h => ?_)
  obtain ⟨s, o, b, os, oo, hh, hw, b1, b2, rfl, rfl⟩ := h
  have h10 := os.h10
  have ro := rolled_ok os b
  have w20 := oo.w20
  have plen : ∀ n, n ≤ s.h → (putsTo (rollA s.rows s.w b) o.rows n).length ≤ 200 := fun n hn => Nat.le_trans (putsTo_len n fun r => by
    by_cases h : r < o.h
    · rw [(oo.row_at h).2.1]; exact w20
    · rw [List.getD_eq_getElem?_getD, List.getElem?_eq_none (by rw [oo.len]; omega)]; exact Nat.zero_le _) (by omega)
  have hd1 : (head b).length ≤ 1 := by unfold head; split <;> simp
  refine sd_ownP 3 (ds := (head b).map Pt.d) (pn_ifE (pt_cmpd op_ne rd_neI (pd_var 2) pd_int (nomark _)) (fun hk => ?c1) (fun hk => ?c2)) (fun D hD => ?_) sc_cw.nd
  case c1 =>
    have hk : b ≠ 0 := by simpa using hk
    unfold head
    rw [if_pos hk]
    exact pn_lst (pds_cons (pd_tup (pds_cons pd_str (pds_cons (pd_var 2) pds_nil))) pds_nil) (by show 1 ≤ 1000; decide)
  case c2 =>
    have hk : b = 0 := by simpa using hk
    unfold head
    rw [if_neg (by simpa using hk)]
    exact pn_lst pds_nil
  refine sd_forEZ 4 5 6 (xs := (rollA s.rows s.w b).map .tuple) (ys := o.rows.map .tuple) (fun i δ' ω' => ω' = ⟨qs, [(D, .lst (((head b ++ putsTo (rollA s.rows s.w b) o.rows i).map Pt.d).map .im))]⟩ ∧ ∃ y4 y5 y6, δ' = [some (.im s.d), some (.im o.d), some (.im (.int b)), some (.ad D), y4, y5, y6, none, none]) me mz
    (pd_call GR (hr.mono (by decide)) (pds_cons (pd_ixT (d := .tuple (s.rows.map .tuple)) (pd_var 0) pd_int atI0) (pds_cons (pd_var 2) pds_nil)) (roll_call os (by omega) (by omega)))
    (pd_ixT (d := .tuple (o.rows.map .tuple)) (pd_var 1) pd_int atI0) (by rw [List.length_map, List.length_map, rollA_len, os.len, oo.len, hh]) ⟨by rw [show putsTo (rollA s.rows s.w b) o.rows 0 = [] from rfl, List.append_nil]; rfl, _, _, _, rfl⟩ ?bd ?rest (pg_tup rfl (pgs_cons (pg_name sc_cw.nd rfl (Or.inr rfl)) (pgs_cons (pg_tup rfl (pgs_cons (pg_name sc_cw.nd rfl (Or.inl rfl)) (pgs_cons (pg_name sc_cw.nd rfl (Or.inr rfl)) pgs_nil))) pgs_nil))) (passes_of rfl) rfl
  case bd =>
    rintro i x y δ' ω' hx hy ⟨rfl, y4, y5, y6, rfl⟩
    have hi : i < s.h := by
      have := (List.getElem?_eq_some_iff.mp hx).1
      rw [List.length_map, rollA_len, os.len] at this
      exact this
    obtain ⟨a1, a2, a3⟩ := ro.row_at hi
    obtain ⟨c1, c2, c3⟩ := oo.row_at (show i < o.h by omega)
    rw [List.getElem?_map, a1] at hx
    rw [List.getElem?_map, c1] at hy
    obtain rfl : x = .tuple ((rollA s.rows s.w b).getD i []) := by cases hx; rfl
    obtain rfl : y = .tuple (o.rows.getD i []) := by cases hy; rfl
    clear hx hy
    have a2 : ((rollA s.rows s.w b).getD i []).length = s.w := a2
    have a3 : ∀ y ∈ (rollA s.rows s.w b).getD i [], isCell y = true := a3
    generalize hold : (rollA s.rows s.w b).getD i [] = old at *
    generalize hnew : o.rows.getD i [] = new at *
    have ep : putsAt (rollA s.rows s.w b) o.rows i = (spans old new).map (putOf i new) := by unfold putsAt; rw [hold, hnew]
    have lsp : (spans old new).length ≤ 20 := by
      have z1 := fold_len new (unlike old new) []
      have z2 := unlike_len old new
      have z3 : ([] : List (Nat × Nat)).length = 0 := rfl
      unfold spans
      omega
    have l1 := plen i (by omega)
    refine sd_extS (j := 0) (ps1_var 3) rfl (pn_lc2 (n1 := "first") (n2 := "last") (j1 := 7) (j2 := 8) (ls := (spans old new).map fun p => (PyData.int (p.1 : Int), PyData.int (p.2 : Int))) (zs := ((spans old new).map (putOf i new)).map Pt.d) rfl sc_cw.nd (PWk.ws (wk_lst (PD.eq (pd_call GS hr (pds_cons (pd_var 5) (pds_cons (pd_var 6) pds_nil)) ⟨old, new, by omega, a3, c3, by omega, rfl, rfl⟩) ?e1))) (by simp) (by rw [List.length_map]; omega) (blkOk_by (N := NCw) (sc := defScope s_change_with_roll) (by decide +kernel)) (fun _ _ _ _ _ => pg_tup rfl (pgs_cons (pg_name sc_cw.nd rfl (Or.inl rfl)) (pgs_cons (pg_name sc_cw.nd rfl (Or.inl rfl)) pgs_nil))) ?el) (sd_nil ⟨?e2, _, _, _, rfl⟩) (by rw [List.length_map, List.length_map, List.length_append, List.length_map, List.length_map]; omega)
    case e1 =>
      rw [List.map_map]
      rfl
    case e2 =>
      have e9 : ((head b ++ putsTo (rollA s.rows s.w b) o.rows (i + 1)).map Pt.d).map Sd.im = ((head b ++ putsTo (rollA s.rows s.w b) o.rows i).map Pt.d).map Sd.im ++ (((spans old new).map (putOf i new)).map Pt.d).map Sd.im := by
        rw [putsTo_succ, ep, ← List.append_assoc, List.map_append (l₂ := List.map _ (spans old new)), List.map_append]
      rw [e9]
      rfl
    case el =>
      intro k l m z hl hz D o2 s2 H2 C2 cl fp
      rw [List.getElem?_map] at hl
      rw [List.getElem?_map, List.getElem?_map] at hz
      cases e : (spans old new)[k]? with
      | none => rw [e] at hl; cases hl
      | some p =>
        rw [e] at hl hz
        cases hl
        cases hz
        exact pd_call GP (hr.mono (by decide)) (pds_cons (pd_var 4) (pds_cons (pd_var 7) (pds_cons (pd_var 8) (pds_cons (pd_var 6) pds_nil)))) ⟨i, p.1, p.2, new, spans_ok p (List.mem_of_getElem? e), c3, by omega, rfl, rfl⟩
  case rest =>
    rintro δ' ω' ⟨rfl, y4, y5, y6, rfl⟩
    have el : ((rollA s.rows s.w b).map PyData.tuple).length = s.h := by rw [List.length_map, rollA_len, os.len]
    rw [el]
    have l1 := plen s.h (Nat.le_refl _)
    refine sd_if (pt_cmpd (op_neD hr.units) (rd_neD ((Shp.tup (n := 0) (ds := [.int (s.row : Int), .int (s.col : Int)]) fun x hx => ?s1).ok (by decide)) ((Shp.tup (n := 0) (ds := [.int (o.row : Int), .int (o.col : Int)]) fun x hx => ?s2).ok (by decide))) (PD.eq (pd_slT (i := some 1) (j := none) (pd_var 0) ⟨_, rfl, pd_int⟩ rfl) (by rw [cut_two])) (PD.eq (pd_slT (i := some 1) (j := none) (pd_var 1) ⟨_, rfl, pd_int⟩ rfl) (by rw [cut_two])) (nomark _)) (fun hk => ?_) (fun hk => ?_)
    case s1 =>
      simp only [List.mem_cons, List.not_mem_nil, or_false] at hx
      rcases hx with rfl | rfl <;> exact .int _
    case s2 =>
      simp only [List.mem_cons, List.not_mem_nil, or_false] at hx
      rcases hx with rfl | rfl <;> exact .int _
    · rw [eqv_two] at hk
      have hn : ¬ (s.row = o.row ∧ s.col = o.col) := fun ⟨z1, z2⟩ => by
        rw [z1, z2, decide_eq_true rfl, decide_eq_true rfl] at hk
        cases hk
      refine sd_appS (j := 0) (d := (Pt.cur o.row o.col).d) (ps1_var 3) rfl (pd_tup (pds_cons pd_str (pds_cons (pd_ixT (d := .int (o.row : Int)) (pd_var 1) pd_int atI1) (pds_cons (pd_ixT (d := .int (o.col : Int)) (pd_var 1) pd_int (atI_nat (j := 2) rfl)) pds_nil)))) (sd_nil (sd_retP 3 (xs := (chg s o b).map Pt.d) ?_ hD rfl)) (by rw [List.length_map, List.length_map, List.length_append]; omega)
      have e9 : ((chg s o b).map Pt.d).map Sd.im = ((head b ++ putsTo (rollA s.rows s.w b) o.rows s.h).map Pt.d).map Sd.im ++ [Sd.im (Pt.cur o.row o.col).d] := by
        rw [chg_eq, if_neg hn, List.map_append (l₂ := [Pt.cur o.row o.col]), List.map_append]
        rfl
      rw [e9]
      exact List.mem_cons_self
    · rw [eqv_two] at hk
      have hy : s.row = o.row ∧ s.col = o.col := by
        have hk : (decide ((s.row : Int) = (o.row : Int)) && decide ((s.col : Int) = (o.col : Int))) = true := by simpa using hk
        rw [Bool.and_eq_true] at hk
        exact ⟨by have := of_decide_eq_true hk.1; omega, by have := of_decide_eq_true hk.2; omega⟩
      refine sd_nil (sd_retP 3 (xs := (chg s o b).map Pt.d) ?_ hD rfl)
      rw [chg_eq, if_pos hy, List.append_nil]
      exact List.mem_cons_self
end
end K96

namespace K96
open PySem PySem.Spec PyProof.Rows L2 FP
/-! ### another face of the same size -/
def modN (v : Int) (n : Nat) : Nat := (v % (n : Int)).toNat
theorem modN_lt (v : Int) {n : Nat} (h : 0 < n) : modN v n < n ∧ v % (n : Int) = (modN v n : Int) := by
  unfold modN
  have h1 := Int.emod_nonneg v (show (n : Int) ≠ 0 by omega)
  have h2 := Int.emod_lt_of_pos v (show (0 : Int) < (n : Int) by omega)
  omega
def stepO (m : Int) (h w : Nat) (rows : List (List PyData)) (j : Nat) : List (List PyData) :=
  rows.set (modN (drawn m (40 + (j : Int))) h) ((rows.getD (modN (drawn m (40 + (j : Int))) h) []).set (modN (drawn m (40 + (j : Int)) / 64) w) (cellOfD (drawn m (40 + (j : Int)) / 4096)))
def rot1 (m : Int) (rows : List (List PyData)) : List (List PyData) := if m % 4 = 0 then rows.drop 1 ++ rows.take 1 else rows
def otherR (m : Int) (t : Sc) (n : Nat) : List (List PyData) := (List.range n).foldl (stepO m t.h t.w) (rot1 m t.rows)
def otherS (m : Int) (t : Sc) : Sc := { t with rows := otherR m t (m / 4 % 5).toNat, row := if m / 8 % 2 = 0 then t.row else modN (m / 512) t.h, col := modN (m / 64) t.w }
def RowsOk (h w : Nat) (rows : List (List PyData)) : Prop := rows.length = h ∧ ∀ r ∈ rows, r.length = w ∧ ∀ y ∈ r, isCell y = true
theorem rot1_ok {h w : Nat} {rows : List (List PyData)} (m : Int) (o : RowsOk h w rows) : RowsOk h w (rot1 m rows) := by
  unfold rot1
  split
  · refine ⟨?_, fun r hr => ?_⟩
    · rw [List.length_append, List.length_drop, List.length_take]
      have := o.1
      omega
    · rcases List.mem_append.mp hr with q | q
      · exact o.2 r (List.mem_of_mem_drop q)
      · exact o.2 r (List.mem_of_mem_take q)
  · exact o
theorem getD_mem {h : Nat} {rows : List (List PyData)} {r : Nat} (hl : rows.length = h) (hr : r < h) : rows[r]? = some (rows.getD r []) ∧ rows.getD r [] ∈ rows := by
  have hlt : r < rows.length := by omega
  have e : rows.getD r [] = rows[r] := by rw [List.getD_eq_getElem?_getD, List.getElem?_eq_getElem hlt]; rfl
  rw [e, List.getElem?_eq_getElem hlt]
  exact ⟨rfl, List.getElem_mem hlt⟩
theorem stepO_ok {h w : Nat} {rows : List (List PyData)} (m : Int) (h1 : 0 < h) (w1 : 0 < w) (o : RowsOk h w rows) (j : Nat) : RowsOk h w (stepO m h w rows j) := by
  obtain ⟨a1, a2⟩ := modN_lt (drawn m (40 + (j : Int))) h1
  obtain ⟨b1, b2⟩ := getD_mem o.1 a1
  refine ⟨by unfold stepO; rw [List.length_set]; exact o.1, fun r hr => ?_⟩
  unfold stepO at hr
  rcases List.mem_or_eq_of_mem_set hr with q | q
  · exact o.2 r q
  · subst q
    refine ⟨by rw [List.length_set]; exact (o.2 _ b2).1, fun y hy => ?_⟩
    rcases List.mem_or_eq_of_mem_set hy with q | q
    · exact (o.2 _ b2).2 y q
    · rw [q]
      exact cellOf_ok _
theorem otherR_ok {t : Sc} (o : t.Ok) (m : Int) : ∀ n, RowsOk t.h t.w (otherR m t n)
  | 0 => rot1_ok m ⟨o.len, o.wid⟩
  | n + 1 => by
    unfold otherR
    rw [List.range_succ, List.foldl_append]
    exact stepO_ok m (by have := o.hr; omega) (by have := o.hc; omega) (otherR_ok o m n) n
theorem otherS_ok {t : Sc} (o : t.Ok) (m : Int) : (otherS m t).Ok := by
  obtain ⟨a, b⟩ := otherR_ok o m (m / 4 % 5).toNat
  refine ⟨a, b, ?_, (modN_lt (m / 64) (show 0 < t.w by have := o.hc; omega)).1, o.h10, o.w20⟩
  show (if m / 8 % 2 = 0 then t.row else modN (m / 512) t.h) < t.h
  split
  · exact o.hr
  · exact (modN_lt (m / 512) (show 0 < t.h by have := o.hr; omega)).1
section
variable {P : Program} {w : World} {K : PySem.W.Frag} {mg : Str → Option Value} {base : Heap} {f C CF CB : Addr} {fd : FuncData}
def frOther : List PyData → Rs → Prop := fun ds q => ∃ (m : Int) (t : Sc), t.Ok ∧ ds = [.int m, t.d] ∧ q = .ok (otherS m t).d
abbrev NOt : List Str := ["_law_more", "_law_face_here", "_law_rows", "_law_j", "_law_here", "_law_column", "_law_cells"]
theorem sc_other : FnScope NOt ["_law_more", "_law_face_here"] (defScope s__law_other) := ⟨rfl, rfl, rfl, by decide +kernel, rfl, by decide +kernel, by decide +kernel⟩
abbrev ownR (qs : List Addr) (D : Addr) (As : List Addr) (rows : List (List PyData)) : Om := ⟨qs, (D, .lst (As.map .ad)) :: (inL As rows ++ [])⟩
abbrev dlo (m : Int) (t : Sc) (D : Addr) (y3 y4 y5 y6 : Option Sd) : De := [some (.im (.int m)), some (.im t.d), some (.ad D), y3, y4, y5, y6]
theorem ok_other (F : Df K "_law_other" s__law_other f fd) (hm : mg "_law_other" = some (.ref f)) (B : Bl mg) (ml : mg "list" = none) (G1 : DefOk P w K mg base 1 "_law_drawn" frDrawn) (G2 : DefOk P w K mg base 1 "_law_cell_of" frCellOf) : DefOk P w K mg base 2 "_law_other" frOther := by
  refine def_ok F hm sc_other (fun _ _ _ _ _ _ us hl => match us, hl with | [_, _], _ => rfl) (fun ds r h => by obtain ⟨_, _, _, rfl, _⟩ := h; rfl) (fun cdv A outer s H E qs ds r hr1 h => ?_)
  obtain ⟨m, t, o, rfl, rfl⟩ := h
  have h10 := o.h10
  have w20 := o.w20
  have h0 : 0 < t.h := by have := o.hr; omega
  have w0 : 0 < t.w := by have := o.hc; omega
  refine sd_ownLL2 2 (y := "_law_cells") (j := 6) (items := t.rows.map .tuple) (rows := t.rows) rfl sc_other.nd (PWk.ws (wk_tup (pd_ixT (d := .tuple (t.rows.map .tuple)) (pd_var 1) pd_int atI0))) (by rw [List.length_map]) (blkOk_by (N := NOt) (sc := defScope s__law_other) (by decide +kernel)) (fun _ _ _ _ _ => pg_name sc_other.nd rfl (Or.inl rfl)) ?_ (by have := o.len; rw [List.length_map]; omega) (fun D As lA hD hA => ?_)
  · intro i d ds hd hy os' s H C cl fp
    rw [List.getElem?_map, hy] at hd
    cases hd
    exact pn_listT ml (pd_var 6)
  refine sd_ifJ (fun δ' ω' => ∃ (D : Addr) (As : List Addr), As.length = (rot1 m t.rows).length ∧ D ∉ qs ∧ (∀ a ∈ As, a ∉ qs) ∧ ω' = ownR qs D As (rot1 m t.rows) ∧ ∃ y3 y4 y5 y6, δ' = dlo m t D y3 y4 y5 y6) (pt_cmpd op_eq rd_eqI (pd_mod (by decide) (pd_var 0) pd_int) pd_int (nomark _)) (fun hk => ?_) (fun hk => sd_nil ⟨D, As, ?_⟩) (fun δ' ω' hJ => ?_)
  · have hk := of_decide_eq_true hk
    refine sd_newP 2 (nw_catA (As := As.drop 1) (Bs := As.take 1) (PLa.eq (pla_sl (i := some ((1 : Nat) : Int)) (j := none) (pla_var 2 List.mem_cons_self) ⟨_, rfl, pd_int⟩ rfl) (cutA_from _ _)) (PLa.eq (pla_sl (i := none) (j := some ((1 : Nat) : Int)) (pla_var 2 List.mem_cons_self) rfl ⟨_, rfl, pd_int⟩) (cutA_to _ _)) (by rw [List.length_drop, List.length_take, lA, o.len]; omega)) (fun D2 hD2 => ?_) sc_other.nd
    refine sd_drop 1 ?_
    have er : rot1 m t.rows = t.rows.drop 1 ++ t.rows.take 1 := by unfold rot1; rw [if_pos hk]
    refine sd_perm (os' := (D2, .lst ((As.drop 1 ++ As.take 1).map .ad)) :: (inL (As.drop 1 ++ As.take 1) (t.rows.drop 1 ++ t.rows.take 1) ++ [])) (.cons _ ((inL_rot lA 1).append_right _)) (sd_nil ⟨D2, As.drop 1 ++ As.take 1, ?_, hD2, fun a ha => ?_, by rw [er], _, _, _, _, rfl⟩)
    · rw [er, List.length_append, List.length_append, List.length_drop, List.length_drop, List.length_take, List.length_take, lA]
    · rcases List.mem_append.mp ha with q | q
      · exact hA a (List.mem_of_mem_drop q)
      · exact hA a (List.mem_of_mem_take q)
  · have hk := of_decide_eq_false hk
    have er : rot1 m t.rows = t.rows := by unfold rot1; rw [if_neg hk]
    rw [er]
    exact ⟨lA, hD, hA, rfl, _, _, _, _, rfl⟩
  obtain ⟨D, As, lA, hD, hA, rfl, y3, y4, y5, y6, rfl⟩ := hJ
  have q1 := Int.emod_nonneg (m / 4) (show (5 : Int) ≠ 0 by decide)
  have q2 := Int.emod_lt_of_pos (m / 4) (show (0 : Int) < 5 by decide)
  refine sd_for 3 (items := rangeD 0 (m / 4 % 5).toNat) (fun i δ' ω' => ω' = ownR qs D As (otherR m t i) ∧ ∃ y3 y4 y5 y6, δ' = dlo m t D y3 y4 y5 y6) (wk_range1 B.range (pd_mod (by decide) (pd_fdiv (wide_div (b := 3) (by decide) (by decide) (by decide) (by decide)) (pd_var 0) pd_int) pd_int) (by omega)) ⟨rfl, _, _, _, _, rfl⟩ ?_ ?_ (pg_name sc_other.nd rfl (Or.inl rfl)) (passes_of rfl) rfl
  · rintro i d δ' ω' hd ⟨rfl, y3, y4, y5, y6, rfl⟩
    have hlt := (List.getElem?_eq_some_iff.mp hd).1
    rw [rangeD_len] at hlt
    rw [rangeD_get hlt, Int.zero_add] at hd
    cases hd
    refine sd_set 4 (pd_call G1 hr1 (pds_cons (pd_var 0) (pds_cons (pd_add pd_int (pd_var 3)) pds_nil)) ⟨_, _, rfl, rfl⟩) ?_ sc_other.nd
    have ro := otherR_ok o m i
    have es : otherR m t (i + 1) = stepO m t.h t.w (otherR m t i) i := by
      unfold otherR
      rw [List.range_succ, List.foldl_append]
      rfl
    have lA2 : As.length = (otherR m t i).length := by rw [lA, ro.1, (rot1_ok m ⟨o.len, o.wid⟩).1]
    generalize hrows : otherR m t i = rows at ro es lA2
    unfold stepO at es
    generalize K96.drawn m (40 + (i : Int)) = v at es
    obtain ⟨a1, a2⟩ := modN_lt v h0
    obtain ⟨c1, c2⟩ := modN_lt (v / 64) w0
    generalize modN v t.h = r at a1 a2 es
    generalize modN (v / 64) t.w = c at c1 c2 es
    obtain ⟨b1, b2⟩ := getD_mem ro.1 a1
    have lw := (ro.2 _ b2).1
    generalize rows.getD r [] = cs at b1 b2 es lw
    have hlA : r < As.length := by rw [lA2, ro.1]; exact a1
    obtain ⟨ar, har⟩ : ∃ ar, As[r]? = some ar := ⟨As[r], List.getElem?_eq_getElem hlA⟩
    obtain ⟨r0, rest, er0⟩ : ∃ r0 rest, rows = r0 :: rest := by
      match rows, ro.1 with
      | [], q => simp at q; omega
      | r0 :: rest, _ => exact ⟨r0, rest, rfl⟩
    obtain ⟨a0, As', eA⟩ : ∃ a0 As', As = a0 :: As' := by
      match As, lA2 with
      | [], q => rw [er0] at q; cases q
      | a0 :: As', _ => exact ⟨a0, As', rfl⟩
    have lw0 : r0.length = t.w := (ro.2 r0 (by rw [er0]; exact List.mem_cons_self)).1
    have m0 : (a0, Od.lst (r0.map .im)) ∈ (ownR qs D As rows).os := by
      rw [er0, eA]
      exact List.mem_cons_of_mem _ (List.mem_append_left _ List.mem_cons_self)
    have i0 : atI (As.map Sd.ad) 0 = some (.ad a0) := by
      rw [eA]
      exact atI0
    have lm : (((As.map Sd.ad).length : Nat) : Int) = (t.h : Int) := by rw [List.length_map, lA2, ro.1]
    have eat : (ownR qs D As rows).os[r + 1]? = some (ar, .lst (cs.map .im)) := by
      show (inL As _ ++ [])[r]? = _
      rw [List.append_nil]
      exact inL_get har b1
    refine sd_lset (c := ar) (n := c) (PD.ex (d := cellOfD (v / 4096)) (pd_call G2 hr1 (pds_cons (pd_fdiv (wide_div (b := 13) (by decide) (by decide) (by decide) (by decide)) (pd_var 4) pd_int) pds_nil) ⟨_, rfl, rfl⟩) ⟨r + 1, cs.map .im, ps1_ixA (i := (r : Int)) (ps1_var 2) List.mem_cons_self (PD.eq (pd_mod (by rw [lm]; omega) (pd_var 4) (pd_lenA B.len (ps1_var 2) List.mem_cons_self)) (by rw [lm, a2])) (atI_nat (by rw [List.getElem?_map, har]; rfl)), eat, PD.eq (pd_mod (by rw [lw0]; omega) (pd_fdiv (wide_div (b := 7) (by decide) (by decide) (by decide) (by decide)) (pd_var 4) pd_int) (pd_lenL B.len (PLt.pl (PS1.plt (ps1_ixA (ps1_var 2) List.mem_cons_self pd_int i0) m0)))) (by rw [lw0, c2]), by rw [List.length_map, lw]; exact c1, ?_⟩)
    refine sd_nil ⟨?_, _, _, _, _, rfl⟩
    show (⟨qs, (D, .lst (As.map Sd.ad)) :: ((inL As rows ++ []).set r (ar, .lst ((cs.map Sd.im).set c (.im (cellOfD (v / 4096))))))⟩ : Om) = ownR qs D As (otherR m t (i + 1))
    have e3 : (cs.map Sd.im).set c (.im (cellOfD (v / 4096))) = (cs.set c (cellOfD (v / 4096))).map Sd.im := by rw [List.map_set]
    rw [e3, List.append_nil, inL_set har, es]
    unfold ownR
    rw [List.append_nil]
  · rintro δ' ω' ⟨rfl, y3, y4, y5, y6, rfl⟩
    rw [rangeD_len]
    have ro := otherR_ok o m (m / 4 % 5).toNat
    have lA2 : As.length = (otherR m t (m / 4 % 5).toNat).length := by rw [lA, ro.1, (rot1_ok m ⟨o.len, o.wid⟩).1]
    have eo : (otherS m t).rows = otherR m t (m / 4 % 5).toNat := rfl
    generalize hrows : otherR m t (m / 4 % 5).toNat = rows at ro lA2 eo
    obtain ⟨c1, c2⟩ := modN_lt (m / 64) w0
    obtain ⟨r0, rest, er0⟩ : ∃ r0 rest, rows = r0 :: rest := by
      match rows, ro.1 with
      | [], q => simp at q; omega
      | r0 :: rest, _ => exact ⟨r0, rest, rfl⟩
    obtain ⟨a0, As', eA⟩ : ∃ a0 As', As = a0 :: As' := by
      match As, lA2 with
      | [], q => rw [er0] at q; cases q
      | a0 :: As', _ => exact ⟨a0, As', rfl⟩
    have lw0 : r0.length = t.w := (ro.2 r0 (by rw [er0]; exact List.mem_cons_self)).1
    have m0 : (a0, Od.lst (r0.map .im)) ∈ (ownR qs D As rows).os := by
      rw [er0, eA]
      exact List.mem_cons_of_mem _ (List.mem_append_left _ List.mem_cons_self)
    have i0 : atI (As.map Sd.ad) 0 = some (.ad a0) := by
      rw [eA]
      exact atI0
    refine sd_set 5 (d := .int (modN (m / 64) t.w : Int)) (PD.eq (pd_mod (by rw [lw0]; omega) (pd_fdiv (wide_div (b := 7) (by decide) (by decide) (by decide) (by decide)) (pd_var 0) pd_int) (pd_lenL B.len (PLt.pl (PS1.plt (ps1_ixA (ps1_var 2) List.mem_cons_self pd_int i0) m0)))) (by rw [lw0, c2])) ?_ sc_other.nd
    refine sd_letgo 2 lA2 hD hA ?_
    have lr : ((rows.map PyData.list).length : Int) = (t.h : Int) := by rw [List.length_map, ro.1]
    obtain ⟨d1, d2⟩ := modN_lt (m / 512) h0
    have z1 := Int.emod_nonneg (m / 8) (show (2 : Int) ≠ 0 by decide)
    have z2 := Int.emod_lt_of_pos (m / 8) (show (0 : Int) < 2 by decide)
    refine sd_ret (d := (otherS m t).d) (PD.eq (pd_tup (pds_cons (pd_tupleL B.tuple (PN.pl (pn_lc (y := "_law_cells") (j := 6) (items := rows.map .list) (ys := rows.map .tuple) rfl sc_other.nd (PWk.ws (wk_lst (pd_var 2))) (by rw [List.length_map, List.length_map]) (blkOk_by (N := NOt) (sc := defScope s__law_other) (by decide +kernel)) (fun _ _ _ _ _ => pg_name sc_other.nd rfl (Or.inl rfl)) ?_ (by rw [List.length_map, ro.1]; omega)))) (pds_cons (pd_ixL (d := .int ((otherS m t).row : Int)) (ds := [.int (t.row : Int), PyData.int (modN (m / 512) t.h : Int)]) (PN.pl (pn_lst (pds_cons (pd_ixT (d := .int (t.row : Int)) (pd_var 1) pd_int atI1) (pds_cons (PD.eq (pd_mod (by rw [lr]; omega) (pd_fdiv (wide_div (b := 10) (by decide) (by decide) (by decide) (by decide)) (pd_var 0) pd_int) (pd_lenL B.len (PD.pl (pd_var 2)))) (by rw [lr, d2])) pds_nil)))) (pd_mod (by decide) (pd_fdiv (wide_div (b := 4) (by decide) (by decide) (by decide) (by decide)) (pd_var 0) pd_int) pd_int) ?_) (pds_cons (pd_var 5) pds_nil)))) (by rw [← eo]; rfl)) rfl
    · intro i d y hd hy D o s H C cl fp
      rw [List.getElem?_map] at hd hy
      cases e : rows[i]? with
      | none =>
        rw [e] at hd
        cases hd
      | some cs =>
        rw [e] at hd hy
        cases hd
        cases hy
        exact pd_tupleL B.tuple (PD.pl (pd_var 6))
    · show atI [PyData.int (t.row : Int), PyData.int (modN (m / 512) t.h : Int)] (m / 8 % 2) = some (PyData.int ((if m / 8 % 2 = 0 then t.row else modN (m / 512) t.h : Nat) : Int))
      by_cases hz : m / 8 % 2 = 0
      · rw [if_pos hz, hz]
        exact atI0
      · rw [if_neg hz, show m / 8 % 2 = 1 by omega]
        exact atI1
end
end K96

namespace K96
open PySem PySem.Spec PyProof.Rows L2 FP
theorem coS_len {s o : Sc} (hs : s.Ok) (ho : o.Ok) (hh : o.h = s.h) : (coS s o).length ≤ 1000 := by
  have hr := hs.hr
  obtain ⟨b, _, _, e⟩ := coS_of (o := o) (show 1 ≤ s.h by omega) hs.h10
  rw [e]
  exact chg_len hs ho hh b
/-! ### equal faces -/
theorem eqvAll_cells : ∀ {a b : List PyData}, (∀ y ∈ a, isCell y = true) → (∀ y ∈ b, isCell y = true) → PyData.eqvAll a b = true → a = b
  | [], [], _, _, _ => rfl
  | [], y :: b, _, _, h => by simp [PyData.eqvAll] at h
  | x :: a, [], _, _, h => by simp [PyData.eqvAll] at h
  | x :: a, y :: b, h1, h2, h => by
    have e : PyData.eqvAll (x :: a) (y :: b) = (PyData.eqv x y && PyData.eqvAll a b) := by simp only [PyData.eqvAll]
    rw [e, Bool.and_eq_true, eqv_cell (h1 x List.mem_cons_self) (h2 y List.mem_cons_self)] at h
    rw [h.1, eqvAll_cells (fun z hz => h1 z (List.mem_cons_of_mem _ hz)) (fun z hz => h2 z (List.mem_cons_of_mem _ hz)) h.2]
theorem eqvAll_rows : ∀ {a b : List (List PyData)}, (∀ r ∈ a, ∀ y ∈ r, isCell y = true) → (∀ r ∈ b, ∀ y ∈ r, isCell y = true) → PyData.eqvAll (a.map .tuple) (b.map .tuple) = true → a = b
  | [], [], _, _, _ => rfl
  | [], y :: b, _, _, h => by simp [PyData.eqvAll] at h
  | x :: a, [], _, _, h => by simp [PyData.eqvAll] at h
  | x :: a, y :: b, h1, h2, h => by
    have e : PyData.eqvAll ((x :: a).map .tuple) ((y :: b).map .tuple) = (PyData.eqvAll x y && PyData.eqvAll (a.map .tuple) (b.map .tuple)) := by simp only [List.map_cons, PyData.eqvAll, PyData.eqv]
    rw [e, Bool.and_eq_true] at h
    rw [eqvAll_cells (h1 x List.mem_cons_self) (h2 y List.mem_cons_self) h.1, eqvAll_rows (fun z hz => h1 z (List.mem_cons_of_mem _ hz)) (fun z hz => h2 z (List.mem_cons_of_mem _ hz)) h.2]
theorem face_eq {s u : Sc} (os : s.Ok) (ou : u.Ok) (hh : u.h = s.h) (hw : u.w = s.w) (h : PyData.eqv u.d s.d = true) : u = s := by
  have e : PyData.eqv u.d s.d = (PyData.eqvAll (u.rows.map .tuple) (s.rows.map .tuple) && (((u.row : Int) == (s.row : Int)) && (((u.col : Int) == (s.col : Int)) && true))) := by
    show PyData.eqv (.tuple [.tuple _, .int _, .int _]) (.tuple [.tuple _, .int _, .int _]) = _
    simp only [PyData.eqv, PyData.eqvAll]
  rw [e, Bool.and_true, Bool.and_eq_true, Bool.and_eq_true, beq_iff_eq, beq_iff_eq] at h
  have e1 := eqvAll_rows (fun r hr => (ou.wid r hr).2) (fun r hr => (os.wid r hr).2) h.1
  have e2 : u.row = s.row := by have := h.2.1; omega
  have e3 : u.col = s.col := by have := h.2.2; omega
  obtain ⟨a1, a2, a3, a4, a5⟩ := u
  obtain ⟨b1, b2, b3, b4, b5⟩ := s
  simp only at e1 e2 e3 hh hw
  subst e1 e2 e3 hh hw
  rfl
/-! ### films -/
abbrev Ch := Nat × List Pt
structure Fm where
  f : Sc
  len : Nat
  chs : List Ch
def chD (q : Ch) : PyData := .tuple [.int (q.1 : Int), .list (q.2.map Pt.d)]
def Fm.d (m : Fm) : PyData := .tuple [m.f.d, .int (m.len : Int), .tuple (m.chs.map chD)]
def Rise (hi : Nat) : Nat → List Nat → Prop
  | _, [] => True
  | lo, t :: ts => lo ≤ t ∧ t ≤ hi ∧ Rise hi (t + 1) ts
theorem rise_get {hi : Nat} : ∀ {ts : List Nat} {lo : Nat}, Rise hi lo ts → ∀ t ∈ ts, lo ≤ t ∧ t ≤ hi
  | [], _, _, t, h => (List.not_mem_nil h).elim
  | a :: ts, lo, ⟨h1, h2, h3⟩, t, h => by
    rcases List.mem_cons.mp h with rfl | q
    · exact ⟨h1, h2⟩
    · have := rise_get h3 t q
      exact ⟨by omega, this.2⟩
def runs : Sc → List Ch → Option Sc
  | s, [] => some s
  | s, q :: qs => match s.all q.2 with
    | some t => runs t qs
    | none => none
structure Fm.Ok (m : Fm) : Prop where
  fok : m.f.Ok
  top : m.len ≤ 9999
  rise : Rise m.len 1 (m.chs.map (·.1))
  ok : ∀ q ∈ m.chs, (∀ p ∈ q.2, p.Ok) ∧ q.2.length ≤ 1000
  goes : ∃ t, runs m.f m.chs = some t
  few : m.chs.length ≤ 1000
def upTo (t : Nat) : Sc → List Ch → Sc
  | s, [] => s
  | s, q :: qs => if q.1 ≤ t then upTo t ((s.all q.2).getD s) qs else upTo t s qs
def Fm.at (m : Fm) (t : Nat) : Sc := upTo t m.f m.chs
theorem upTo_app (t : Nat) : ∀ (a b : List Ch) (s : Sc), upTo t s (a ++ b) = upTo t (upTo t s a) b
  | [], b, s => rfl
  | q :: a, b, s => by
    show (if q.1 ≤ t then upTo t ((s.all q.2).getD s) (a ++ b) else upTo t s (a ++ b)) = upTo t (if q.1 ≤ t then upTo t ((s.all q.2).getD s) a else upTo t s a) b
    split
    · exact upTo_app t a b _
    · exact upTo_app t a b _
theorem runs_app : ∀ (a b : List Ch) (s : Sc), runs s (a ++ b) = match runs s a with | some t => runs t b | none => none
  | [], b, s => rfl
  | q :: a, b, s => by
    show (match s.all q.2 with | some t => runs t (a ++ b) | none => none) = match (match s.all q.2 with | some t => runs t a | none => none) with | some t => runs t b | none => none
    cases s.all q.2 with
    | none => rfl
    | some t => exact runs_app a b t
theorem up_live {t hi : Nat} : ∀ (chs : List Ch) (s : Sc) (lo i : Nat) (q : Ch) {u : Sc}, Rise hi lo (chs.map (·.1)) → runs s chs = some u → chs[i]? = some q → q.1 ≤ t → runs s (chs.take i) = some (upTo t s (chs.take i))
  | [], s, lo, i, q, u, _, _, h, _ => by simp at h
  | a :: chs, s, lo, 0, q, u, _, _, _, _ => rfl
  | a :: chs, s, lo, i + 1, q, u, hr, hu, hq, ht => by
    have hq : chs[i]? = some q := by simpa using hq
    obtain ⟨r1, r2, r3⟩ := hr
    have this : a.1 + 1 ≤ q.1 := (rise_get r3 q.1 (List.mem_map.mpr ⟨q, List.mem_of_getElem? hq, rfl⟩)).1
    have ha : a.1 ≤ t := by omega
    have hu : (match s.all a.2 with | some t => runs t chs | none => none) = some u := hu
    cases e : s.all a.2 with
    | none => rw [e] at hu; cases hu
    | some s' =>
      rw [e] at hu
      have ih := up_live chs s' (a.1 + 1) i q r3 hu hq ht
      show (match s.all a.2 with | some t => runs t (chs.take i) | none => none) = some (if a.1 ≤ t then upTo t ((s.all a.2).getD s) (chs.take i) else upTo t s (chs.take i))
      rw [e, if_pos ha]
      exact ih
/-- one step of the walk up to a tick -/
theorem Fm.Ok.step {m : Fm} (o : m.Ok) (t : Nat) {i : Nat} {q : Ch} (hq : m.chs[i]? = some q) :
    (q.1 ≤ t ∧ ∃ s', (upTo t m.f (m.chs.take i)).all q.2 = some s' ∧ upTo t m.f (m.chs.take (i + 1)) = s') ∨ (t < q.1 ∧ upTo t m.f (m.chs.take (i + 1)) = upTo t m.f (m.chs.take i)) := by
  have et : m.chs.take (i + 1) = m.chs.take i ++ [q] := by rw [List.take_add_one, hq]; rfl
  rw [et, upTo_app]
  by_cases h : q.1 ≤ t
  · refine .inl ⟨h, ?_⟩
    obtain ⟨u, hu⟩ := o.goes
    have live := up_live m.chs m.f 1 i q o.rise hu hq h
    have es : m.chs = m.chs.take i ++ q :: m.chs.drop (i + 1) := by
      obtain ⟨hl, e⟩ := List.getElem?_eq_some_iff.mp hq
      conv => lhs; rw [← List.take_append_drop i m.chs, List.drop_eq_getElem_cons hl, e]
    rw [es, runs_app, live] at hu
    have hu : (match (upTo t m.f (m.chs.take i)).all q.2 with | some t => runs t (m.chs.drop (i + 1)) | none => none) = some u := hu
    cases e : (upTo t m.f (m.chs.take i)).all q.2 with
    | none => rw [e] at hu; cases hu
    | some s' =>
      refine ⟨s', rfl, ?_⟩
      show (if q.1 ≤ t then (((upTo t m.f (m.chs.take i)).all q.2).getD _) else _) = _
      rw [if_pos h, e]
      rfl
  · refine .inr ⟨by omega, ?_⟩
    show (if q.1 ≤ t then _ else _) = _
    rw [if_neg h]
    rfl
theorem Fm.Ok.up {m : Fm} (o : m.Ok) (t : Nat) : ∀ i, (upTo t m.f (m.chs.take i)).Ok ∧ (upTo t m.f (m.chs.take i)).h = m.f.h ∧ (upTo t m.f (m.chs.take i)).w = m.f.w
  | 0 => ⟨o.fok, rfl, rfl⟩
  | i + 1 => by
    obtain ⟨a, b, c⟩ := o.up t i
    cases hq : m.chs[i]? with
    | none =>
      have e : m.chs.take (i + 1) = m.chs.take i := by rw [List.take_add_one, hq]; simp
      rw [e]
      exact ⟨a, b, c⟩
    | some q =>
      rcases o.step t hq with ⟨_, s', e1, e2⟩ | ⟨_, e2⟩
      · obtain ⟨x, y, z⟩ := a.all (o.ok q (List.mem_of_getElem? hq)).1 e1
        rw [e2]
        exact ⟨x, y.trans b, z.trans c⟩
      · rw [e2]
        exact ⟨a, b, c⟩
theorem Fm.Ok.at_ok {m : Fm} (o : m.Ok) (t : Nat) : (m.at t).Ok ∧ (m.at t).h = m.f.h ∧ (m.at t).w = m.f.w := by
  have := o.up t m.chs.length
  rw [List.take_length] at this
  exact this
def Fm.cost (m : Fm) : Int := (m.chs.map fun q => costs q.2).sum
/-! ### slowed -/
def Fm.slow (m : Fm) (b : Nat) : Fm := ⟨m.f, m.len * b, m.chs.map fun q => (q.1 * b, q.2)⟩
theorem rise_mul {hi b : Nat} (hb : 1 ≤ b) : ∀ {ts : List Nat} {lo lo' : Nat}, Rise hi lo ts → lo' ≤ lo * b → Rise (hi * b) lo' (ts.map (· * b))
  | [], _, _, _, _ => trivial
  | t :: ts, lo, lo', ⟨h1, h2, h3⟩, hl => ⟨Nat.le_trans hl (Nat.mul_le_mul_right b h1), Nat.mul_le_mul_right b h2, rise_mul hb h3 (by show t * b + 1 ≤ (t + 1) * b; rw [Nat.add_mul]; omega)⟩
theorem runs_slow (b : Nat) : ∀ (chs : List Ch) (s : Sc), runs s (chs.map fun q => (q.1 * b, q.2)) = runs s chs
  | [], s => rfl
  | q :: chs, s => by
    show (match s.all q.2 with | some t => runs t (chs.map fun q => (q.1 * b, q.2)) | none => none) = match s.all q.2 with | some t => runs t chs | none => none
    cases s.all q.2 with
    | none => rfl
    | some t => exact runs_slow b chs t
theorem Fm.Ok.slow {m : Fm} (o : m.Ok) {b : Nat} (hb : 1 ≤ b) (hl : m.len * b ≤ 9999) : (m.slow b).Ok := by
  refine ⟨o.fok, hl, ?_, fun q hq => ?_, ?_, by show (m.chs.map _).length ≤ 1000; rw [List.length_map]; exact o.few⟩
  · show Rise (m.len * b) 1 ((m.chs.map fun q => (q.1 * b, q.2)).map (·.1))
    have := rise_mul hb o.rise (lo' := 1) (by omega)
    rw [List.map_map] at this ⊢
    exact this
  · obtain ⟨x, hx, rfl⟩ := List.mem_map.mp hq
    exact o.ok x hx
  · obtain ⟨t, ht⟩ := o.goes
    exact ⟨t, (runs_slow b m.chs m.f).trans ht⟩
theorem upTo_slow {b : Nat} (hb : 1 ≤ b) (t : Nat) : ∀ (chs : List Ch) (s : Sc), upTo t s (chs.map fun q => (q.1 * b, q.2)) = upTo (t / b) s chs
  | [], s => rfl
  | q :: chs, s => by
    show (if q.1 * b ≤ t then upTo t ((s.all q.2).getD s) (chs.map fun q => (q.1 * b, q.2)) else upTo t s (chs.map fun q => (q.1 * b, q.2))) = if q.1 ≤ t / b then _ else _
    rw [upTo_slow hb t chs, upTo_slow hb t chs]
    by_cases h : q.1 ≤ t / b
    · rw [if_pos h, if_pos ((Nat.le_div_iff_mul_le (by omega)).mp h)]
    · rw [if_neg h, if_neg fun z => h ((Nat.le_div_iff_mul_le (by omega)).mpr z)]
theorem slow_at {m : Fm} {b : Nat} (hb : 1 ≤ b) (t : Nat) : (m.slow b).at t = m.at (t / b) := upTo_slow hb t m.chs m.f
theorem slow_cost (m : Fm) (b : Nat) : (m.slow b).cost = m.cost := by
  unfold Fm.cost Fm.slow
  show ((m.chs.map fun q => (q.1 * b, q.2)).map fun q => costs q.2).sum = _
  rw [List.map_map]
  rfl
theorem slow_slow (m : Fm) (a b : Nat) : (m.slow a).slow b = m.slow (a * b) := by
  unfold Fm.slow
  show (⟨m.f, m.len * a * b, (m.chs.map fun q => (q.1 * a, q.2)).map fun q => (q.1 * b, q.2)⟩ : Fm) = _
  rw [Nat.mul_assoc, List.map_map]
  congr 1
  refine List.map_congr_left fun q _ => ?_
  show (q.1 * a * b, q.2) = (q.1 * (a * b), q.2)
  rw [Nat.mul_assoc]
/-! ### the film of pairs -/
abbrev Pr := Nat × Sc
noncomputable def mkCh : Sc → List Pr → List Ch
  | _, [] => []
  | s, q :: r => (if PyData.eqv q.2.d s.d = true then [] else [(q.1, coS s q.2)]) ++ mkCh q.2 r
def thenF (t : Nat) : Sc → List Pr → Sc
  | s, [] => s
  | s, q :: r => if q.1 ≤ t then thenF t q.2 r else thenF t s r
/-- all of one size -/
def Alike (s : Sc) (r : List Pr) : Prop := ∀ q ∈ r, q.2.Ok ∧ q.2.h = s.h ∧ q.2.w = s.w
theorem Alike.tail {s : Sc} {q : Pr} {r : List Pr} (h : Alike s (q :: r)) : Alike q.2 r := fun x hx => by
  obtain ⟨_, b, c⟩ := h q List.mem_cons_self
  obtain ⟨d, e, f⟩ := h x (List.mem_cons_of_mem _ hx)
  exact ⟨d, e.trans b.symm, f.trans c.symm⟩
theorem mkCh_mem : ∀ {r : List Pr} {s : Sc} {c : Ch}, s.Ok → Alike s r → c ∈ mkCh s r → ((∀ p ∈ c.2, p.Ok) ∧ c.2.length ≤ 1000) ∧ ∃ q ∈ r, q.1 = c.1
  | [], s, c, _, _, h => (List.not_mem_nil h).elim
  | q :: r, s, c, os, al, h => by
    obtain ⟨oq, e1, e2⟩ := al q List.mem_cons_self
    rcases List.mem_append.mp h with z | z
    · split at z
      · exact (List.not_mem_nil z).elim
      · rw [List.mem_singleton.mp z]
        exact ⟨⟨(coS_done os oq e1 e2).2, coS_len os oq e1⟩, q, List.mem_cons_self, rfl⟩
    · obtain ⟨a, x, hx, e⟩ := mkCh_mem oq al.tail z
      exact ⟨a, x, List.mem_cons_of_mem _ hx, e⟩
theorem mkCh_rise {L hi : Nat} : ∀ {r : List Pr} {s : Sc} {lo lo' : Nat}, Rise hi lo (r.map (·.1)) → (∀ q ∈ r, q.1 ≤ L) → lo' ≤ lo → Rise L lo' ((mkCh s r).map (·.1))
  | [], s, lo, lo', _, _, _ => trivial
  | q :: r, s, lo, lo', ⟨h1, h2, h3⟩, hl, hlo => by
    show Rise L lo' ((((if PyData.eqv q.2.d s.d = true then [] else [(q.1, coS s q.2)]) ++ mkCh q.2 r)).map (·.1))
    have ql := hl q List.mem_cons_self
    have hl' : ∀ x ∈ r, x.1 ≤ L := fun x hx => hl x (List.mem_cons_of_mem _ hx)
    split
    · exact mkCh_rise h3 hl' (show lo' ≤ q.1 + 1 by have : lo ≤ q.1 := h1; omega)
    · exact ⟨Nat.le_trans hlo h1, ql, mkCh_rise h3 hl' (Nat.le_refl _)⟩
theorem mkCh_runs : ∀ {r : List Pr} {s : Sc}, s.Ok → Alike s r → ∃ t, runs s (mkCh s r) = some t
  | [], s, _, _ => ⟨s, rfl⟩
  | q :: r, s, os, al => by
    obtain ⟨oq, e1, e2⟩ := al q List.mem_cons_self
    obtain ⟨t, ht⟩ := mkCh_runs oq al.tail
    show ∃ t, runs s ((if PyData.eqv q.2.d s.d = true then [] else [(q.1, coS s q.2)]) ++ mkCh q.2 r) = some t
    by_cases h : PyData.eqv q.2.d s.d = true
    · rw [if_pos h]
      have := face_eq os oq e1 e2 h
      refine ⟨t, ?_⟩
      rw [List.nil_append, ← ht, this]
    · rw [if_neg h]
      refine ⟨t, ?_⟩
      show (match s.all (coS s q.2) with | some t => runs t (mkCh q.2 r) | none => none) = some t
      rw [(coS_done os oq e1 e2).1]
      exact ht
theorem mkCh_len : ∀ (r : List Pr) (s : Sc), (mkCh s r).length ≤ r.length
  | [], s => Nat.le_refl _
  | q :: r, s => by
    have := mkCh_len r q.2
    show ((if PyData.eqv q.2.d s.d = true then [] else [(q.1, coS s q.2)]) ++ mkCh q.2 r).length ≤ r.length + 1
    rw [List.length_append]
    split
    · show 0 + _ ≤ _
      omega
    · show 1 + _ ≤ _
      omega
theorem upTo_late {t : Nat} : ∀ {l : List Ch} {s : Sc}, (∀ q ∈ l, t < q.1) → upTo t s l = s
  | [], s, _ => rfl
  | q :: l, s, h => by
    have := h q List.mem_cons_self
    show (if q.1 ≤ t then _ else upTo t s l) = s
    rw [if_neg (by omega)]
    exact upTo_late fun x hx => h x (List.mem_cons_of_mem _ hx)
theorem then_late {t : Nat} : ∀ {l : List Pr} {s : Sc}, (∀ q ∈ l, t < q.1) → thenF t s l = s
  | [], s, _ => rfl
  | q :: l, s, h => by
    have := h q List.mem_cons_self
    show (if q.1 ≤ t then _ else thenF t s l) = s
    rw [if_neg (by omega)]
    exact then_late fun x hx => h x (List.mem_cons_of_mem _ hx)
theorem mkCh_shows {t hi : Nat} : ∀ {r : List Pr} {s : Sc} {lo : Nat}, s.Ok → Alike s r → Rise hi lo (r.map (·.1)) → upTo t s (mkCh s r) = thenF t s r
  | [], s, lo, _, _, _ => rfl
  | q :: r, s, lo, os, al, ⟨h1, h2, h3⟩ => by
    obtain ⟨oq, e1, e2⟩ := al q List.mem_cons_self
    have ih := mkCh_shows (t := t) oq al.tail h3
    by_cases ht : q.1 ≤ t
    · show upTo t s ((if PyData.eqv q.2.d s.d = true then [] else [(q.1, coS s q.2)]) ++ mkCh q.2 r) = if q.1 ≤ t then thenF t q.2 r else thenF t s r
      rw [if_pos ht]
      by_cases h : PyData.eqv q.2.d s.d = true
      · rw [if_pos h, List.nil_append, ← ih, face_eq os oq e1 e2 h]
      · rw [if_neg h, ← ih]
        show (if q.1 ≤ t then upTo t ((s.all (coS s q.2)).getD s) (mkCh q.2 r) else _) = _
        rw [if_pos ht, (coS_done os oq e1 e2).1]
        rfl
    · have late : ∀ x ∈ q :: r, t < x.1 := fun x hx => by
        rcases List.mem_cons.mp hx with rfl | z
        · omega
        · have := (rise_get h3 x.1 (List.mem_map.mpr ⟨x, z, rfl⟩)).1
          have : q.1 + 1 ≤ x.1 := this
          omega
      rw [then_late late, upTo_late fun c hc => ?_]
      obtain ⟨_, x, hx, e⟩ := mkCh_mem os al hc
      rw [← e]
      exact late x hx
/-! ### pairs as they are handed -/
structure Prs (s : Sc) (r : List Pr) : Prop where
  ok : s.Ok
  al : Alike s r
  rise : Rise 9999 1 (r.map (·.1))
  few : r.length ≤ 100
def lastT (r : List Pr) : Nat := (r.map (·.1)).getLastD 0
theorem rise_last {hi : Nat} : ∀ {ts : List Nat} {lo d : Nat}, Rise hi lo ts → d ≤ lo → (∀ t ∈ ts, t ≤ ts.getLastD d) ∧ d ≤ ts.getLastD d ∧ (d ≤ hi → ts.getLastD d ≤ hi)
  | [], lo, d, _, _ => ⟨fun t h => (List.not_mem_nil h).elim, Nat.le_refl _, fun h => h⟩
  | a :: ts, lo, d, ⟨h1, h2, h3⟩, hd => by
    obtain ⟨x, y, z⟩ := rise_last (d := a) h3 (by omega)
    have e : (a :: ts).getLastD d = ts.getLastD a := by
      cases ts <;> rfl
    rw [e]
    refine ⟨fun t ht => ?_, by omega, fun _ => z h2⟩
    rcases List.mem_cons.mp ht with rfl | q
    · exact y
    · exact x t q
noncomputable def filmOf (s : Sc) (r : List Pr) : Fm := ⟨s, lastT r, mkCh s r⟩
theorem filmOf_ok {s : Sc} {r : List Pr} (o : Prs s r) : (filmOf s r).Ok := by
  obtain ⟨a, b, c⟩ := rise_last (d := 0) o.rise (by decide)
  have ml := mkCh_len r s
  have fw := o.few
  exact ⟨o.ok, c (by decide), mkCh_rise o.rise (fun q hq => a q.1 (List.mem_map.mpr ⟨q, hq, rfl⟩)) (Nat.le_refl _), fun q hq => (mkCh_mem o.ok o.al hq).1, mkCh_runs o.ok o.al, by show (mkCh s r).length ≤ 1000; omega⟩
theorem filmOf_at {s : Sc} {r : List Pr} (o : Prs s r) (t : Nat) : (filmOf s r).at t = thenF t s r := mkCh_shows o.ok o.al o.rise
end K96

namespace K96
open PySem PySem.Spec PyProof.Rows L2 FP
section
variable {P : Program} {w : World} {K : PySem.W.Frag} {mg : Str → Option Value} {base : Heap} {f C CB CF : Addr} {fd : FuncData}
/-! ### need_film_face, need_length -/
def frNff : List PyData → Rs → Prop := fun ds q => ∃ s : Sc, s.Ok ∧ ds = [s.d] ∧ q = .ok .none
theorem sc_nff : FnScope ["face"] ["face"] (defScope s_need_film_face) := ⟨rfl, rfl, rfl, by decide +kernel, rfl, by decide +kernel, by decide +kernel⟩
theorem ok_nff (F : Df K "need_film_face" s_need_film_face f fd) (hm : mg "need_film_face" = some (.ref f)) (G : DefOk P w K mg base 5 "need_face" (frFace C)) : DefOk P w K mg base 6 "need_film_face" frNff := by
  refine def_ok F hm sc_nff (fun _ _ _ _ _ _ us hl => match us, hl with | [_], _ => rfl) (fun ds r h => by obtain ⟨_, _, rfl, _⟩ := h; rfl) (fun cdv A outer s H E qs ds r hr h => ?_)
  obtain ⟨t, o, rfl, rfl⟩ := h
  exact sd_tryNo (sd_exD (pd_call G hr (pds_cons (pd_var 0) pds_nil) (face_ok o.fc)) (sd_nil (sd_nil rfl)))
def frNl (CF : Addr) : List PyData → Rs → Prop := fun ds q => ∃ d, ds = [d] ∧ q = if isWithin d 0 9999 = true then .ok .none else .er CF
theorem sc_nl : FnScope ["length"] ["length"] (defScope s_need_length) := ⟨rfl, rfl, rfl, by decide +kernel, rfl, by decide +kernel, by decide +kernel⟩
theorem ok_nl (F : Df K "need_length" s_need_length f fd) (hm : mg "need_length" = some (.ref f)) (X1 : ExcF K mg "BadFilm" CF) (g : GlD K mg "MOST_TICK" (.int 9999)) (G : DefOk P w K mg base 2 "is_within" frWithin) : DefOk P w K mg base 3 "need_length" (frNl CF) := by
  refine def_ok F hm sc_nl (fun _ _ _ _ _ _ us hl => match us, hl with | [_], _ => rfl) (fun ds r h => by obtain ⟨_, rfl, _⟩ := h; rfl) (fun cdv A outer s H E qs ds r hr h => ?_)
  obtain ⟨d, rfl, rfl⟩ := h
  have tk : L2N.Takes (cxOf (L2N.CX P w) P w K mg base ["length"] "need_length" (defScope s_need_length) f cdv A outer s H E) (WOf E) := L2N.takes_of rfl rfl rfl rfl
  refine sd_if (pt_notd (pt_bool (pd_call G hr (pds_cons (pd_var 0) (pds_cons pd_int (pds_cons (pd_glob g) pds_nil))) ⟨d, 0, 9999, rfl, rfl⟩))) (fun hk => ?_) (fun hk => sd_nil (sd_nil ?_))
  · refine sd_raise X1 tk ?_ rfl
    show (if isWithin d 0 9999 = true then Rs.ok PyData.none else Rs.er CF) = Rs.er CF
    rw [if_neg (by rw [Bool.not_eq_true'] at hk; rw [hk]; exact Bool.false_ne_true)]
  · show (if isWithin d 0 9999 = true then Rs.ok PyData.none else Rs.er CF) = Rs.ok PyData.none
    rw [if_pos (by simpa using hk)]
/-! ### need_pairs -/
def frNps : List PyData → Rs → Prop := fun ds q => ∃ (items : List (Nat × PyData)) (lo hi : Nat), Rise hi lo (items.map (·.1)) ∧ (ds = [.tuple (items.map fun q => .tuple [.int (q.1 : Int), q.2]), .int (lo : Int), .int (hi : Int)] ∨ ds = [.list (items.map fun q => .tuple [.int (q.1 : Int), q.2]), .int (lo : Int), .int (hi : Int)]) ∧ q = .ok .none
abbrev NNp : List Str := ["pairs", "least", "most", "pair"]
theorem sc_nps : FnScope NNp ["pairs", "least", "most"] (defScope s_need_pairs) := ⟨rfl, rfl, rfl, by decide +kernel, rfl, by decide +kernel, by decide +kernel⟩
theorem ok_nps (F : Df K "need_pairs" s_need_pairs f fd) (hm : mg "need_pairs" = some (.ref f)) (G1 : DefOk P w K mg base 1 "is_tuple_of" frTupleOf) (G2 : DefOk P w K mg base 2 "is_within" frWithin) : DefOk P w K mg base 3 "need_pairs" frNps := by
  refine def_ok F hm sc_nps (fun _ _ _ _ _ _ us hl => match us, hl with | [_, _, _], _ => rfl) (fun ds r h => by obtain ⟨_, _, _, _, h, _⟩ := h; rcases h with rfl | rfl <;> rfl) (fun cdv A outer s H E qs ds r hr h => ?_)
  obtain ⟨items, lo, hi, ri, hd, rfl⟩ := h
  have tk : L2N.Takes (cxOf (L2N.CX P w) P w K mg base NNp "need_pairs" (defScope s_need_pairs) f cdv A outer s H E) (WOf E) := L2N.takes_of rfl rfl rfl rfl
  rcases hd with rfl | rfl
  all_goals
    refine sd_for 3 (items := items.map fun q => .tuple [.int (q.1 : Int), q.2]) (fun i δ' ω' => ω' = ⟨qs, []⟩ ∧ ∃ y0 y3 l, Rise hi l ((items.map fun (q : Nat × PyData) => q.1).drop i) ∧ δ' = [y0, some (.im (.int ((l : Nat) : Int))), some (.im (.int (hi : Int))), y3]) (by first | exact wk_tup (pd_var 0) | exact wk_lst (pd_var 0)) ⟨rfl, _, _, lo, ri, rfl⟩ ?_ ?_ (pg_name sc_nps.nd rfl (Or.inl rfl)) (passes_of rfl) rfl
    · rintro i d δ' ω' hd ⟨rfl, y0, y3, l, rl, rfl⟩
      rw [List.getElem?_map] at hd
      cases e : items[i]? with
      | none => rw [e] at hd; cases hd
      | some q =>
        rw [e] at hd
        cases hd
        have e2 : (items.map (·.1))[i]? = some q.1 := by rw [List.getElem?_map, e]; rfl
        obtain ⟨hl, e3⟩ := List.getElem?_eq_some_iff.mp e2
        rw [List.drop_eq_getElem_cons hl, e3] at rl
        obtain ⟨r1, r2, r3⟩ := rl
        refine sd_ifF (PTd.eq (pt_notd (pt_bool (pd_call G1 (hr.mono (by decide)) (pds_cons (pd_var 3) (pds_cons pd_int pds_nil)) ⟨_, 2, rfl, rfl⟩))) rfl) ?_
        refine sd_ifF (PTd.eq (pt_notd (pt_bool (pd_call G2 hr (pds_cons (pd_ixT (d := .int (q.1 : Int)) (pd_var 3) pd_int atI0) (pds_cons (pd_var 1) (pds_cons (pd_var 2) pds_nil))) ⟨_, _, _, rfl, rfl⟩))) ?_) ?_
        · show (!(decide ((l : Int) ≤ (q.1 : Int)) && decide ((q.1 : Int) ≤ (hi : Int)))) = false
          rw [decide_eq_true (by omega), decide_eq_true (by omega)]
          rfl
        · exact sd_set 1 (d := .int ((q.1 + 1 : Nat) : Int)) (PD.eq (pd_add (pd_ixT (d := .int (q.1 : Int)) (pd_var 3) pd_int atI0) pd_int) (by rw [Int.natCast_add]; rfl)) (sd_nil ⟨rfl, _, _, q.1 + 1, r3, rfl⟩) sc_nps.nd
    · rintro δ' ω' ⟨rfl, y0, y3, l, rl, rfl⟩
      exact sd_nil rfl
/-! ### next_face, need_film -/
def frNx : List PyData → Rs → Prop := fun ds q => ∃ (s t : Sc) (ps : List Pt), s.Ok ∧ (∀ p ∈ ps, p.Ok) ∧ s.all ps = some t ∧ ds = [s.d, .list (ps.map Pt.d)] ∧ q = .ok t.d
theorem sc_nx : FnScope ["face", "change"] ["face", "change"] (defScope s_next_face) := ⟨rfl, rfl, rfl, by decide +kernel, rfl, by decide +kernel, by decide +kernel⟩
theorem ok_nx (F : Df K "next_face" s_next_face f fd) (hm : mg "next_face" = some (.ref f)) (G1 : DefOk P w K mg base 4 "need_change" (frNeedC CB)) (G2 : DefOk P w K mg base 4 "parts_done" (frParts CB)) : DefOk P w K mg base 5 "next_face" frNx := by
  refine def_ok F hm sc_nx (fun _ _ _ _ _ _ us hl => match us, hl with | [_, _], _ => rfl) (fun ds r h => by obtain ⟨_, _, _, _, _, _, rfl, _⟩ := h; rfl) (fun cdv A outer s H E qs ds r hr h => ?_)
  obtain ⟨s0, t, ps, o, ok, e, rfl, rfl⟩ := h
  exact sd_tryNo (sd_exD (pd_call (d := .none) G1 hr (pds_cons (pd_var 1) pds_nil) ⟨_, rfl, parts_ok ok, by rw [parts_are ok]; rfl⟩) (sd_ret (pd_call (d := t.d) G2 hr (pds_cons (pd_var 0) (pds_cons (pd_var 1) pds_nil)) ⟨s0, ps, o, ok, rfl, by rw [e]; rfl⟩) rfl))
def frNf : List PyData → Rs → Prop := fun ds q => ∃ m : Fm, m.Ok ∧ ds = [m.d] ∧ q = .ok .none
abbrev NNf : List Str := ["film", "face", "length", "changes", "tick", "change"]
theorem sc_nf : FnScope NNf ["film"] (defScope s_need_film) := ⟨rfl, rfl, rfl, by decide +kernel, rfl, by decide +kernel, by decide +kernel⟩
theorem chD_pair (chs : List Ch) : chs.map chD = (chs.map fun q => [PyData.int (q.1 : Int), .list (q.2.map Pt.d)]).map .tuple := by
  rw [List.map_map]
  rfl
theorem runs_at {m : Fm} (o : m.Ok) : ∀ i, i ≤ m.chs.length → ∃ s, runs m.f (m.chs.take i) = some s ∧ s.Ok
  | 0, _ => ⟨m.f, rfl, o.fok⟩
  | i + 1, hi => by
    obtain ⟨s, e, os⟩ := runs_at o i (by omega)
    obtain ⟨u, hu⟩ := o.goes
    have hl : i < m.chs.length := by omega
    have et : m.chs.take (i + 1) = m.chs.take i ++ [m.chs[i]] := by rw [List.take_add_one, List.getElem?_eq_getElem hl]; rfl
    rw [← List.take_append_drop i m.chs, runs_app, e, List.drop_eq_getElem_cons hl] at hu
    have hu : (match s.all m.chs[i].2 with | some t => runs t (m.chs.drop (i + 1)) | none => none) = some u := hu
    cases e2 : s.all m.chs[i].2 with
    | none => rw [e2] at hu; cases hu
    | some s' =>
      refine ⟨s', ?_, (os.all (o.ok _ (List.getElem_mem hl)).1 e2).1⟩
      rw [et, runs_app, e]
      show (match s.all m.chs[i].2 with | some t => some t | none => none) = _
      rw [e2]
theorem ok_nf (F : Df K "need_film" s_need_film f fd) (hm : mg "need_film" = some (.ref f)) (B : Bl mg) (G0 : DefOk P w K mg base 1 "is_tuple_of" frTupleOf) (G1 : DefOk P w K mg base 6 "need_film_face" frNff) (G2 : DefOk P w K mg base 3 "need_length" (frNl CF)) (G3 : DefOk P w K mg base 3 "need_pairs" frNps) (G4 : DefOk P w K mg base 5 "next_face" frNx) : DefOk P w K mg base 7 "need_film" frNf := by
  refine def_ok F hm sc_nf (fun _ _ _ _ _ _ us hl => match us, hl with | [_], _ => rfl) (fun ds r h => by obtain ⟨_, _, rfl, _⟩ := h; rfl) (fun cdv A outer s H E qs ds r hr h => ?_)
  obtain ⟨m, o, rfl, rfl⟩ := h
  have top := o.top
  have few := o.few
  refine sd_ifF (PTd.eq (pt_notd (pt_bool (pd_call G0 (hr.mono (by decide)) (pds_cons (pd_var 0) (pds_cons pd_int pds_nil)) ⟨_, 3, rfl, rfl⟩))) rfl) ?_
  refine sd_unp [1, 2, 3] (pd_var 0) (pg_tup rfl (pgs_cons (pg_name sc_nf.nd rfl (Or.inl rfl)) (pgs_cons (pg_name sc_nf.nd rfl (Or.inl rfl)) (pgs_cons (pg_name sc_nf.nd rfl (Or.inl rfl)) pgs_nil)))) rfl rfl ?_
  refine sd_exD (pd_call G1 hr (pds_cons (pd_var 1) pds_nil) ⟨m.f, o.fok, rfl, rfl⟩) ?_
  refine sd_exD (pd_call (d := .none) G2 (hr.mono (by decide)) (pds_cons (pd_var 2) pds_nil) ⟨.int (m.len : Int), rfl, ?_⟩) ?_
  · show Rs.ok PyData.none = if (decide ((0 : Int) ≤ (m.len : Int)) && decide ((m.len : Int) ≤ 9999)) = true then Rs.ok PyData.none else Rs.er CF
    rw [decide_eq_true (by omega), decide_eq_true (by omega)]
    rfl
  refine sd_ifF (PTd.eq (pt_notd (k := true) (pt_bool (pd_isi B.isi B.tuple bb_tuple (pd_var 3) (k_tuple _)))) rfl) ?_
  refine sd_exD (pd_call (d := .none) G3 (hr.mono (by decide)) (pds_cons (pd_var 3) (pds_cons pd_int (pds_cons (pd_var 2) pds_nil))) ⟨m.chs.map fun q => (q.1, .list (q.2.map Pt.d)), 1, m.len, ?_, .inl ?_, rfl⟩) ?_
  · have := o.rise
    rw [List.map_map]
    exact this
  · rw [List.map_map]
    rfl
  refine sd_forU [4, 5] (n := 2) (items := m.chs.map fun q => [PyData.int (q.1 : Int), .list (q.2.map Pt.d)]) (fun i δ' ω' => ω' = ⟨qs, []⟩ ∧ ∃ y0 y2 y3 y4 y5 t, runs m.f (m.chs.take i) = some t ∧ δ' = [y0, some (.im t.d), y2, y3, y4, y5]) (wk_tup (PD.eq (pd_var 3) (by rw [chD_pair]))) ⟨rfl, _, _, _, _, _, m.f, rfl, rfl⟩ ?_ ?_ (fun ds hd => by obtain ⟨_, _, rfl⟩ := List.mem_map.mp hd; rfl) rfl (pg_tup rfl (pgs_cons (pg_name sc_nf.nd rfl (Or.inl rfl)) (pgs_cons (pg_name sc_nf.nd rfl (Or.inl rfl)) pgs_nil))) (passes_of rfl) rfl
  · rintro i d δ' ω' hd ⟨rfl, y0, y2, y3, y4, y5, t, et, rfl⟩
    rw [List.getElem?_map] at hd
    cases e : m.chs[i]? with
    | none => rw [e] at hd; cases hd
    | some q =>
      rw [e] at hd
      cases hd
      obtain ⟨hl, e3⟩ := List.getElem?_eq_some_iff.mp e
      obtain ⟨t1, e1, ot⟩ := runs_at o i (by omega)
      obtain ⟨t2, e2, ot2⟩ := runs_at o (i + 1) (by omega)
      rw [et] at e1
      cases e1
      have ea : t.all q.2 = some t2 := by
        have et1 : m.chs.take (i + 1) = m.chs.take i ++ [q] := by rw [List.take_add_one, e]; rfl
        rw [et1, runs_app, et] at e2
        have e2 : (match t.all q.2 with | some t => some t | none => none) = some t2 := e2
        cases h : t.all q.2 with
        | none => rw [h] at e2; cases e2
        | some x => rw [h] at e2; exact e2
      exact sd_set 1 (d := t2.d) (pd_call G4 (hr.mono (by decide)) (pds_cons (pd_var 1) (pds_cons (pd_var 5) pds_nil)) ⟨t, t2, q.2, ot, (o.ok q (List.mem_of_getElem? e)).1, ea, rfl, rfl⟩) (sd_nil ⟨rfl, _, _, _, _, _, t2, e2, rfl⟩) sc_nf.nd
  · rintro δ' ω' ⟨rfl, y0, y2, y3, y4, y5, t, et, rfl⟩
    exact sd_nil rfl
/-! ### face_up_to, face_at, cost_of -/
def frUp : List PyData → Rs → Prop := fun ds q => ∃ (m : Fm) (t : Nat), m.Ok ∧ ds = [m.d, .int (t : Int)] ∧ q = .ok (m.at t).d
abbrev NUp : List Str := ["film", "last", "face", "tick", "change"]
theorem sc_up : FnScope NUp ["film", "last"] (defScope s_face_up_to) := ⟨rfl, rfl, rfl, by decide +kernel, rfl, by decide +kernel, by decide +kernel⟩
theorem ok_up (F : Df K "face_up_to" s_face_up_to f fd) (hm : mg "face_up_to" = some (.ref f)) (G2 : DefOk P w K mg base 4 "parts_done" (frParts CB)) : DefOk P w K mg base 5 "face_up_to" frUp := by
  refine def_ok F hm sc_up (fun _ _ _ _ _ _ us hl => match us, hl with | [_, _], _ => rfl) (fun ds r h => by obtain ⟨_, _, _, rfl, _⟩ := h; rfl) (fun cdv A outer s H E qs ds r hr h => ?_)
  obtain ⟨m, t, o, rfl, rfl⟩ := h
  have few := o.few
  refine sd_set 2 (d := m.f.d) (pd_ixT (pd_var 0) pd_int atI0) ?_ sc_up.nd
  refine sd_forU [3, 4] (n := 2) (items := m.chs.map fun q => [PyData.int (q.1 : Int), .list (q.2.map Pt.d)]) (fun i δ' ω' => ω' = ⟨qs, []⟩ ∧ ∃ y0 y3 y4, δ' = [y0, some (.im (.int (t : Int))), some (.im (upTo t m.f (m.chs.take i)).d), y3, y4]) (wk_tup (PD.eq (pd_ixT (d := .tuple (m.chs.map chD)) (pd_var 0) pd_int (atI_nat (j := 2) rfl)) (by rw [chD_pair]))) ⟨rfl, _, _, _, rfl⟩ ?_ ?_ (fun ds hd => by obtain ⟨_, _, rfl⟩ := List.mem_map.mp hd; rfl) rfl (pg_tup rfl (pgs_cons (pg_name sc_up.nd rfl (Or.inl rfl)) (pgs_cons (pg_name sc_up.nd rfl (Or.inl rfl)) pgs_nil))) (passes_of rfl) rfl
  · rintro i d δ' ω' hd ⟨rfl, y0, y3, y4, rfl⟩
    rw [List.getElem?_map] at hd
    cases e : m.chs[i]? with
    | none => rw [e] at hd; cases hd
    | some q =>
      rw [e] at hd
      cases hd
      obtain ⟨ou, _, _⟩ := o.up t i
      refine sd_if (pt_cmpd op_le rd_B0 (pd_var 3) (pd_var 1) (nomark _)) (fun hk => ?_) (fun hk => ?_)
      · have hk := of_decide_eq_true hk
        rcases o.step t e with ⟨_, s', e1, e2⟩ | ⟨h, _⟩
        · subst e2
          exact sd_set 2 (d := (upTo t m.f (m.chs.take (i + 1))).d) (pd_call G2 hr (pds_cons (pd_var 2) (pds_cons (pd_var 4) pds_nil)) ⟨_, q.2, ou, (o.ok q (List.mem_of_getElem? e)).1, rfl, by rw [e1]; rfl⟩) (sd_nil (sd_nil ⟨rfl, _, _, _, rfl⟩)) sc_up.nd
        · exact absurd hk (by omega)
      · have hk := of_decide_eq_false hk
        rcases o.step t e with ⟨h, _⟩ | ⟨_, e2⟩
        · exact absurd (show (q.1 : Int) ≤ (t : Int) by omega) hk
        · rw [← e2]
          exact sd_nil (sd_nil ⟨rfl, _, _, _, rfl⟩)
  · rintro δ' ω' ⟨rfl, y0, y3, y4, rfl⟩
    rw [List.length_map, List.take_length]
    exact sd_ret (pd_var 2) rfl
def frAt (CF : Addr) : List PyData → Rs → Prop := fun ds q => ∃ (m : Fm) (d : PyData), m.Ok ∧ ds = [m.d, d] ∧ ((∃ t : Nat, d = .int (t : Int) ∧ t ≤ m.len ∧ q = .ok (m.at t).d) ∨ (isWithin d 0 (m.len : Int) = false ∧ q = .er CF))
theorem sc_at : FnScope ["film", "tick"] ["film", "tick"] (defScope s_face_at) := ⟨rfl, rfl, rfl, by decide +kernel, rfl, by decide +kernel, by decide +kernel⟩
theorem ok_at (F : Df K "face_at" s_face_at f fd) (hm : mg "face_at" = some (.ref f)) (X1 : ExcF K mg "BadFilm" CF) (G1 : DefOk P w K mg base 7 "need_film" frNf) (G2 : DefOk P w K mg base 2 "is_within" frWithin) (G3 : DefOk P w K mg base 5 "face_up_to" frUp) : DefOk P w K mg base 8 "face_at" (frAt CF) := by
  refine def_ok F hm sc_at (fun _ _ _ _ _ _ us hl => match us, hl with | [_, _], _ => rfl) (fun ds r h => by obtain ⟨_, _, _, rfl, _⟩ := h; rfl) (fun cdv A outer s H E qs ds r hr h => ?_)
  obtain ⟨m, d, o, rfl, h⟩ := h
  have tk : L2N.Takes (cxOf (L2N.CX P w) P w K mg base ["film", "tick"] "face_at" (defScope s_face_at) f cdv A outer s H E) (WOf E) := L2N.takes_of rfl rfl rfl rfl
  refine sd_exD (pd_call G1 hr (pds_cons (pd_var 0) pds_nil) ⟨m, o, rfl, rfl⟩) ?_
  refine sd_if (pt_notd (pt_bool (pd_call G2 (hr.mono (by decide)) (pds_cons (pd_var 1) (pds_cons pd_int (pds_cons (pd_ixT (d := .int (m.len : Int)) (pd_var 0) pd_int atI1) pds_nil))) ⟨d, 0, _, rfl, rfl⟩))) (fun hk => ?_) (fun hk => sd_nil ?_)
  · rcases h with ⟨t, rfl, hl, _⟩ | ⟨_, rfl⟩
    · have hk : (!(decide ((0 : Int) ≤ (t : Int)) && decide ((t : Int) ≤ (m.len : Int)))) = true := hk
      rw [decide_eq_true (by omega), decide_eq_true (by omega)] at hk
      cases hk
    · exact sd_raise X1 tk rfl rfl
  · rcases h with ⟨t, rfl, hl, rfl⟩ | ⟨hw, rfl⟩
    · exact sd_ret (pd_call G3 (hr.mono (by decide)) (pds_cons (pd_var 0) (pds_cons (pd_var 1) pds_nil)) ⟨m, t, o, rfl, rfl⟩) rfl
    · rw [hw] at hk
      cases hk
def frCof : List PyData → Rs → Prop := fun ds q => ∃ m : Fm, m.Ok ∧ ds = [m.d] ∧ q = .ok (.int m.cost)
abbrev NCf : List Str := ["film", "tick", "change"]
theorem sc_cof : FnScope NCf ["film"] (defScope s_cost_of) := ⟨rfl, rfl, rfl, by decide +kernel, rfl, by decide +kernel, by decide +kernel⟩
theorem ok_cof (F : Df K "cost_of" s_cost_of f fd) (hm : mg "cost_of" = some (.ref f)) (ms : mg "sum" = none) (G1 : DefOk P w K mg base 7 "need_film" frNf) (G2 : DefOk P w K mg base 2 "cost_of_parts" frCp) : DefOk P w K mg base 8 "cost_of" frCof := by
  refine def_ok F hm sc_cof (fun _ _ _ _ _ _ us hl => match us, hl with | [_], _ => rfl) (fun ds r h => by obtain ⟨_, _, rfl, _⟩ := h; rfl) (fun cdv A outer s H E qs ds r hr h => ?_)
  obtain ⟨m, o, rfl, rfl⟩ := h
  have few := o.few
  refine sd_exD (pd_call G1 hr (pds_cons (pd_var 0) pds_nil) ⟨m, o, rfl, rfl⟩) ?_
  refine sd_ret (d := .int m.cost) (pd_sumI (ns := m.chs.map fun q => costs q.2) rfl ms (PN.pl (pn_lc2 (n1 := "tick") (n2 := "change") (j1 := 1) (j2 := 2) (ls := m.chs.map fun q => (PyData.int (q.1 : Int), PyData.list (q.2.map Pt.d))) (zs := (m.chs.map fun q => costs q.2).map .int) rfl sc_cof.nd (PWk.ws (wk_tup (PD.eq (pd_ixT (d := .tuple (m.chs.map chD)) (pd_var 0) pd_int (atI_nat (j := 2) rfl)) ?e1))) (by simp) (by rw [List.length_map]; omega) (blkOk_by (N := NCf) (sc := defScope s_cost_of) (by decide +kernel)) (fun _ _ _ _ _ => pg_tup rfl (pgs_cons (pg_name sc_cof.nd rfl (Or.inl rfl)) (pgs_cons (pg_name sc_cof.nd rfl (Or.inl rfl)) pgs_nil))) ?el))) rfl
  case e1 =>
    rw [List.map_map]
    rfl
  case el =>
    intro k l x z hl hz D o2 s2 H2 C2 cl fp
    rw [List.getElem?_map] at hl
    rw [List.getElem?_map, List.getElem?_map] at hz
    cases e : m.chs[k]? with
    | none => rw [e] at hl; cases hl
    | some q =>
      rw [e] at hl hz
      cases hl
      cases hz
      obtain ⟨p1, p2⟩ := o.ok q (List.mem_of_getElem? e)
      exact pd_call G2 (hr.mono (by decide)) (pds_cons (pd_var 2) pds_nil) ⟨q.2, p1, p2, rfl, rfl⟩
/-! ### moved, slowed -/
def frMv : List PyData → Rs → Prop := fun ds q => ∃ (chs : List Ch) (b s : Nat), chs.length ≤ 1000 ∧ (∀ q ∈ chs, q.2.length ≤ 1000) ∧ b ≤ 9 ∧ ds = [.tuple (chs.map chD), .int (b : Int), .int (s : Int)] ∧ q = .ok (.list ((chs.map fun q => (q.1 * b + s, q.2)).map chD))
abbrev NMv : List Str := ["changes", "by", "start", "tick", "change"]
theorem sc_mv : FnScope NMv ["changes", "by", "start"] (defScope s_moved) := ⟨rfl, rfl, rfl, by decide +kernel, rfl, by decide +kernel, by decide +kernel⟩
theorem ok_mv (F : Df K "moved" s_moved f fd) (hm : mg "moved" = some (.ref f)) (ml : mg "list" = none) : DefOk P w K mg base 1 "moved" frMv := by
  refine def_ok F hm sc_mv (fun _ _ _ _ _ _ us hl => match us, hl with | [_, _, _], _ => rfl) (fun ds r h => by obtain ⟨_, _, _, _, _, _, rfl, _⟩ := h; rfl) (fun cdv A outer s H E qs ds r hr h => ?_)
  obtain ⟨chs, b, st, few, hq, hb, rfl, rfl⟩ := h
  refine sd_ret (PN.pd (pn_lc2 (n1 := "tick") (n2 := "change") (j1 := 3) (j2 := 4) (ls := chs.map fun q => (PyData.int (q.1 : Int), PyData.list (q.2.map Pt.d))) (zs := (chs.map fun (q : Ch) => ((q.1 * b + st, q.2) : Ch)).map chD) rfl sc_mv.nd (PWk.ws (wk_tup (PD.eq (pd_var 0) ?e1))) (by simp) (by rw [List.length_map]; omega) (blkOk_by (N := NMv) (sc := defScope s_moved) (by decide +kernel)) (fun _ _ _ _ _ => pg_tup rfl (pgs_cons (pg_name sc_mv.nd rfl (Or.inl rfl)) (pgs_cons (pg_name sc_mv.nd rfl (Or.inl rfl)) pgs_nil))) ?el)) rfl
  case e1 =>
    rw [List.map_map]
    rfl
  case el =>
    intro k l x z hl hz D o2 s2 H2 C2 cl fp
    rw [List.getElem?_map] at hl
    rw [List.getElem?_map, List.getElem?_map] at hz
    cases e : chs[k]? with
    | none => rw [e] at hl; cases hl
    | some q =>
      rw [e] at hl hz
      cases hl
      cases hz
      refine PD.eq (pd_tup (pds_cons (pd_add (pd_mulS (i := (q.1 : Int)) (j := (b : Int)) (Or.inr (by omega)) (pd_var 3) (pd_var 1)) (pd_var 2)) (pds_cons (PN.pd (pn_listL ml (PD.pl (pd_var 4)))) pds_nil))) ?_
      show PyData.tuple [.int ((q.1 : Int) * (b : Int) + (st : Int)), .list (q.2.map Pt.d)] = .tuple [.int ((q.1 * b + st : Nat) : Int), .list (q.2.map Pt.d)]
      rw [Int.natCast_add, Int.natCast_mul]
def frSl (CF : Addr) : List PyData → Rs → Prop := fun ds q => ∃ (m : Fm) (d : PyData), m.Ok ∧ ds = [m.d, d] ∧ ((∃ b : Nat, d = .int (b : Int) ∧ 1 ≤ b ∧ b ≤ 9 ∧ q = if m.len * b ≤ 9999 then .ok (m.slow b).d else .er CF) ∨ (isWithin d 1 9 = false ∧ q = .er CF))
abbrev NSl : List Str := ["film", "by", "length"]
theorem sc_sl : FnScope NSl ["film", "by"] (defScope s_slowed) := ⟨rfl, rfl, rfl, by decide +kernel, rfl, by decide +kernel, by decide +kernel⟩
theorem ok_sl (F : Df K "slowed" s_slowed f fd) (hm : mg "slowed" = some (.ref f)) (B : Bl mg) (X1 : ExcF K mg "BadFilm" CF) (g : GlD K mg "MOST_TIMES" (.int 9)) (G1 : DefOk P w K mg base 7 "need_film" frNf) (G2 : DefOk P w K mg base 2 "is_within" frWithin) (G3 : DefOk P w K mg base 3 "need_length" (frNl CF)) (G4 : DefOk P w K mg base 1 "moved" frMv) : DefOk P w K mg base 8 "slowed" (frSl CF) := by
  refine def_ok F hm sc_sl (fun _ _ _ _ _ _ us hl => match us, hl with | [_, _], _ => rfl) (fun ds r h => by obtain ⟨_, _, _, rfl, _⟩ := h; rfl) (fun cdv A outer s H E qs ds r hr h => ?_)
  obtain ⟨m, d, o, rfl, h⟩ := h
  have few := o.few
  have top := o.top
  have tk : L2N.Takes (cxOf (L2N.CX P w) P w K mg base NSl "slowed" (defScope s_slowed) f cdv A outer s H E) (WOf E) := L2N.takes_of rfl rfl rfl rfl
  refine sd_exD (pd_call G1 hr (pds_cons (pd_var 0) pds_nil) ⟨m, o, rfl, rfl⟩) ?_
  refine sd_if (pt_notd (pt_bool (pd_call G2 (hr.mono (by decide)) (pds_cons (pd_var 1) (pds_cons pd_int (pds_cons (pd_glob g) pds_nil))) ⟨d, 1, _, rfl, rfl⟩))) (fun hk => ?_) (fun hk => sd_nil ?_)
  · rcases h with ⟨b, rfl, h1, h9, _⟩ | ⟨_, rfl⟩
    · have hk : (!(decide ((1 : Int) ≤ (b : Int)) && decide ((b : Int) ≤ 9))) = true := hk
      rw [decide_eq_true (by omega), decide_eq_true (by omega)] at hk
      cases hk
    · exact sd_raise X1 tk rfl rfl
  · rcases h with ⟨b, rfl, h1, h9, rfl⟩ | ⟨hw, rfl⟩
    · have em : ((m.len * b : Nat) : Int) = (m.len : Int) * (b : Int) := Int.natCast_mul _ _
      refine sd_set 2 (d := .int ((m.len * b : Nat) : Int)) (PD.eq (pd_mulS (i := (m.len : Int)) (j := (b : Int)) (Or.inr (by omega)) (pd_ixT (d := .int (m.len : Int)) (pd_var 0) pd_int atI1) (pd_var 1)) (by rw [em])) ?_ sc_sl.nd
      refine sd_callX G3 (hr.mono (by decide)) tk (pds_cons (pd_var 2) pds_nil) ⟨_, rfl, rfl⟩ (fun d1 e1 => ?_) (fun Z e1 => ?_)
      · have hl : m.len * b ≤ 9999 := by
          by_cases hl : m.len * b ≤ 9999
          · exact hl
          · have z : isWithin (.int ((m.len * b : Nat) : Int)) 0 9999 = false := by
              show (decide ((0 : Int) ≤ ((m.len * b : Nat) : Int)) && decide (((m.len * b : Nat) : Int) ≤ 9999)) = false
              rw [decide_eq_false (p := ((m.len * b : Nat) : Int) ≤ 9999) (by omega), Bool.and_false]
            rw [z] at e1
            cases e1
        rw [if_pos hl]
        refine sd_ret (d := (m.slow b).d) (PD.eq (pd_tup (pds_cons (pd_ixT (d := m.f.d) (pd_var 0) pd_int atI0) (pds_cons (pd_var 2) (pds_cons (pd_tupleL B.tuple (PD.pl (pd_call G4 (hr.mono (by decide)) (pds_cons (pd_ixT (d := .tuple (m.chs.map chD)) (pd_var 0) pd_int (atI_nat (j := 2) rfl)) (pds_cons (pd_var 1) (pds_cons pd_int pds_nil))) ⟨m.chs, b, 0, few, fun q hq => (o.ok q hq).2, h9, rfl, rfl⟩))) pds_nil)))) rfl) rfl
      · have hl : ¬ m.len * b ≤ 9999 := fun hl => by
          have z : isWithin (.int ((m.len * b : Nat) : Int)) 0 9999 = true := by
            show (decide ((0 : Int) ≤ ((m.len * b : Nat) : Int)) && decide (((m.len * b : Nat) : Int) ≤ 9999)) = true
            rw [decide_eq_true (by omega), decide_eq_true (by omega)]
            rfl
          rw [z] at e1
          cases e1
        have z : isWithin (.int ((m.len * b : Nat) : Int)) 0 9999 = false := by
          show (decide ((0 : Int) ≤ ((m.len * b : Nat) : Int)) && decide (((m.len * b : Nat) : Int) ≤ 9999)) = false
          rw [decide_eq_false (p := ((m.len * b : Nat) : Int) ≤ 9999) (by omega), Bool.and_false]
        rw [z] at e1
        cases e1
        rw [if_neg hl]
        rfl
    · rw [hw] at hk
      cases hk
end
end K96

namespace K96
open PySem PySem.Spec PyProof.Rows L2 FP
theorem rd_neS {K : PySem.W.Frag} {n : Nat} {d e : PyData} (h : Shp n d) (he : d = e) (hn : n ≤ 64 := by decide) : RD K (rNeD K) d e (.bool false) := by
  subst he
  have := rd_neD (K := K) (h.ok hn) (h.ok hn)
  rw [h.refl] at this
  exact this
def prD (q : Pr) : PyData := .tuple [.int (q.1 : Int), q.2.d]
def curF : Sc → List Pr → Sc
  | s, [] => s
  | _, q :: r => curF q.2 r
theorem curF_snoc : ∀ (l : List Pr) (s : Sc) (q : Pr), curF s (l ++ [q]) = q.2
  | [], s, q => rfl
  | x :: l, s, q => curF_snoc l x.2 q
theorem mkCh_snoc : ∀ (l : List Pr) (s : Sc) (q : Pr), mkCh s (l ++ [q]) = mkCh s l ++ (if PyData.eqv q.2.d (curF s l).d = true then [] else [(q.1, coS (curF s l) q.2)])
  | [], s, q => by
    show (if PyData.eqv q.2.d s.d = true then [] else [(q.1, coS s q.2)]) ++ [] = [] ++ (if PyData.eqv q.2.d s.d = true then [] else [(q.1, coS s q.2)])
    rw [List.append_nil, List.nil_append]
  | x :: l, s, q => by
    show (if PyData.eqv x.2.d s.d = true then [] else [(x.1, coS s x.2)]) ++ mkCh x.2 (l ++ [q]) = ((if PyData.eqv x.2.d s.d = true then [] else [(x.1, coS s x.2)]) ++ mkCh x.2 l) ++ (if PyData.eqv q.2.d (curF x.2 l).d = true then [] else [(q.1, coS (curF x.2 l) q.2)])
    rw [mkCh_snoc l x.2 q, List.append_assoc]
theorem curF_ok {s : Sc} : ∀ {l : List Pr} {u : Sc}, u.Ok → u.h = s.h → u.w = s.w → Alike s l → (curF u l).Ok ∧ (curF u l).h = s.h ∧ (curF u l).w = s.w
  | [], u, o, h, w, _ => ⟨o, h, w⟩
  | q :: l, u, _, _, _, al => by
    obtain ⟨a, b, c⟩ := al q List.mem_cons_self
    show (curF q.2 l).Ok ∧ (curF q.2 l).h = s.h ∧ (curF q.2 l).w = s.w
    exact curF_ok (l := l) a b c fun x hx => al x (List.mem_cons_of_mem _ hx)
theorem two_shp (i j : Int) : Shp 1 (.tuple [.int i, .int j]) := .tup fun x hx => by
  simp only [List.mem_cons, List.not_mem_nil, or_false] at hx
  rcases hx with rfl | rfl <;> exact .int _
theorem lastT_cons {s : Sc} {r l0 : List Pr} {q : Pr} (h : (0, s) :: r = l0 ++ [q]) : lastT r = q.1 := by
  unfold lastT
  cases r with
  | nil =>
    cases l0 with
    | nil =>
      have : (0, s) = q := by simpa using h
      rw [← this]
      rfl
    | cons x l0 => simp at h
  | cons x r =>
    cases l0 with
    | nil => simp at h
    | cons y l0 =>
      have h2 : x :: r = l0 ++ [q] := by
        have := congrArg List.tail h
        exact this
      rw [h2, List.map_append]
      show (l0.map (·.1) ++ [q.1]).getLastD 0 = q.1
      rw [List.getLastD_eq_getLast?, List.getLast?_append]
      rfl
section
variable {P : Program} {w : World} {K : PySem.W.Frag} {mg : Str → Option Value} {base : Heap} {f C CB CF : Addr} {fd : FuncData}
/-! ### need_faces_by_ticks, filmed -/
def frNft : List PyData → Rs → Prop := fun ds q => ∃ (s : Sc) (r : List Pr), Prs s r ∧ ds = [.list (((0, s) :: r).map prD)] ∧ q = .ok .none
abbrev NFt : List Str := ["pairs", "tick", "face"]
theorem sc_nft : FnScope NFt ["pairs"] (defScope s_need_faces_by_ticks) := ⟨rfl, rfl, rfl, by decide +kernel, rfl, by decide +kernel, by decide +kernel⟩
theorem prD_pair (ps : List Pr) : ps.map prD = (ps.map fun (q : Pr) => [PyData.int (q.1 : Int), q.2.d]).map .tuple := by
  rw [List.map_map]
  rfl
theorem prs_all {s : Sc} {r : List Pr} (o : Prs s r) : Alike s ((0, s) :: r) := fun x hx => by
  rcases List.mem_cons.mp hx with rfl | q
  · exact ⟨o.ok, rfl, rfl⟩
  · exact o.al x q
theorem ok_nft (F : Df K "need_faces_by_ticks" s_need_faces_by_ticks f fd) (hm : mg "need_faces_by_ticks" = some (.ref f)) (B : Bl mg) (ml : mg "list" = none) (g : GlD K mg "MOST_TICK" (.int 9999)) (G1 : DefOk P w K mg base 3 "need_pairs" frNps) (G2 : DefOk P w K mg base 6 "need_film_face" frNff) (G3 : DefOk P w K mg base 1 "size_of" frSo) : DefOk P w K mg base 7 "need_faces_by_ticks" frNft := by
  refine def_ok F hm sc_nft (fun _ _ _ _ _ _ us hl => match us, hl with | [_], _ => rfl) (fun ds r h => by obtain ⟨_, _, _, rfl, _⟩ := h; rfl) (fun cdv A outer s H E qs ds r hr h => ?_)
  obtain ⟨s0, r, o, rfl, rfl⟩ := h
  have al := prs_all o
  refine sd_ifF (PTd.eq (PWd.pt (pw_ord (pt_notd (k := true) (pt_bool (pd_isi B.isi ml bb_list (pd_var 0) (k_list _)))) (fun _ => pw_or1d (pt_notd (pt_truPL (PD.pl (pd_var 0))))))) rfl) ?_
  refine sd_exD (pd_call (d := .none) G1 (hr.mono (by decide)) (pds_cons (pd_var 0) (pds_cons pd_int (pds_cons (pd_glob g) pds_nil))) ⟨((0, s0) :: r).map fun (q : Pr) => (q.1, q.2.d), 0, 9999, ?_, .inr ?_, rfl⟩) ?_
  · refine ⟨Nat.le_refl _, by show 0 ≤ 9999; decide, ?_⟩
    have := o.rise
    rw [List.map_map]
    exact this
  · rw [List.map_map]
    rfl
  refine sd_ifF (PTd.eq (pt_cmpd op_ne rd_neI (pd_ixT (d := .int 0) (pd_ixL (d := prD (0, s0)) (PD.pl (pd_var 0)) pd_int atI0) pd_int atI0) pd_int (nomark _)) rfl) ?_
  refine sd_forU [1, 2] (n := 2) (items := ((0, s0) :: r).map fun (q : Pr) => [PyData.int (q.1 : Int), q.2.d]) (fun i δ' ω' => ω' = ⟨qs, []⟩ ∧ ∃ y1 y2, δ' = [some (.im (.list (((0, s0) :: r).map prD))), y1, y2]) (wk_lst (PD.eq (pd_var 0) (by rw [prD_pair]))) ⟨rfl, _, _, rfl⟩ ?_ ?_ (fun ds hd => by obtain ⟨_, _, rfl⟩ := List.mem_map.mp hd; rfl) rfl (pg_tup rfl (pgs_cons (pg_name sc_nft.nd rfl (Or.inl rfl)) (pgs_cons (pg_name sc_nft.nd rfl (Or.inl rfl)) pgs_nil))) (passes_of rfl) rfl
  · rintro i d δ' ω' hd ⟨rfl, y1, y2, rfl⟩
    rw [List.getElem?_map] at hd
    cases e : ((0, s0) :: r)[i]? with
    | none => rw [e] at hd; cases hd
    | some q =>
      rw [e] at hd
      cases hd
      obtain ⟨oq, e1, e2⟩ := al q (List.mem_of_getElem? e)
      refine sd_exD (pd_call G2 hr (pds_cons (pd_var 2) pds_nil) ⟨q.2, oq, rfl, rfl⟩) ?_
      exact sd_ifF (pt_cmpd (op_neD hr.units) (rd_neS (two_shp (q.2.h : Int) (q.2.w : Int)) (e := .tuple [.int (s0.h : Int), .int (s0.w : Int)]) (by rw [e1, e2])) (pd_call G3 (hr.mono (by decide)) (pds_cons (pd_var 2) pds_nil) ⟨q.2, oq, rfl, rfl⟩) (pd_call G3 (hr.mono (by decide)) (pds_cons (pd_ixT (d := s0.d) (pd_ixL (d := prD (0, s0)) (PD.pl (pd_var 0)) pd_int atI0) pd_int atI1) pds_nil) ⟨s0, o.ok, rfl, rfl⟩) (nomark _)) (sd_nil ⟨rfl, _, _, rfl⟩)
  · rintro δ' ω' ⟨rfl, y1, y2, rfl⟩
    exact sd_nil rfl
def frFd : List PyData → Rs → Prop := fun ds q => ∃ (s : Sc) (r : List Pr), Prs s r ∧ ds = [.list (((0, s) :: r).map prD)] ∧ q = .ok (filmOf s r).d
abbrev NFd : List Str := ["pairs", "changes", "face", "tick", "later"]
theorem sc_fd : FnScope NFd ["pairs"] (defScope s_filmed) := ⟨rfl, rfl, rfl, by decide +kernel, rfl, by decide +kernel, by decide +kernel⟩
theorem ok_fd (F : Df K "filmed" s_filmed f fd) (hm : mg "filmed" = some (.ref f)) (B : Bl mg) (G1 : DefOk P w K mg base 7 "need_faces_by_ticks" frNft) (G2 : DefOk P w K mg base 8 "change_of" frCo) : DefOk P w K mg base 9 "filmed" frFd := by
  refine def_ok F hm sc_fd (fun _ _ _ _ _ _ us hl => match us, hl with | [_], _ => rfl) (fun ds r h => by obtain ⟨_, _, _, rfl, _⟩ := h; rfl) (fun cdv A outer s H E qs ds r hr h => ?_)
  obtain ⟨s0, r, o, rfl, rfl⟩ := h
  have al := prs_all o
  have few := o.few
  refine sd_exD (pd_call G1 (hr.mono (by decide)) (pds_cons (pd_var 0) pds_nil) ⟨s0, r, o, rfl, rfl⟩) ?_
  refine sd_ownP 1 (pn_lst pds_nil) (fun D hD => ?_) sc_fd.nd
  refine sd_set 2 (d := s0.d) (pd_ixT (d := s0.d) (pd_ixL (d := prD (0, s0)) (PD.pl (pd_var 0)) pd_int atI0) pd_int atI1) ?_ sc_fd.nd
  refine sd_forU [3, 4] (n := 2) (items := ((0, s0) :: r).map fun (q : Pr) => [PyData.int (q.1 : Int), q.2.d]) (fun i δ' ω' => ω' = ⟨qs, [(D, .lst (((mkCh s0 (((0, s0) :: r).take i)).map chD).map .im))]⟩ ∧ ∃ y3 y4, δ' = [some (.im (.list (((0, s0) :: r).map prD))), some (.ad D), some (.im (curF s0 (((0, s0) :: r).take i)).d), y3, y4]) (wk_lst (PD.eq (pd_var 0) (by rw [prD_pair]))) ⟨rfl, _, _, rfl⟩ ?_ ?_ (fun ds hd => by obtain ⟨_, _, rfl⟩ := List.mem_map.mp hd; rfl) rfl (pg_tup rfl (pgs_cons (pg_name sc_fd.nd rfl (Or.inl rfl)) (pgs_cons (pg_name sc_fd.nd rfl (Or.inl rfl)) pgs_nil))) (passes_of rfl) rfl
  · rintro i d δ' ω' hd ⟨rfl, y3, y4, rfl⟩
    rw [List.getElem?_map] at hd
    cases e : ((0, s0) :: r)[i]? with
    | none => rw [e] at hd; cases hd
    | some q =>
      rw [e] at hd
      cases hd
      obtain ⟨oq, e1, e2⟩ := al q (List.mem_of_getElem? e)
      have et : ((0, s0) :: r).take (i + 1) = ((0, s0) :: r).take i ++ [q] := by rw [List.take_add_one, e]; rfl
      obtain ⟨oc, c1, c2⟩ := curF_ok (s := s0) (l := ((0, s0) :: r).take i) o.ok rfl rfl fun x hx => al x (List.mem_of_mem_take hx)
      have ml1 := mkCh_len (((0, s0) :: r).take i) s0
      rw [List.length_take, List.length_cons] at ml1
      generalize hcur : curF s0 (((0, s0) :: r).take i) = cu at oc c1 c2
      refine sd_if (pt_cmpd (op_neD hr.units) (rd_neD (oq.fc.shp.ok (by decide)) (oc.fc.shp.ok (by decide))) (pd_var 4) (pd_var 2) (nomark _)) (fun hk => ?_) (fun hk => sd_nil (sd_set 2 (d := q.2.d) (pd_var 4) (sd_nil ?_) sc_fd.nd))
      · have hk : PyData.eqv q.2.d cu.d = false := by simpa using hk
        refine sd_appS (j := 0) (d := chD (q.1, coS cu q.2)) (ps1_var 1) rfl (pd_tup (pds_cons (pd_var 3) (pds_cons (pd_call G2 hr (pds_cons (pd_var 2) (pds_cons (pd_var 4) pds_nil)) ⟨cu, q.2, oc, oq, e1.trans c1.symm, e2.trans c2.symm, rfl, rfl⟩) pds_nil))) (sd_nil (sd_set 2 (d := q.2.d) (pd_var 4) (sd_nil ?_) sc_fd.nd)) (by rw [List.length_map, List.length_map]; omega)
        have em : mkCh s0 (((0, s0) :: r).take (i + 1)) = mkCh s0 (((0, s0) :: r).take i) ++ [(q.1, coS cu q.2)] := by
          rw [et, mkCh_snoc, hcur, if_neg (by rw [hk]; exact Bool.false_ne_true)]
        refine ⟨?_, some (.im (.int (q.1 : Int))), some (.im q.2.d), ?_⟩
        · rw [em, List.map_append, List.map_append]
          rfl
        · rw [et, curF_snoc]
          rfl
      · have hk : PyData.eqv q.2.d cu.d = true := by simpa using hk
        have em : mkCh s0 (((0, s0) :: r).take (i + 1)) = mkCh s0 (((0, s0) :: r).take i) := by
          rw [et, mkCh_snoc, hcur, if_pos hk, List.append_nil]
        refine ⟨?_, some (.im (.int (q.1 : Int))), some (.im q.2.d), ?_⟩
        · rw [em]
        · rw [et, curF_snoc]
          rfl
  · rintro δ' ω' ⟨rfl, y3, y4, rfl⟩
    rw [List.length_map, List.take_length]
    obtain ⟨l0, q, hl⟩ : ∃ l0 q, (0, s0) :: r = l0 ++ [q] := by
      rcases List.eq_nil_or_concat ((0, s0) :: r) with e | ⟨l0, q, e⟩
      · cases e
      · exact ⟨l0, q, by rw [e, List.concat_eq_append]⟩
    have em : mkCh s0 ((0, s0) :: r) = mkCh s0 r := by
      show (if PyData.eqv s0.d s0.d = true then [] else [(0, coS s0 s0)]) ++ mkCh s0 r = _
      rw [if_pos o.ok.fc.shp.refl, List.nil_append]
    refine sd_ret (d := (filmOf s0 r).d) (PD.eq (pd_tup (pds_cons (pd_ixT (d := s0.d) (pd_ixL (d := prD (0, s0)) (PD.pl (pd_var 0)) pd_int atI0) pd_int atI1) (pds_cons (pd_ixT (d := .int (q.1 : Int)) (pd_ixL (d := prD q) (PD.pl (pd_var 0)) (pd_neg pd_int) ?_) pd_int atI0) (pds_cons (pd_tupleL B.tuple (pl_var 1 List.mem_cons_self)) pds_nil)))) ?_) rfl
    · rw [hl, List.map_append]
      exact atI_last
    · rw [em, ← lastT_cons hl]
      rfl
/-! ### the law's pairs -/
end
end K96

namespace K96
open PySem PySem.Spec PyProof.Rows L2 FP
/-! ### the law's pairs -/
def seqP (m : Int) (s0 : Sc) : Nat → Pr
  | 0 => (0, s0)
  | j + 1 => ((seqP m s0 j).1 + 1 + (drawn m (20 + (j : Int)) / 8 % 7).toNat, if drawn m (20 + (j : Int)) % 5 > 0 then otherS (drawn (drawn m (20 + (j : Int))) 1) (seqP m s0 j).2 else (seqP m s0 j).2)
theorem seqP_ok {m : Int} {s0 : Sc} (o : s0.Ok) : ∀ j, (seqP m s0 j).2.Ok ∧ (seqP m s0 j).2.h = s0.h ∧ (seqP m s0 j).2.w = s0.w
  | 0 => ⟨o, rfl, rfl⟩
  | j + 1 => by
    obtain ⟨a, b, c⟩ := seqP_ok (m := m) o j
    show (if drawn m (20 + (j : Int)) % 5 > 0 then otherS (drawn (drawn m (20 + (j : Int))) 1) (seqP m s0 j).2 else (seqP m s0 j).2).Ok ∧ _
    show _ ∧ (if drawn m (20 + (j : Int)) % 5 > 0 then otherS (drawn (drawn m (20 + (j : Int))) 1) (seqP m s0 j).2 else (seqP m s0 j).2).h = _ ∧ (if drawn m (20 + (j : Int)) % 5 > 0 then otherS (drawn (drawn m (20 + (j : Int))) 1) (seqP m s0 j).2 else (seqP m s0 j).2).w = _
    split
    · exact ⟨otherS_ok a _, b, c⟩
    · exact ⟨a, b, c⟩
theorem seqP_step (m : Int) (s0 : Sc) (j : Nat) : (seqP m s0 j).1 + 1 ≤ (seqP m s0 (j + 1)).1 ∧ (seqP m s0 (j + 1)).1 ≤ (seqP m s0 j).1 + 7 := by
  have q1 := Int.emod_nonneg (drawn m (20 + (j : Int)) / 8) (show (7 : Int) ≠ 0 by decide)
  have q2 := Int.emod_lt_of_pos (drawn m (20 + (j : Int)) / 8) (show (0 : Int) < 7 by decide)
  show (seqP m s0 j).1 + 1 ≤ (seqP m s0 j).1 + 1 + (drawn m (20 + (j : Int)) / 8 % 7).toNat ∧ (seqP m s0 j).1 + 1 + (drawn m (20 + (j : Int)) / 8 % 7).toNat ≤ _
  omega
theorem seqP_le (m : Int) (s0 : Sc) : ∀ j, (seqP m s0 j).1 ≤ 7 * j
  | 0 => Nat.le_refl _
  | j + 1 => by
    have := seqP_le m s0 j
    have := (seqP_step m s0 j).2
    omega
def restP (m : Int) (s0 : Sc) (n : Nat) : List Pr := (List.range n).map fun j => seqP m s0 (j + 1)
theorem restP_len (m : Int) (s0 : Sc) (n : Nat) : (restP m s0 n).length = n := by
  unfold restP
  rw [List.length_map, List.length_range]
theorem restP_succ (m : Int) (s0 : Sc) (n : Nat) : restP m s0 (n + 1) = restP m s0 n ++ [seqP m s0 (n + 1)] := by
  unfold restP
  rw [List.range_succ, List.map_append]
  rfl
theorem listP_last (m : Int) (s0 : Sc) : ∀ n, ∃ l, (0, s0) :: restP m s0 n = l ++ [seqP m s0 n]
  | 0 => ⟨[], rfl⟩
  | n + 1 => ⟨(0, s0) :: restP m s0 n, by rw [restP_succ]; rfl⟩
theorem rise_fn {hi : Nat} {g : Nat → Nat} (hg : ∀ j, g j + 1 ≤ g (j + 1)) : ∀ (n k : Nat), (∀ j, j ≤ n → g (k + j) ≤ hi) → Rise hi (g k + 1) ((List.range n).map fun j => g (k + j + 1))
  | 0, k, _ => trivial
  | n + 1, k, h => by
    rw [List.range_succ_eq_map, List.map_cons, List.map_map]
    refine ⟨hg k, h 1 (by omega), ?_⟩
    have ih := rise_fn hg n (k + 1) fun j hj => by
      have := h (j + 1) (by omega)
      rwa [show k + 1 + j = k + (j + 1) by omega]
    have e : (fun j => g (k + 1 + j + 1)) = (fun j => g (k + j + 1)) ∘ Nat.succ := funext fun j => by
      show g (k + 1 + j + 1) = g (k + (j + 1) + 1)
      rw [show k + 1 + j + 1 = k + (j + 1) + 1 by omega]
    rw [e] at ih
    exact ih
theorem prs_of {m : Int} {s0 : Sc} (o : s0.Ok) {n : Nat} (hn : n ≤ 100) : Prs s0 (restP m s0 n) := by
  refine ⟨o, fun q hq => ?_, ?_, by rw [restP_len]; exact hn⟩
  · obtain ⟨j, _, rfl⟩ := List.mem_map.mp hq
    exact seqP_ok o _
  · have := rise_fn (hi := 9999) (g := fun j => (seqP m s0 j).1) (fun j => (seqP_step m s0 j).1) n 0 fun j hj => by
      have := seqP_le m s0 (0 + j)
      show (seqP m s0 (0 + j)).1 ≤ 9999
      omega
    unfold restP
    rw [List.map_map]
    have e : (fun j => (seqP m s0 (0 + j + 1)).1) = (fun (q : Pr) => q.1) ∘ fun j => seqP m s0 (j + 1) := funext fun j => by
      show (seqP m s0 (0 + j + 1)).1 = (seqP m s0 (j + 1)).1
      rw [Nat.zero_add]
    rw [e] at this
    exact this
def minN (i : Int) (j : Nat) : Nat := if (j : Int) < i then j else i.toNat
theorem minN_b {i : Int} {j : Nat} (h1 : 1 ≤ i) (h2 : 1 ≤ j) : 1 ≤ minN i j ∧ minN i j ≤ j ∧ (if (j : Int) < i then (j : Int) else i) = (minN i j : Int) := by
  unfold minN
  split <;> omega
def hP (m : Int) : Nat := minN (sizeD m).1 5
def wP (m : Int) : Nat := minN (sizeD m).2 9
section
variable {P : Program} {w : World} {K : PySem.W.Frag} {mg : Str → Option Value} {base : Heap} {f C CB CF : Addr} {fd : FuncData}
def frLPrs : List PyData → Rs → Prop := fun ds q => ∃ (m : Int) (most : Nat) (s0 : Sc), most ≤ 8 ∧ s0.Ok ∧ faceL (drawn m 1) (hP m) (wP m) = s0.d ∧ ds = [.int m, .int (most : Int)] ∧ q = .ok (.list (((0, s0) :: restP m s0 (modN (m / 65536) (most + 1))).map prD))
abbrev NLr : List Str := ["_law_more", "_law_most", "_law_height", "_law_width", "_law_face_here", "_law_pairs_here", "_law_j", "_law_here"]
theorem sc_lprs : FnScope NLr ["_law_more", "_law_most"] (defScope s__law_pairs) := ⟨rfl, rfl, rfl, by decide +kernel, rfl, by decide +kernel, by decide +kernel⟩
theorem ok_lprs (F : Df K "_law_pairs" s__law_pairs f fd) (hm : mg "_law_pairs" = some (.ref f)) (B : Bl mg) (G1 : DefOk P w K mg base 1 "_law_drawn" frDrawn) (G2 : DefOk P w K mg base 1 "_law_size" frLSize) (G3 : DefOk P w K mg base 2 "_law_face" frLFace) (G4 : DefOk P w K mg base 2 "_law_other" frOther) : DefOk P w K mg base 3 "_law_pairs" frLPrs := by
  refine def_ok F hm sc_lprs (fun _ _ _ _ _ _ us hl => match us, hl with | [_, _], _ => rfl) (fun ds r h => by obtain ⟨_, _, _, _, _, _, rfl, _⟩ := h; rfl) (fun cdv A outer s H E qs ds r hr h => ?_)
  obtain ⟨m, most, s0, hmost, o, ef, rfl, rfl⟩ := h
  obtain ⟨b1, b2, b3, b4⟩ := size_le m
  obtain ⟨c1, c2, c3⟩ := minN_b (i := (sizeD m).1) (j := 5) b1 (by decide)
  obtain ⟨d1, d2, d3⟩ := minN_b (i := (sizeD m).2) (j := 9) b3 (by decide)
  refine sd_unp [2, 3] (pd_call G2 (hr.mono (by decide)) (pds_cons (pd_var 0) pds_nil) ⟨_, rfl, rfl⟩) (pg_tup rfl (pgs_cons (pg_name sc_lprs.nd rfl (Or.inl rfl)) (pgs_cons (pg_name sc_lprs.nd rfl (Or.inl rfl)) pgs_nil))) rfl rfl ?_
  refine sd_set 4 (d := s0.d) (PD.eq (pd_call G3 hr (pds_cons (pd_call G1 (hr.mono (by decide)) (pds_cons (pd_var 0) (pds_cons pd_int pds_nil)) ⟨_, _, rfl, rfl⟩) (pds_cons (PD.eq (pd_min rfl B.min (pd_var 2) pd_int) (congrArg PyData.int c3)) (pds_cons (PD.eq (pd_min rfl B.min (pd_var 3) pd_int) (congrArg PyData.int d3)) pds_nil))) ⟨_, hP m, wP m, rfl, c1, by show minN _ 5 ≤ 10; omega, d1, by show minN _ 9 ≤ 20; omega, rfl⟩) ef) ?_ sc_lprs.nd
  obtain ⟨n1, n2⟩ := modN_lt (m / 65536) (n := most + 1) (by omega)
  generalize modN (m / 65536) (most + 1) = n at n1 n2
  refine sd_ownP 5 (ds := [(0, s0)].map prD) (pn_lst (pds_cons (pd_tup (pds_cons pd_int (pds_cons (pd_var 4) pds_nil))) pds_nil) (by show 1 ≤ 1000; decide)) (fun D hD => ?_) sc_lprs.nd
  refine sd_for 6 (items := rangeD 0 ((n : Nat) : Int).toNat) (fun i δ' ω' => ω' = ⟨qs, [(D, .lst ((((0, s0) :: restP m s0 i).map prD).map .im))]⟩ ∧ ∃ y2 y3 y6 y7, δ' = [some (.im (.int m)), some (.im (.int (most : Int))), y2, y3, some (.im (seqP m s0 i).2.d), some (.ad D), y6, y7]) (wk_range1 (j := (n : Int)) B.range (PD.eq (pd_mod (show (0 : Int) < (most : Int) + 1 by omega) (pd_fdiv (wide_div (b := 17) (by decide) (by decide) (by decide) (by decide)) (pd_var 0) pd_int) (pd_add (pd_var 1) pd_int)) (congrArg PyData.int (by rw [← n2, Int.natCast_add]; rfl))) (by omega)) ⟨rfl, _, _, _, _, rfl⟩ ?_ ?_ (pg_name sc_lprs.nd rfl (Or.inl rfl)) (passes_of rfl) rfl
  · rintro i d δ' ω' hd ⟨rfl, y2, y3, y6, y7, rfl⟩
    obtain ⟨hj, rfl⟩ := rangeD_at hd
    have hj : i < n := by simpa using hj
    obtain ⟨oi, hi1, hi2⟩ := seqP_ok (m := m) o i
    have rl := restP_len m s0 i
    obtain ⟨l, el⟩ := listP_last m s0 i
    refine sd_set 7 (d := .int (drawn m (20 + (i : Int)))) (pd_call G1 (hr.mono (by decide)) (pds_cons (pd_var 0) (pds_cons (pd_add pd_int (pd_var 6)) pds_nil)) ⟨_, _, rfl, rfl⟩) ?_ sc_lprs.nd
    refine sd_ifJ (fun δ' ω' => ω' = ⟨qs, [(D, .lst ((((0, s0) :: restP m s0 i).map prD).map .im))]⟩ ∧ δ' = [some (.im (.int m)), some (.im (.int (most : Int))), y2, y3, some (.im (seqP m s0 (i + 1)).2.d), some (.ad D), some (.im (.int (i : Int))), some (.im (.int (drawn m (20 + (i : Int)))))]) (pt_cmpd op_gt rd_B0 (pd_mod (by decide) (pd_var 7) pd_int) pd_int (nomark _)) (fun hk => ?_) (fun hk => ?_) ?_
    · have hk := of_decide_eq_true hk
      have e : (seqP m s0 (i + 1)).2 = otherS (drawn (drawn m (20 + (i : Int))) 1) (seqP m s0 i).2 := if_pos hk
      rw [e]
      exact sd_set 4 (d := (otherS (drawn (drawn m (20 + (i : Int))) 1) (seqP m s0 i).2).d) (pd_call G4 hr (pds_cons (pd_call G1 (hr.mono (by decide)) (pds_cons (pd_var 7) (pds_cons pd_int pds_nil)) ⟨_, _, rfl, rfl⟩) (pds_cons (pd_var 4) pds_nil)) ⟨_, _, oi, rfl, rfl⟩) (sd_nil ⟨rfl, rfl⟩) sc_lprs.nd
    · have hk := of_decide_eq_false hk
      have e : (seqP m s0 (i + 1)).2 = (seqP m s0 i).2 := if_neg hk
      rw [e]
      exact sd_nil ⟨rfl, rfl⟩
    · rintro δ' ω' ⟨rfl, rfl⟩
      obtain ⟨q1, q2⟩ := modN_lt (drawn m (20 + (i : Int)) / 8) (n := 7) (by decide)
      have et : (seqP m s0 (i + 1)).1 = (seqP m s0 i).1 + 1 + modN (drawn m (20 + (i : Int)) / 8) 7 := rfl
      refine sd_appS (j := 0) (d := prD (seqP m s0 (i + 1))) (ps1_var 5) rfl (pd_tup (pds_cons (PD.eq (pd_add (pd_add (pd_ixT (d := .int ((seqP m s0 i).1 : Int)) (pd_ixL (d := prD (seqP m s0 i)) (pl_var 5 List.mem_cons_self) (pd_neg pd_int) ?at1) pd_int atI0) pd_int) (pd_mod (by decide) (pd_fdiv (wide_div (b := 4) (by decide) (by decide) (by decide) (by decide)) (pd_var 7) pd_int) pd_int)) ?e1) (pds_cons (pd_var 4) pds_nil))) (sd_nil ?e2) (by rw [List.length_map, List.length_map, List.length_cons]; omega)
      case at1 =>
        rw [el, List.map_append]
        exact atI_last
      case e1 =>
        rw [et]
        congr 1
        have q2 : drawn m (20 + (i : Int)) / 8 % 7 = (modN (drawn m (20 + (i : Int)) / 8) 7 : Int) := q2
        rw [q2]
        omega
      case e2 =>
        refine ⟨?_, _, _, _, _, rfl⟩
        rw [restP_succ, ← List.cons_append, List.map_append (l₂ := [seqP m s0 (i + 1)]), List.map_append]
        rfl
  · rintro δ' ω' ⟨rfl, y2, y3, y6, y7, rfl⟩
    rw [rangeD_len, Int.toNat_natCast]
    exact sd_retP 5 (xs := ((0, s0) :: restP m s0 n).map prD) List.mem_cons_self hD rfl
/-! ### the face at a tick, of pairs -/
def frThen : List PyData → Rs → Prop := fun ds q => ∃ (s : Sc) (r : List Pr) (t : Nat), r.length ≤ 100 ∧ ds = [.list (((0, s) :: r).map prD), .int (t : Int)] ∧ q = .ok (thenF t s r).d
abbrev NTh : List Str := ["_law_pairs_here", "_law_tick", "_law_when", "_law_face_here"]
theorem sc_then : FnScope NTh ["_law_pairs_here", "_law_tick"] (defScope s__law_then) := ⟨rfl, rfl, rfl, by decide +kernel, rfl, by decide +kernel, by decide +kernel⟩
def selT (t : Nat) (l : List Pr) : List (Option PyData) := l.map fun (q : Pr) => if q.1 ≤ t then some q.2.d else none
theorem then_last (t : Nat) : ∀ (r : List Pr) (s : Sc), ∃ l, s.d :: pick (selT t r) = l ++ [(thenF t s r).d]
  | [], s => ⟨[], rfl⟩
  | q :: r, s => by
    by_cases h : q.1 ≤ t
    · obtain ⟨l, e⟩ := then_last t r q.2
      have e1 : pick (selT t (q :: r)) = q.2.d :: pick (selT t r) := by
        unfold selT pick
        rw [List.map_cons, if_pos h]
        rfl
      have e2 : thenF t s (q :: r) = thenF t q.2 r := if_pos h
      exact ⟨s.d :: l, by rw [e1, e, e2]; rfl⟩
    · obtain ⟨l, e⟩ := then_last t r s
      have e1 : pick (selT t (q :: r)) = pick (selT t r) := by
        unfold selT pick
        rw [List.map_cons, if_neg h]
        rfl
      have e2 : thenF t s (q :: r) = thenF t s r := if_neg h
      exact ⟨l, by rw [e1, e, e2]⟩
theorem ok_then (F : Df K "_law_then" s__law_then f fd) (hm : mg "_law_then" = some (.ref f)) : DefOk P w K mg base 1 "_law_then" frThen := by
  refine def_ok F hm sc_then (fun _ _ _ _ _ _ us hl => match us, hl with | [_, _], _ => rfl) (fun ds r h => by obtain ⟨_, _, _, _, rfl, _⟩ := h; rfl) (fun cdv A outer s H E qs ds r hr h => ?_)
  obtain ⟨s0, r, t, few, rfl, rfl⟩ := h
  obtain ⟨l, el⟩ := then_last t r s0
  have e0 : pick (selT t ((0, s0) :: r)) = s0.d :: pick (selT t r) := rfl
  refine sd_ret (d := (thenF t s0 r).d) (pd_ixL (PN.pl (pn_lc2If (n1 := "_law_when") (n2 := "_law_face_here") (j1 := 2) (j2 := 3) (ls := ((0, s0) :: r).map fun (q : Pr) => (PyData.int (q.1 : Int), q.2.d)) (sel := selT t ((0, s0) :: r)) rfl sc_then.nd (PWk.ws (wk_lst (PD.eq (pd_var 0) ?e1))) (by unfold selT; rw [List.length_map, List.length_map]) (by rw [List.length_map, List.length_cons]; omega) (blkOk_by (N := NTh) (sc := defScope s__law_then) (by decide +kernel)) (fun _ _ _ _ _ => pg_tup rfl (pgs_cons (pg_name sc_then.nd rfl (Or.inl rfl)) (pgs_cons (pg_name sc_then.nd rfl (Or.inl rfl)) pgs_nil))) ?ht ?he)) (pd_neg pd_int) (by rw [e0, el]; exact atI_last)) rfl
  case e1 =>
    rw [List.map_map]
    rfl
  case ht =>
    intro k l x sv hl hz D o2 s2 H2 C2 cl fp
    rw [List.getElem?_map] at hl
    unfold selT at hz
    rw [List.getElem?_map] at hz
    cases e : ((0, s0) :: r)[k]? with
    | none => rw [e] at hl; cases hl
    | some q =>
      rw [e] at hl hz
      cases hl
      cases hz
      refine PTd.eq (pt_cmpd op_le rd_B0 (pd_var 2) (pd_var 1) (nomark _)) ?_
      show _ = (if q.1 ≤ t then some q.2.d else none).isSome
      by_cases h : q.1 ≤ t
      · rw [if_pos h]
        exact decide_eq_true (by omega)
      · rw [if_neg h]
        exact decide_eq_false (by omega)
  case he =>
    intro k l x z hl hz D o2 s2 H2 C2 cl fp
    rw [List.getElem?_map] at hl
    unfold selT at hz
    rw [List.getElem?_map] at hz
    cases e : ((0, s0) :: r)[k]? with
    | none => rw [e] at hl; cases hl
    | some q =>
      rw [e] at hl hz
      cases hl
      have hz : (if q.1 ≤ t then some q.2.d else none) = some z := by injection hz
      split at hz
      · cases hz
        exact pd_var 3
      · cases hz
end
end K96

namespace K96
open PySem PySem.Spec PyProof.Rows L2 FP L2H
section
variable {P : Program} {w : World} {K : PySem.W.Frag} {mg : Str → Option Value} {base : Heap} {f C : Addr} {fd : FuncData}
theorem word_mono {k j : Nat} {wd : Str} {fw : Addr → PyData → Prop} (h : WordOk P w K mg base k wd fw) (hk : k ≤ j) : WordOk P w K mg base j wd fw := by
  obtain ⟨g, a, b, r⟩ := h.ex
  exact ⟨g, a, b, fun A outer s H q C d ps Q z1 z2 => r A outer s H q C d ps Q z1 (z2.mono hk)⟩
def refused (E : Str) : PyData := .tuple [.str "refused", .str E]
theorem shp_refused {E : Str} (h : PyData.strOk E = true) : Shp 1 (refused E) := Shp.tup fun x hx => by
  simp only [List.mem_cons, List.not_mem_nil, or_false] at hx
  rcases hx with rfl | rfl
  · exact .str (by decide +kernel)
  · exact .str h
abbrev NW : List Str := ["_law_e", "_law_flags", "_law_names", "_law_flag"]
theorem sc_word : FnScope NW ["_law_e"] (defScope s__law_word) := ⟨rfl, rfl, rfl, by decide +kernel, rfl, by decide +kernel, by decide +kernel⟩
def fwA (K : PySem.W.Frag) : Addr → PyData → Prop := fun D d => (D = He.ga K "BadFilm" ∧ d = refused "BadFilm")
abbrev askedBadFilm : List (Str × Bool) := [("BadChange", false), ("BadDeed", false), ("BadFace", false), ("BadFilm", true), ("BadLayout", false), ("BadName", false), ("BadPacket", false), ("BadTalk", false), ("Nothing", false)]
structure Wd (K : PySem.W.Frag) (D : Addr) (asked : List (Str × Bool)) : Prop where
  EC : ExcC K D
  ka : ∀ c ∈ asked, PySem.W.kitOne K (.ref D) (.ref (He.ga K c.1)) = some c.2
  kv : PySem.W.kitOne K (.ref D) (.type "ValueError") = some true
theorem ok_word (F : Df K "_law_word" s__law_word f fd) (hm : mg "_law_word" = some (.ref f)) (mi : mg "isinstance" = none) (mn : mg "int" = none) (ms : mg "sum" = none) (mv : mg "ValueError" = none) (gl : ∀ c ∈ (["BadChange", "BadDeed", "BadFace", "BadFilm", "BadLayout", "BadName", "BadPacket", "BadTalk", "Nothing"] : List Str), mg c = some (.ref (He.ga K c))) (WBadFilm : Wd K (He.ga K "BadFilm") askedBadFilm) : WordOk P w K mg base 1 "_law_word" (fwA K) := by
  refine word_ok (N := NW) (n := 3) F hm sc_word rfl (fun _ _ _ _ _ _ us hl => match us, hl with | [_], _ => rfl) (fun cdv A outer s H q D d ps hf hot c1 c2 hr => ?_)
  have HC : HotC (cxH C8.CX0 P w K mg base NW "_law_word" (defScope s__law_word) f cdv A outer s H C8.E0 q) := ⟨q, hot, List.mem_cons_self⟩
  obtain ⟨rfl, rfl⟩ := hf
  · have Z : Pin (cxH C8.CX0 P w K mg base NW "_law_word" (defScope s__law_word) f cdv A outer s H C8.E0 q) q (He.ga K "BadFilm") := ⟨List.mem_cons_self, WBadFilm.EC, c1, c2, let ⟨_, vs, h, _⟩ := hot; ⟨vs, h⟩⟩
    have is : ∀ {δ : De} {ω : Om} {p0 p1 p2 pos : Pos} (c : Str × Bool) (hc : c ∈ askedBadFilm) (hc2 : c.1 ∈ (["BadChange", "BadDeed", "BadFace", "BadFilm", "BadLayout", "BadName", "BadPacket", "BadTalk", "Nothing"] : List Str)) (hd : δ[0]? = some (some (.ad q.1))) (hg : Gl (cxH C8.CX0 P w K mg base NW "_law_word" (defScope s__law_word) f cdv A outer s H C8.E0 q) c.1) (hdb : (c.1 == ("__debug__" : Str)) = false),
        PD (cxH C8.CX0 P w K mg base NW "_law_word" (defScope s__law_word) f cdv A outer s H C8.E0 q) δ ω (.Call (.Name "isinstance" p0) [.Name "_law_e" p1, .Name c.1 p2] [] pos) (.bool c.2) :=
      fun {δ ω p0 p1 p2 pos} c hc hc2 hd hg hdb => pd_isP 0 (y := "_law_e") Z (pe_glob (v := .ref (He.ga K c.1)) hg (gl c.1 hc2) rfl hdb) (fun v r => r) (WBadFilm.ka c hc) mi hd
    refine sd_set 1 (PN.pd (pn_lst (pds_cons (is ("BadChange", false) (by simp) (by simp) rfl rfl rfl) (pds_cons (is ("BadDeed", false) (by simp) (by simp) rfl rfl rfl) (pds_cons (is ("BadFace", false) (by simp) (by simp) rfl rfl rfl) (pds_cons (is ("BadFilm", true) (by simp) (by simp) rfl rfl rfl) pds_nil)))))) ?_ sc_word.nd
    refine sd_set 1 (PN.pd (pn_catL (PD.pl (pd_var 1)) (PN.pl (pn_lst (pds_cons (is ("BadLayout", false) (by simp) (by simp) rfl rfl rfl) (pds_cons (is ("BadName", false) (by simp) (by simp) rfl rfl rfl) (pds_cons (is ("BadPacket", false) (by simp) (by simp) rfl rfl rfl) (pds_cons (is ("BadTalk", false) (by simp) (by simp) rfl rfl rfl) pds_nil)))))) (by decide))) ?_ sc_word.nd
    refine sd_set 1 (PN.pd (pn_catL (PD.pl (pd_var 1)) (PN.pl (pn_lst (pds_cons (is ("Nothing", false) (by simp) (by simp) rfl rfl rfl) pds_nil))) (by decide))) ?_ sc_word.nd
    refine sd_if (PWd.pt (pw_ord (pt_cmpd op_ne rd_neI (pd_sumH (bs := [false, false, false, true, false, false, false, false, false]) (j := 3) HC sc_word.nd (PD.pl (pd_var 1)) (by decide) (blkOk_by (N := NW) (sc := defScope s__law_word) (by decide +kernel)) (fun _ _ _ _ _ => pg_name sc_word.nd rfl (Or.inl rfl)) (fun b s H C cl fp => pd_intB mn (pd_var 3)) ms) pd_int (nomark _))
      (fun _ => pw_or1d (pt_notd (pt_bool (pd_isP 0 (y := "_law_e") (cv := .ty "ValueError") (u := .type "ValueError") Z (pe_bltn rfl mv (by decide +kernel) rfl) (fun v r => r) WBadFilm.kv mi)))))) (fun hk => ?_) (fun _ => sd_nil ?_)
    · exact absurd hk (by decide)
    · refine sd_set 2 (PN.pd (pn_lst (pds_cons pd_str (pds_cons pd_str (pds_cons pd_str (pds_cons pd_str (pds_cons pd_str (pds_cons pd_str (pds_cons pd_str (pds_cons pd_str (pds_cons pd_str pds_nil))))))))))) ?_ sc_word.nd
      refine sd_ret (pd_tup (pds_cons pd_str (pds_cons (pd_ixL (PD.pl (pd_var 2)) (pd_idxT (bs := [false, false, false, true, false, false, false, false, false]) (j := 3) (PD.pl (pd_var 1)) rfl (fun i hi => ?_)) (atI_nat (j := 3) rfl)) pds_nil))) rfl
      match i, hi with
      | 0, _ => rfl
      | 1, _ => rfl
      | 2, _ => rfl
end
end K96

namespace K96
open PySem PySem.Spec PyProof.Rows L2 FP
theorem sign_str {z : Str} (h : ∀ c ∈ z.cps.toList, okSign c = true) : PyData.strOk z = true := by
  show (z.cps.all (· < 0x110000)) = true
  rw [Array.all_eq_true]
  intro i hi
  have := h z.cps[i] (by simp)
  unfold okSign at this
  simp only [Bool.and_eq_true, decide_eq_true_eq] at this
  simp
  omega
theorem Pt.shp {p : Pt} (h : p.Ok) : Shp 1 p.d := by
  cases p with
  | roll n =>
    refine .tup fun x hx => ?_
    simp only [List.mem_cons, List.not_mem_nil, or_false] at hx
    rcases hx with rfl | rfl
    · exact .str (by decide +kernel)
    · exact .int _
  | put r c k z =>
    refine .tup fun x hx => ?_
    simp only [List.mem_cons, List.not_mem_nil, or_false] at hx
    rcases hx with rfl | rfl | rfl | rfl | rfl
    · exact .str (by decide +kernel)
    · exact .int _
    · exact .int _
    · exact .int _
    · exact .str (sign_str h.2.2.2)
  | cur r c =>
    refine .tup fun x hx => ?_
    simp only [List.mem_cons, List.not_mem_nil, or_false] at hx
    rcases hx with rfl | rfl | rfl
    · exact .str (by decide +kernel)
    · exact .int _
    · exact .int _
theorem parts_shp {ps : List Pt} (h : ∀ p ∈ ps, p.Ok) : Shp 2 (.list (ps.map Pt.d)) := .lst fun x hx => by
  obtain ⟨p, hp, rfl⟩ := List.mem_map.mp hx
  exact Pt.shp (h p hp)
theorem filmOf_len (m : Int) (s0 : Sc) (n : Nat) : (filmOf s0 (restP m s0 n)).len ≤ 7 * n := by
  obtain ⟨l, e⟩ := listP_last m s0 n
  show lastT (restP m s0 n) ≤ 7 * n
  rw [lastT_cons e]
  exact seqP_le m s0 n
theorem chD_shp {q : Ch} (h : ∀ p ∈ q.2, p.Ok) : Shp 3 (chD q) := .tup fun x hx => by
  simp only [List.mem_cons, List.not_mem_nil, or_false] at hx
  rcases hx with rfl | rfl
  · exact .int _
  · exact parts_shp h
theorem Fm.Ok.shp {m : Fm} (o : m.Ok) : Shp 5 m.d := .tup fun x hx => by
  simp only [List.mem_cons, List.not_mem_nil, or_false] at hx
  rcases hx with rfl | rfl | rfl
  · exact o.fok.fc.shp
  · exact .int _
  · exact .tup fun y hy => by
      obtain ⟨q, hq, rfl⟩ := List.mem_map.mp hy
      exact chD_shp (o.ok q hq).1
theorem refused_shp : Shp 1 (refused "BadFilm") := .tup fun x hx => by
  simp only [List.mem_cons, List.not_mem_nil, or_false] at hx
  rcases hx with rfl | rfl <;> exact .str (by decide +kernel)
/-- a film that has no changes -/
def still (s : Sc) (n : Nat) : Fm := ⟨s, n, []⟩
theorem still_ok {s : Sc} (o : s.Ok) {n : Nat} (h : n ≤ 9999) : (still s n).Ok := ⟨o, h, trivial, fun q hq => (List.not_mem_nil hq).elim, ⟨s, rfl⟩, Nat.zero_le _⟩
section
variable {P : Program} {w : World} {K : PySem.W.Frag} {mg : Str → Option Value} {base : Heap} {f C CS : Addr} {fd : FuncData}
structure Defs (P : Program) (w : World) (K : PySem.W.Frag) (mg : Str → Option Value) (base : Heap) (CS : Addr) : Prop where
  B : Bl mg
  cell : DefOk P w K mg base 1 "_law_cell" frLCell
  drawn : DefOk P w K mg base 1 "_law_drawn" frDrawn
  pairs : DefOk P w K mg base 3 "_law_pairs" frLPrs
  then_ : DefOk P w K mg base 1 "_law_then" frThen
  filmed : DefOk P w K mg base 9 "filmed" frFd
  slowed : DefOk P w K mg base 8 "slowed" (frSl (He.ga K "BadFilm"))
  at_ : DefOk P w K mg base 8 "face_at" (frAt (He.ga K "BadFilm"))
  cof : DefOk P w K mg base 8 "cost_of" frCof
  li : mg "list" = none
  told : Told K mg "_law_told" s__law_told
  word : WordOk P w K mg base 9 "_law_word" (fwA K)
  exm : PySem.W.exmOne K (.ref (He.ga K "BadFilm")) (.ref CS) = some true
  scr : mg "ScreenError" = some (.ref CS)
abbrev NL : List Str := ["_law_script", "_law_k", "_law_more", "_law_pairs_here", "_law_some", "_law_again", "_law_by", "_law_film", "_law_long", "_law_slow", "_law_j", "_law_tick"]
theorem sc_law : FnScope NL ["_law_script"] (defScope s_law) := ⟨rfl, rfl, rfl, by decide +kernel, rfl, by decide +kernel, by decide +kernel⟩
theorem sc_told : FnScope ["_law_deed", "_law_e"] ["_law_deed"] (defScope s__law_told) := ⟨rfl, rfl, rfl, by decide +kernel, rfl, by decide +kernel, by decide +kernel⟩
theorem told {X : Cx} {T : List (Addr × Str)} {δ : De} {ω : Om} {d : PyData} {rr : Rs} {pos p lpos : Pos} {params : Arguments} {body : Expr} {scope : Scope} (Ds : Defs X.prog X.w X.K X.mg X.base CS) (L : LamT X T) (hT : T ≠ []) (hps : ω.ps = []) (hr : Room 10 X.A)
    (hb : ∀ (A : Around) (outer : List Env) (s : Shared) (H : Hp) (E : XK) (f c' : Addr), Room 8 (A.deeper (LamX.lamEnv X scope s.heap.objs.size f c')) → PR (lamN X A outer s H E scope f c') (WOf E) δ ω body rr) (hd : ToldD X.K CS (fwA X.K) d rr)
    (hL : LamX.LamS X.env.scope scope) (hdef : defaultsOf params X.env = ([], []) := by rfl) (hbind : ∀ (q : Str) (cl : List (Str × Addr)) (pm cv ctv : Value), bindArgs (PySem.W.kla_fn "<lambda>" q params body scope cl pm cv ctv) ⟨[], []⟩ = pure [] := by intros; rfl)
    (hg : Gl X "_law_told" := by rfl) : PX X T δ ω (.Call (.Name "_law_told" p) [.Lambda params body scope lpos] [] pos) d :=
  px_told (k := 8) (Ng := ["_law_deed", "_law_e"]) (e := "ScreenError") (n := "_law_e") (wd := "_law_word") Ds.told L hT hps hr Ds.word rfl sc_told sc_told.nd rfl (Or.inl rfl) rfl rfl rfl rfl Ds.scr (fun _ _ _ _ _ _ us hl => match us, hl with | [_], _ => rfl) hb hd hL hdef hbind hg (by decide) (by decide) (by decide) (by decide) (by decide) (by decide) (by decide)

def forBody : List Stmt → List Stmt
  | .For _ _ b _ _ :: _ => b
  | _ => []
abbrev bodyK : List Stmt := forBody (defBody s_law)
abbrev XL (P : Program) (w : World) (K : PySem.W.Frag) (mg : Str → Option Value) (base : Heap) (f : Addr) (cdv : Value) (A : Around) (outer : List Env) (s : Shared) (H : Hp) (E : XK) : Cx := cxOf (L2N.CX P w) P w K mg base NL "law" (defScope s_law) f cdv A outer s H E
noncomputable abbrev dl (ns : List Int) (k m : Int) (s0 : Sc) (r : List Pr) (y4 y5 y6 y8 y9 : Option Sd) : De := [some (.im (.list (ns.map .int))), some (.im (.int k)), some (.im (.int m)), some (.im (.list (((0, s0) :: r).map prD))), y4, y5, y6, some (.im (filmOf s0 r).d), y8, y9, none, none]
def Inv1 (ns : List Int) (δ' : De) : Prop := ∃ y1 y2 y3 y4 y5 y6 y7 y8 y9, δ' = [some (.im (.list (ns.map .int))), y1, y2, y3, y4, y5, y6, y7, y8, y9, none, none]
set_option maxHeartbeats 16000000 in
/-- slowed again -/
theorem partA {cdv : Value} {A : Around} {outer : List Env} {sh : Shared} {H : Hp} {E : XK} {T : List (Addr × Str)} {ns : List Int} (Ds : Defs P w K mg base CS) (LT : LamT (XL P w K mg base f cdv A outer sh H E) T) (hT : T ≠ [])
    (hr : Room 10 (A.deeper (envOfC "law" (defScope s_law) sh.heap.objs.size f cdv))) {R : Out → Prop} {k m : Int} {s0 : Sc} {r : List Pr} (o : Prs s0 r) (hlen : (filmOf s0 r).len ≤ 28) {b : Nat} (b1 : 1 ≤ b) (b9 : b ≤ 9) {os : Os} {y4 y5 y8 : Option Sd} {ss : List Stmt}
    (hR : ∀ y5, R (.nx (dl ns k m s0 r y4 y5 (some (.im (.int (b : Int)))) y8 (some (.im ((filmOf s0 r).slow b).d))) ⟨[], os⟩)) :
    SD (XL P w K mg base f cdv A outer sh H E) (WOf E) T ((forBody (bodyK.drop 3)).drop 4) (dl ns k m s0 r y4 y5 (some (.im (.int (b : Int)))) y8 (some (.im ((filmOf s0 r).slow b).d))) ⟨[], os⟩ R := by
  have B := Ds.B
  have hr8 : Room 8 (A.deeper (envOfC "law" (defScope s_law) sh.heap.objs.size f cdv)) := hr.mono (by decide)
  have fo := filmOf_ok o
  have bl : (filmOf s0 r).len * b ≤ 28 * 9 := Nat.mul_le_mul hlen b9
  have so := fo.slow b1 (show (filmOf s0 r).len * b ≤ 9999 by omega)
  have sl : ((filmOf s0 r).slow b).len = (filmOf s0 r).len * b := rfl
  obtain ⟨n9, e9, l9⟩ : ∃ n9 : Nat, (9 : Int) / (b : Int) = (n9 : Int) ∧ n9 ≤ 9 := ⟨9 / b, rfl, Nat.div_le_self _ _⟩
  have p9 : 1 ≤ n9 := by
    have : (1 : Int) ≤ 9 / (b : Int) := by
      rw [Int.le_ediv_iff_mul_le (by omega)]
      omega
    omega
  refine sd_for 5 (items := [.int ((1 : Nat) : Int), .int ((2 : Nat) : Int), .int (n9 : Int)]) (fun i δ' ω' => ω' = ⟨[], os⟩ ∧ ∃ y5, δ' = dl ns k m s0 r y4 y5 (some (.im (.int (b : Int)))) y8 (some (.im ((filmOf s0 r).slow b).d)))
    (wk_lst (PN.pd (pn_lst (pds_cons pd_int (pds_cons pd_int (pds_cons (PD.eq (pd_fdiv (wide_div (b := 4) (by omega) (by omega) (by decide) (by decide)) pd_int (pd_var 6)) (congrArg PyData.int e9)) pds_nil)))))) ⟨rfl, _, rfl⟩ ?_ ?_ (pg_name sc_law.nd rfl (Or.inr rfl)) (passes_of rfl) rfl
  · rintro i d δ' ω' hd ⟨rfl, y5, rfl⟩
    obtain ⟨a, a1, a9, rfl⟩ : ∃ a : Nat, 1 ≤ a ∧ a ≤ 9 ∧ d = .int (a : Int) := by
      have := List.mem_of_getElem? hd
      simp only [List.mem_cons, List.not_mem_nil, or_false] at this
      rcases this with rfl | rfl | rfl
      · exact ⟨1, by decide, by decide, rfl⟩
      · exact ⟨2, by decide, by decide, rfl⟩
      · exact ⟨n9, p9, l9, rfl⟩
    have em : ((b * a : Nat) : Int) = (b : Int) * (a : Int) := Int.natCast_mul _ _
    by_cases h9 : b * a ≤ 9
    · have al : (filmOf s0 r).len * (b * a) ≤ 28 * 9 := Nat.mul_le_mul hlen h9
      have ab1 : 1 ≤ b * a := Nat.mul_pos b1 a1
      have ss2 := slow_slow (filmOf s0 r) b a
      have l3 : (filmOf s0 r).len * b * a ≤ 9999 := by rw [Nat.mul_assoc]; omega
      have oa := fo.slow ab1 (show (filmOf s0 r).len * (b * a) ≤ 9999 by omega)
      exact sd_ifF2 (YW.yt (w2_andT (PTd.x2 (PTd.eq (pt_cmpd op_le rd_B0 (pd_mulS (i := (b : Int)) (j := (a : Int)) (Or.inr (by omega)) (pd_var 6) (pd_var 5)) pd_int (nomark _)) (decide_eq_true (by omega)))) (w2_and1 (t2_cmp (op_neD hr.units) (rd_neS oa.shp rfl) (PX.ye (told (d := ((filmOf s0 r).slow (b * a)).d) (rr := .ok ((filmOf s0 r).slow (b * a)).d) Ds LT hT rfl hr (fun A outer s H' E f c' hr' => pr_call Ds.slowed hr' lamN_takes (pds_cons (pd_var 9) (pds_cons (pd_var 5) pds_nil)) ⟨_, _, so, rfl, .inl ⟨a, rfl, a1, a9, by rw [sl, if_pos l3, ss2]⟩⟩) rfl (LamX.lamS_by (sc := defScope s_law) (by decide +kernel)))) (PD.ye (pd_call Ds.slowed hr8 (pds_cons (pd_var 7) (pds_cons (pd_mulS (i := (b : Int)) (j := (a : Int)) (Or.inr (by omega)) (pd_var 6) (pd_var 5)) pds_nil)) ⟨_, _, fo, rfl, .inl ⟨b * a, by rw [em], ab1, h9, by rw [if_pos (show (filmOf s0 r).len * (b * a) ≤ 9999 by omega)]⟩⟩)) (nomark _))))) (sd_nil ⟨rfl, _, rfl⟩)
    · exact sd_ifF2 (YW.yt (w2_andF (PTd.x2 (PTd.eq (pt_cmpd op_le rd_B0 (pd_mulS (i := (b : Int)) (j := (a : Int)) (Or.inr (by omega)) (pd_var 6) (pd_var 5)) pd_int (nomark _)) (decide_eq_false (by omega)))))) (sd_nil ⟨rfl, _, rfl⟩)
  · rintro δ' ω' ⟨rfl, y5, rfl⟩
    exact sd_nil (hR _)
set_option maxHeartbeats 16000000 in
/-- all numbers from 1 to 9 -/
theorem partB {cdv : Value} {A : Around} {outer : List Env} {sh : Shared} {H : Hp} {E : XK} {T : List (Addr × Str)} {ns : List Int} (Ds : Defs P w K mg base CS) (LT : LamT (XL P w K mg base f cdv A outer sh H E) T) (hT : T ≠ [])
    (hr : Room 10 (A.deeper (envOfC "law" (defScope s_law) sh.heap.objs.size f cdv))) {R : Out → Prop} {k m : Int} {s0 : Sc} {r : List Pr} (o : Prs s0 r) (hlen : (filmOf s0 r).len ≤ 28) {os : Os} {y4 y5 y6 y8 y9 : Option Sd}
    (hR : ∀ y4 y5 y6 y9, SD (XL P w K mg base f cdv A outer sh H E) (WOf E) T (bodyK.drop 4) (dl ns k m s0 r y4 y5 y6 y8 y9) ⟨[], os⟩ R) :
    SD (XL P w K mg base f cdv A outer sh H E) (WOf E) T (bodyK.drop 3) (dl ns k m s0 r y4 y5 y6 y8 y9) ⟨[], os⟩ R := by
  have B := Ds.B
  have hr8 : Room 8 (A.deeper (envOfC "law" (defScope s_law) sh.heap.objs.size f cdv)) := hr.mono (by decide)
  have hr1 : Room 1 (A.deeper (envOfC "law" (defScope s_law) sh.heap.objs.size f cdv)) := hr.mono (by decide)
  have fo := filmOf_ok o
  have few := o.few
  refine sd_for 6 (items := rangeD 1 9) (fun i δ' ω' => ω' = ⟨[], os⟩ ∧ ∃ y4 y5 y6 y9, δ' = dl ns k m s0 r y4 y5 y6 y8 y9) (wk_range2 (i := 1) (j := 10) B.range pd_int pd_int (by decide)) ⟨rfl, _, _, _, _, rfl⟩ ?_ ?_ (pg_name sc_law.nd rfl (Or.inr rfl)) (passes_of rfl) rfl
  · rintro i d δ' ω' hd ⟨rfl, y4, y5, y6, y9, rfl⟩
    obtain ⟨b, b1, b9, rfl⟩ : ∃ b : Nat, 1 ≤ b ∧ b ≤ 9 ∧ d = .int (b : Int) := by
      have hlt := (List.getElem?_eq_some_iff.mp hd).1
      rw [rangeD_len] at hlt
      rw [rangeD_get hlt] at hd
      cases hd
      exact ⟨1 + i, by omega, by omega, by rw [Int.natCast_add]; rfl⟩
    have bl : (filmOf s0 r).len * b ≤ 28 * 9 := Nat.mul_le_mul hlen b9
    have so := fo.slow b1 (show (filmOf s0 r).len * b ≤ 9999 by omega)
    have sl : ((filmOf s0 r).slow b).len = (filmOf s0 r).len * b := rfl
    have em : (((filmOf s0 r).len * b : Nat) : Int) = ((filmOf s0 r).len : Int) * (b : Int) := Int.natCast_mul _ _
    refine sd_setx 9 (told (d := ((filmOf s0 r).slow b).d) (rr := .ok ((filmOf s0 r).slow b).d) Ds LT hT rfl hr (fun A outer s H' E f c' hr' => pr_call Ds.slowed hr' lamN_takes (pds_cons (pd_var 7) (pds_cons (pd_var 6) pds_nil)) ⟨_, _, fo, rfl, .inl ⟨b, rfl, b1, b9, by rw [if_pos (show (filmOf s0 r).len * b ≤ 9999 by omega)]⟩⟩) rfl (LamX.lamS_by (sc := defScope s_law) (by decide +kernel))) ?_ sc_law.nd
    refine sd_ifF (PTd.eq (PWd.pt (pw_ord (pt_notd (k := true) (pt_bool (pd_isi B.isi B.tuple bb_tuple (pd_var 9) (k_tuple _)))) (fun _ => pw_ord (pt_cmpd op_ne rd_neI (pd_ixT (d := .int (((filmOf s0 r).len * b : Nat) : Int)) (pd_var 9) pd_int atI1) (pd_mulS (i := ((filmOf s0 r).len : Int)) (j := (b : Int)) (Or.inr (by omega)) (pd_ixT (d := .int ((filmOf s0 r).len : Int)) (pd_var 7) pd_int atI1) (pd_var 6)) (nomark _)) (fun _ => pw_or1d (pt_cmpd op_ne rd_neI (pd_call Ds.cof hr8 (pds_cons (pd_var 9) pds_nil) ⟨_, so, rfl, rfl⟩) (pd_call Ds.cof hr8 (pds_cons (pd_var 7) pds_nil) ⟨_, fo, rfl, rfl⟩) (nomark _)))))) ?v1) ?_
    case v1 =>
      rw [slow_cost, em]
      simp
    obtain ⟨L, eL⟩ : ∃ L, L = (filmOf s0 r).len * b := ⟨_, rfl⟩
    refine sd_set 4 (d := .list (((List.range 5).map fun (j : Nat) => PyData.int (modN (K96.drawn m (20 + (b : Int) + (j : Int))) (L + 1) : Int)) ++ [PyData.int 0, PyData.int (L : Int)])) (PN.pd (pn_catL (PN.pl (pn_lc (y := "_law_j") (j := 10) (items := rangeD 0 5) (ys := (List.range 5).map fun (j : Nat) => PyData.int (modN (K96.drawn m (20 + (b : Int) + (j : Int))) (L + 1) : Int)) rfl sc_law.nd (PWk.ws (wk_range1 (j := 5) B.range pd_int (by decide))) (by rw [rangeD_len]; simp) (blkOk_by (N := NL) (sc := defScope s_law) (by decide +kernel)) (fun _ _ _ _ _ => pg_name sc_law.nd rfl (Or.inl rfl)) ?el (by rw [rangeD_len]; decide))) (PN.pl (pn_lst (pds_cons pd_int (pds_cons (pd_ixT (d := .int (L : Int)) (PD.eq (pd_var 9) (by unfold Fm.d; rw [sl, ← eL])) pd_int atI1) pds_nil)))) (by simp))) ?_ sc_law.nd
    case el =>
      intro i d y hd hy D o2 s2 H2 C2 cl fp
      obtain ⟨hj, rfl⟩ := rangeD_at hd
      rw [List.getElem?_map, List.getElem?_range (by simpa using hj)] at hy
      cases hy
      obtain ⟨q1, q2⟩ := modN_lt (K96.drawn m (20 + (b : Int) + (i : Int))) (n := L + 1) (by omega)
      exact PD.eq (pd_mod (show (0 : Int) < (L : Int) + 1 by omega) (pd_call Ds.drawn hr1 (pds_cons (pd_var 2) (pds_cons (pd_add (pd_add pd_int (pd_var 6)) (pd_var 10)) pds_nil)) ⟨_, _, rfl, rfl⟩) (pd_add (pd_ixT (d := .int (L : Int)) (PD.eq (pd_var 9) (by unfold Fm.d; rw [sl, ← eL])) pd_int atI1) pd_int)) (show PyData.int (K96.drawn m (20 + (b : Int) + (i : Int)) % ((L : Int) + 1)) = .int (modN (K96.drawn m (20 + (b : Int) + (i : Int))) (L + 1) : Int) by rw [← q2, Int.natCast_add]; rfl)
    have inL : ∀ x ∈ ((List.range 5).map fun (j : Nat) => PyData.int (modN (K96.drawn m (20 + (b : Int) + (j : Int))) (L + 1) : Int)) ++ [PyData.int 0, PyData.int (L : Int)], ∃ t : Nat, x = .int (t : Int) ∧ t ≤ L := fun x hx => by
      rcases List.mem_append.mp hx with q | q
      · obtain ⟨j, _, rfl⟩ := List.mem_map.mp q
        have := (modN_lt (K96.drawn m (20 + (b : Int) + (j : Int))) (n := L + 1) (by omega)).1
        exact ⟨_, rfl, by omega⟩
      · simp only [List.mem_cons, List.not_mem_nil, or_false] at q
        rcases q with rfl | rfl
        · exact ⟨0, rfl, Nat.zero_le _⟩
        · exact ⟨L, rfl, Nat.le_refl _⟩
    have ln : (((List.range 5).map fun (j : Nat) => PyData.int (modN (K96.drawn m (20 + (b : Int) + (j : Int))) (L + 1) : Int)) ++ [PyData.int 0, PyData.int (L : Int)]).length = 7 := by simp
    generalize ((List.range 5).map fun (j : Nat) => PyData.int (modN (K96.drawn m (20 + (b : Int) + (j : Int))) (L + 1) : Int)) ++ [PyData.int 0, PyData.int (L : Int)] = some5 at inL ln ⊢
    refine sd_ifF (PTd.eq (pt_notd (pt_bool (pd_all rfl B.all (bs := List.replicate 7 true) (PN.pl (pn_lc (y := "_law_tick") (j := 11) (items := some5) (ys := (List.replicate 7 true).map .bool) rfl sc_law.nd (PWk.ws (wk_lst (pd_var 4))) (by rw [ln]; rfl) (blkOk_by (N := NL) (sc := defScope s_law) (by decide +kernel)) (fun _ _ _ _ _ => pg_name sc_law.nd rfl (Or.inl rfl)) ?el2 (by rw [ln]; decide)))))) rfl) ?_
    case el2 =>
      intro i d y hd hy D o2 s2 H2 C2 cl fp
      obtain ⟨t, rfl, tl⟩ := inL d (List.mem_of_getElem? hd)
      rw [List.map_replicate] at hy
      have ey : y = .bool true := by
        have := List.mem_of_getElem? hy
        exact (List.mem_replicate.mp this).2
      rw [ey]
      obtain ⟨oa, _, _⟩ := so.at_ok t
      have ea : ((filmOf s0 r).slow b).at t = thenF (t / b) s0 r := by rw [slow_at b1, filmOf_at o]
      refine PD.eq (pd_cmp (op_eqD hr.units) (rd_eqD (oa.fc.shp.ok (by decide)) (oa.fc.shp.ok (by decide))) (pd_call Ds.at_ hr8 (pds_cons (pd_var 9) (pds_cons (pd_var 11) pds_nil)) ⟨_, _, so, rfl, .inl ⟨t, rfl, by rw [sl, ← eL]; exact tl, rfl⟩⟩) (PD.eq (pd_call Ds.then_ hr1 (pds_cons (pd_var 3) (pds_cons (PD.eq (pd_fdiv (wide_div (b := 4) (by omega) (by omega) (by decide) (by decide)) (pd_var 11) (pd_var 6)) (show PyData.int ((t : Int) / (b : Int)) = .int ((t / b : Nat) : Int) from rfl)) pds_nil)) ⟨s0, r, t / b, few, rfl, rfl⟩) (by rw [ea])) (nomark _)) (congrArg PyData.bool oa.fc.shp.refl)
    exact partA (ss := []) Ds LT hT hr o hlen b1 b9 fun y5 => ⟨rfl, _, _, _, _, rfl⟩
  · rintro δ' ω' ⟨rfl, y4, y5, y6, y9, rfl⟩
    exact hR _ _ _ _
set_option maxHeartbeats 16000000 in
/-- other numbers, long films -/
theorem partC {cdv : Value} {A : Around} {outer : List Env} {sh : Shared} {H : Hp} {E : XK} {T : List (Addr × Str)} {ns : List Int} (Ds : Defs P w K mg base CS) (LT : LamT (XL P w K mg base f cdv A outer sh H E) T) (hT : T ≠ [])
    (hr : Room 10 (A.deeper (envOfC "law" (defScope s_law) sh.heap.objs.size f cdv))) {R : Out → Prop} {k m : Int} {s0 : Sc} {r : List Pr} (o : Prs s0 r) {os : Os} {y4 y5 y6 y8 y9 : Option Sd}
    (hR : ∀ δ', Inv1 ns δ' → R (.nx δ' ⟨[], os⟩)) :
    SD (XL P w K mg base f cdv A outer sh H E) (WOf E) T (bodyK.drop 4) (dl ns k m s0 r y4 y5 y6 y8 y9) ⟨[], os⟩ R := by
  have B := Ds.B
  have fo := filmOf_ok o
  have er : ToldD K CS (fwA K) (refused "BadFilm") (.er (He.ga K "BadFilm")) := ⟨⟨rfl, rfl⟩, Ds.exm⟩
  refine sd_for 6 (items := [.int 0, .int 10, .int (-1), .none, .bool true, .str "2"]) (fun i δ' ω' => ω' = ⟨[], os⟩ ∧ ∃ y6, δ' = dl ns k m s0 r y4 y5 y6 y8 y9) (wk_lst (PN.pd (pn_lst (pds_cons pd_int (pds_cons pd_int (pds_cons (pd_neg pd_int) (pds_cons pd_non (pds_cons pd_bl (pds_cons pd_str pds_nil))))))))) ⟨rfl, _, rfl⟩ ?_ ?_ (pg_name sc_law.nd rfl (Or.inr rfl)) (passes_of rfl) rfl
  · rintro i d δ' ω' hd ⟨rfl, y6, rfl⟩
    have no : isWithin d 1 9 = false := by
      have := List.mem_of_getElem? hd
      simp only [List.mem_cons, List.not_mem_nil, or_false] at this
      rcases this with rfl | rfl | rfl | rfl | rfl | rfl <;> decide +kernel
    exact sd_ifF2 (t2_cmp (op_neD hr.units) (rd_neS refused_shp rfl) (PX.ye (told (d := refused "BadFilm") (rr := .er (He.ga K "BadFilm")) Ds LT hT rfl hr (fun A outer s H' E f c' hr' => pr_call Ds.slowed hr' lamN_takes (pds_cons (pd_var 7) (pds_cons (pd_var 6) pds_nil)) ⟨_, _, fo, rfl, .inr ⟨no, rfl⟩⟩) er (LamX.lamS_by (sc := defScope s_law) (by decide +kernel)))) (PD.ye (pd_tup (pds_cons pd_str (pds_cons pd_str pds_nil)))) (nomark _)) (sd_nil ⟨rfl, _, rfl⟩)
  · rintro δ' ω' ⟨rfl, y6, rfl⟩
    refine sd_forU [8, 6] (n := 2) (items := [[.int ((5000 : Nat) : Int), .int ((2 : Nat) : Int)], [.int ((1112 : Nat) : Int), .int ((9 : Nat) : Int)], [.int ((2500 : Nat) : Int), .int ((4 : Nat) : Int)], [.int ((9999 : Nat) : Int), .int ((2 : Nat) : Int)]]) (fun i δ' ω' => ω' = ⟨[], os⟩ ∧ ∃ y6 y8, δ' = dl ns k m s0 r y4 y5 y6 y8 y9) (wk_lst (PN.pd (pn_lst (pds_cons (pd_tup (pds_cons pd_int (pds_cons pd_int pds_nil))) (pds_cons (pd_tup (pds_cons pd_int (pds_cons pd_int pds_nil))) (pds_cons (pd_tup (pds_cons pd_int (pds_cons pd_int pds_nil))) (pds_cons (pd_tup (pds_cons pd_int (pds_cons pd_int pds_nil))) pds_nil))))))) ⟨rfl, _, _, rfl⟩ ?_ ?_ (fun ds hd => by simp only [List.mem_cons, List.not_mem_nil, or_false] at hd; rcases hd with rfl | rfl | rfl | rfl <;> rfl) rfl (pg_tup rfl (pgs_cons (pg_name sc_law.nd rfl (Or.inr rfl)) (pgs_cons (pg_name sc_law.nd rfl (Or.inr rfl)) pgs_nil))) (passes_of rfl) rfl
    · rintro i d δ' ω' hd ⟨rfl, y6, y8, rfl⟩
      obtain ⟨a, b, rfl, ha, b1, b9, hn⟩ : ∃ a b : Nat, d = [.int (a : Int), .int (b : Int)] ∧ a ≤ 9999 ∧ 1 ≤ b ∧ b ≤ 9 ∧ ¬ a * b ≤ 9999 := by
        have := List.mem_of_getElem? hd
        simp only [List.mem_cons, List.not_mem_nil, or_false] at this
        rcases this with rfl | rfl | rfl | rfl
        · exact ⟨5000, 2, rfl, by decide, by decide, by decide, by decide⟩
        · exact ⟨1112, 9, rfl, by decide, by decide, by decide, by decide⟩
        · exact ⟨2500, 4, rfl, by decide, by decide, by decide, by decide⟩
        · exact ⟨9999, 2, rfl, by decide, by decide, by decide, by decide⟩
      exact sd_ifF2 (t2_cmp (op_neD hr.units) (rd_neS refused_shp rfl) (PX.ye (told (d := refused "BadFilm") (rr := .er (He.ga K "BadFilm")) Ds LT hT rfl hr (fun A outer s H' E f c' hr' => pr_call Ds.slowed hr' lamN_takes (pds_cons (pd_tup (pds_cons (pd_ixT (d := s0.d) (pd_var 7) pd_int atI0) (pds_cons (pd_var 8) (pds_cons (pd_tup pds_nil) pds_nil)))) (pds_cons (pd_var 6) pds_nil)) ⟨still s0 a, _, still_ok o.ok ha, rfl, .inl ⟨b, rfl, b1, b9, by rw [if_neg (show ¬ (still s0 a).len * b ≤ 9999 from hn)]⟩⟩) er (LamX.lamS_by (sc := defScope s_law) (by decide +kernel)))) (PD.ye (pd_tup (pds_cons pd_str (pds_cons pd_str pds_nil)))) (nomark _)) (sd_nil ⟨rfl, _, _, rfl⟩)
    · rintro δ' ω' ⟨rfl, y6, y8, rfl⟩
      refine sd_forU [8, 6] (n := 2) (items := [[.int ((4999 : Nat) : Int), .int ((2 : Nat) : Int)], [.int ((1111 : Nat) : Int), .int ((9 : Nat) : Int)], [.int ((9999 : Nat) : Int), .int ((1 : Nat) : Int)], [.int ((0 : Nat) : Int), .int ((9 : Nat) : Int)]]) (fun i δ' ω' => ω' = ⟨[], os⟩ ∧ ∃ y6 y8, δ' = dl ns k m s0 r y4 y5 y6 y8 y9) (wk_lst (PN.pd (pn_lst (pds_cons (pd_tup (pds_cons pd_int (pds_cons pd_int pds_nil))) (pds_cons (pd_tup (pds_cons pd_int (pds_cons pd_int pds_nil))) (pds_cons (pd_tup (pds_cons pd_int (pds_cons pd_int pds_nil))) (pds_cons (pd_tup (pds_cons pd_int (pds_cons pd_int pds_nil))) pds_nil))))))) ⟨rfl, _, _, rfl⟩ ?_ ?_ (fun ds hd => by simp only [List.mem_cons, List.not_mem_nil, or_false] at hd; rcases hd with rfl | rfl | rfl | rfl <;> rfl) rfl (pg_tup rfl (pgs_cons (pg_name sc_law.nd rfl (Or.inr rfl)) (pgs_cons (pg_name sc_law.nd rfl (Or.inr rfl)) pgs_nil))) (passes_of rfl) rfl
      · rintro i d δ' ω' hd ⟨rfl, y6, y8, rfl⟩
        obtain ⟨a, b, rfl, ha, b1, b9, hn⟩ : ∃ a b : Nat, d = [.int (a : Int), .int (b : Int)] ∧ a ≤ 9999 ∧ 1 ≤ b ∧ b ≤ 9 ∧ a * b ≤ 9999 := by
          have := List.mem_of_getElem? hd
          simp only [List.mem_cons, List.not_mem_nil, or_false] at this
          rcases this with rfl | rfl | rfl | rfl
          · exact ⟨4999, 2, rfl, by decide, by decide, by decide, by decide⟩
          · exact ⟨1111, 9, rfl, by decide, by decide, by decide, by decide⟩
          · exact ⟨9999, 1, rfl, by decide, by decide, by decide, by decide⟩
          · exact ⟨0, 9, rfl, by decide, by decide, by decide, by decide⟩
        have ost := still_ok o.ok ha
        have osl := ost.slow b1 (show (still s0 a).len * b ≤ 9999 from hn)
        have em : ((a * b : Nat) : Int) = (a : Int) * (b : Int) := Int.natCast_mul _ _
        exact sd_ifF2 (t2_cmp (op_neD hr.units) (rd_neS osl.shp rfl) (PX.ye (told (d := ((still s0 a).slow b).d) (rr := .ok ((still s0 a).slow b).d) Ds LT hT rfl hr (fun A outer s H' E f c' hr' => pr_call Ds.slowed hr' lamN_takes (pds_cons (pd_tup (pds_cons (pd_ixT (d := s0.d) (pd_var 7) pd_int atI0) (pds_cons (pd_var 8) (pds_cons (pd_tup pds_nil) pds_nil)))) (pds_cons (pd_var 6) pds_nil)) ⟨still s0 a, _, ost, rfl, .inl ⟨b, rfl, b1, b9, by rw [if_pos (show (still s0 a).len * b ≤ 9999 from hn)]⟩⟩) rfl (LamX.lamS_by (sc := defScope s_law) (by decide +kernel)))) (PD.ye (PD.eq (pd_tup (pds_cons (pd_ixT (d := s0.d) (pd_var 7) pd_int atI0) (pds_cons (pd_mulS (i := (a : Int)) (j := (b : Int)) (Or.inr (by omega)) (pd_var 8) (pd_var 6)) (pds_cons (pd_tup pds_nil) pds_nil)))) (by rw [← em]; rfl))) (nomark _)) (sd_nil ⟨rfl, _, _, rfl⟩)
      · rintro δ' ω' ⟨rfl, y6, y8, rfl⟩
        exact sd_nil (hR _ ⟨_, _, _, _, _, _, _, _, _, rfl⟩)
set_option maxHeartbeats 16000000 in
theorem law_body {cdv : Value} {A : Around} {outer : List Env} {sh : Shared} {H : Hp} {E : XK} {T : List (Addr × Str)} {ns : List Int} (Ds : Defs P w K mg base CS) (LT : LamT (XL P w K mg base f cdv A outer sh H E) T) (hT : T ≠ [])
    (hr : Room 10 (A.deeper (envOfC "law" (defScope s_law) sh.heap.objs.size f cdv))) (hn : ns.length ≤ 63) :
    SD (cxOf (L2N.CX P w) P w K mg base NL "law" (defScope s_law) f cdv A outer sh H E) (WOf E) T (defBody s_law) (startD NL [.list (ns.map .int)]) ⟨[], []⟩ FinT := by
  have B := Ds.B
  have hr9 : Room 9 (A.deeper (envOfC "law" (defScope s_law) sh.heap.objs.size f cdv)) := hr.mono (by decide)
  have hr3 : Room 3 (A.deeper (envOfC "law" (defScope s_law) sh.heap.objs.size f cdv)) := hr.mono (by decide)
  have hr1 : Room 1 (A.deeper (envOfC "law" (defScope s_law) sh.heap.objs.size f cdv)) := hr.mono (by decide)
  refine sd_for 1 (items := rangeD 0 ((if (if ((ns.map PyData.int).length : Int) < 3 then ((ns.map PyData.int).length : Int) else 3) > 1 then (if ((ns.map PyData.int).length : Int) < 3 then ((ns.map PyData.int).length : Int) else 3) else 1) : Int).toNat)
    (fun i δ' ω' => (∃ os, ω' = ⟨[], os⟩) ∧ Inv1 ns δ')
    (wk_range1 B.range (pd_max rfl B.max pd_int (pd_min rfl B.min pd_int (pd_lenL B.len (PD.pl (pd_var 0))))) ?_) ⟨⟨_, rfl⟩, _, _, _, _, _, _, _, _, _, rfl⟩ ?_ ?_ (pg_name sc_law.nd rfl (Or.inl rfl)) (passes_of rfl) rfl
  · split <;> (try split) <;> omega
  · rintro k d δ' ω' hd ⟨⟨os, rfl⟩, y1, y2, y3, y4, y5, y6, y7, y8, y9, rfl⟩
    have hk4 : k < 5 ∧ d = .int (k : Int) := by
      have hlt := (List.getElem?_eq_some_iff.mp hd).1
      rw [rangeD_len] at hlt
      rw [rangeD_get hlt] at hd
      cases hd
      refine ⟨?_, by rw [Int.zero_add]⟩
      revert hlt
      split <;> (try split) <;> omega
    obtain ⟨hk4, rfl⟩ := hk4
    refine sd_set 2 (pd_call Ds.drawn hr1 (pds_cons (pd_call Ds.cell hr1 (pds_cons (pd_var 0) (pds_cons (pd_var 1) pds_nil)) ⟨ns, k, rfl, hn, by omega, rfl⟩) (pds_cons (pd_var 1) pds_nil)) ⟨_, _, rfl, rfl⟩) ?_ sc_law.nd
    generalize K96.drawn (cellAt ns k) (k : Int) = m
    obtain ⟨b1, b2, b3, b4⟩ := size_le m
    obtain ⟨c1, c2, c3⟩ := minN_b (i := (sizeD m).1) (j := 5) b1 (by decide)
    obtain ⟨d1, d2, d3⟩ := minN_b (i := (sizeD m).2) (j := 9) b3 (by decide)
    have F2 := faceL_fc (h := hP m) (wd := wP m) (K96.drawn m 1) c1 (by show minN _ 5 ≤ 10; omega) d1 (by show minN _ 9 ≤ 20; omega)
    obtain ⟨s0, o0, th, tw, ef⟩ := Sc.of_fc F2
    obtain ⟨n1, n2⟩ := modN_lt (m / 65536) (n := 4 + 1) (by decide)
    have o : Prs s0 (restP m s0 (modN (m / 65536) (4 + 1))) := prs_of o0 (by omega)
    have hlen := filmOf_len m s0 (modN (m / 65536) (4 + 1))
    refine sd_set 3 (d := .list (((0, s0) :: restP m s0 (modN (m / 65536) (4 + 1))).map prD)) (pd_call Ds.pairs hr3 (pds_cons (pd_var 2) (pds_cons pd_int pds_nil)) ⟨m, 4, s0, by decide, o0, ef, rfl, rfl⟩) ?_ sc_law.nd
    generalize restP m s0 (modN (m / 65536) (4 + 1)) = r at o hlen
    refine sd_set 7 (d := (filmOf s0 r).d) (pd_call Ds.filmed hr9 (pds_cons (PN.pd (pn_listL Ds.li (PD.pl (pd_var 3)))) pds_nil) ⟨s0, r, o, rfl, rfl⟩) ?_ sc_law.nd
    exact partB Ds LT hT hr o (by omega) fun y4 y5 y6 y9 => partC Ds LT hT hr o fun δ' hI => ⟨⟨_, rfl⟩, hI⟩
  · rintro δ' ω' ⟨⟨os, rfl⟩, y1, y2, y3, y4, y5, y6, y7, y8, y9, rfl⟩
    exact sd_ret pd_bl rfl
end
end K96

namespace K96
open PySem PySem.Spec PyProof.Rows L2 FP
theorem facts {l : PySem.W.OpenLaw} {w : World} {K : PySem.W.Frag} {h : Heap} {mg : Str → Option Value} {f : Addr} (KX : K.In h) (G : h.Ns mainGlobals mg) (hfa : mg ("law" : Str) = some (.ref f)) (c : He.SaysX fa fn ts tf ex w h K) :
    LamX.LawAtS l w K (L2N.CX l.prog w) 11 63 "_law_script" mg f h := by
  have cd := c.t.d
  have gl : ∀ x, He.Fa.glo x ∈ fa → mg x = some (.ref (He.ga K x)) := fun x hx => He.glo_ok KX G (cd.facts hx)
  have fr : ∀ x, He.Fa.free x ∈ fa → mg x = none := fun x hx => He.free_ok KX G (cd.facts hx)
  have df : ∀ (x : Str) (st : Stmt), dOf x st ∈ fn → ∃ fd, Df K x st (He.ga K x) fd := fun x st hx => cd.defs hx
  obtain ⟨x0, cm⟩ := He.ba c.more
  obtain ⟨x1, cm⟩ := He.ba cm
  obtain ⟨x2, cm⟩ := He.ba cm
  obtain ⟨x3, cm⟩ := He.ba cm
  obtain ⟨x4, cm⟩ := He.ba cm
  obtain ⟨x5, cm⟩ := He.ba cm
  have x6 := cm
  have B : Bl mg := ⟨fr _ (by simp [fa]), fr _ (by simp [fa]), fr _ (by simp [fa]), fr _ (by simp [fa]), fr _ (by simp [fa]), fr _ (by simp [fa]), fr _ (by simp [fa]), fr _ (by simp [fa]), fr _ (by simp [fa]), fr _ (by simp [fa]), fr _ (by simp [fa])⟩
  have i_PERCENT : GlD K mg "PERCENT" (.int 37) := gld_int KX G (cd.facts (by simp [fa]))
  have i_MOST_INK : GlD K mg "MOST_INK" (.int 7) := gld_int KX G (cd.facts (by simp [fa]))
  have X_BadFace : ExcF K mg "BadFace" (He.ga K "BadFace") := exc_of KX G (cd.facts (by simp [fa])) (cd.facts (by simp [fa]))
  have i_MOST_ROWS : GlD K mg "MOST_ROWS" (.int 10) := gld_int KX G (cd.facts (by simp [fa]))
  have i_MOST_COLUMNS : GlD K mg "MOST_COLUMNS" (.int 20) := gld_int KX G (cd.facts (by simp [fa]))
  have i_BLANK : GlD K mg "BLANK" blankC := gldB_ok KX G x0
  have i_MOST_ROLL : GlD K mg "MOST_ROLL" (.int 10) := gld_int KX G (cd.facts (by simp [fa]))
  have X_BadChange : ExcF K mg "BadChange" (He.ga K "BadChange") := exc_of KX G (cd.facts (by simp [fa])) (cd.facts (by simp [fa]))
  have i_ROLL_COST : GlD K mg "ROLL_COST" (.int 4) := gld_int KX G (cd.facts (by simp [fa]))
  have i_CURSOR_COST : GlD K mg "CURSOR_COST" (.int 3) := gld_int KX G (cd.facts (by simp [fa]))
  have i_PUT_COST : GlD K mg "PUT_COST" (.int 4) := gld_int KX G (cd.facts (by simp [fa]))
  have X_BadFilm : ExcF K mg "BadFilm" (He.ga K "BadFilm") := exc_of KX G (cd.facts (by simp [fa])) (cd.facts (by simp [fa]))
  have i_MOST_TICK : GlD K mg "MOST_TICK" (.int 9999) := gld_int KX G (cd.facts (by simp [fa]))
  have i_MOST_TIMES : GlD K mg "MOST_TIMES" (.int 9) := gld_int KX G (cd.facts (by simp [fa]))
  refine law_at KX G hfa c (params := defArgs s_law) (body := defBody s_law) (scope := defScope s_law) (by simp [fn]) (by simp [fa]) sc_law (fun _ _ _ _ _ _ us hl => match us, hl with | [_], _ => rfl) (fun base hB hN T cdv A outer s H E ns hT L hr h1 h2 => ?_)
  obtain ⟨_, F_is_whole⟩ := df "is_whole" s_is_whole (by simp [fn])
  have G_whole := ok_whole (P := l.prog) (w := w) (mg := mg) (base := base) F_is_whole (gl _ (by simp [fa])) B
  obtain ⟨_, F_is_within⟩ := df "is_within" s_is_within (by simp [fn])
  have G_within := ok_within (P := l.prog) (w := w) (mg := mg) (base := base) F_is_within (gl _ (by simp [fa])) G_whole
  obtain ⟨_, F_is_tuple_of⟩ := df "is_tuple_of" s_is_tuple_of (by simp [fn])
  have G_tupleof := ok_tupleof (P := l.prog) (w := w) (mg := mg) (base := base) F_is_tuple_of (gl _ (by simp [fa])) B
  obtain ⟨_, F_are_signs⟩ := df "are_signs" s_are_signs (by simp [fn])
  have G_signs := ok_signs (P := l.prog) (w := w) (mg := mg) (base := base) F_are_signs (gl _ (by simp [fa])) B i_PERCENT
  obtain ⟨_, F_is_sign⟩ := df "is_sign" s_is_sign (by simp [fn])
  have G_sign := ok_sign (P := l.prog) (w := w) (mg := mg) (base := base) F_is_sign (gl _ (by simp [fa])) B G_signs
  obtain ⟨_, F_is_cell⟩ := df "is_cell" s_is_cell (by simp [fn])
  have G_cell := ok_cell (P := l.prog) (w := w) (mg := mg) (base := base) F_is_cell (gl _ (by simp [fa])) G_tupleof G_sign G_within i_MOST_INK
  obtain ⟨_, F_need_size⟩ := df "need_size" s_need_size (by simp [fn])
  have G_size := ok_size (P := l.prog) (w := w) (mg := mg) (base := base) F_need_size (gl _ (by simp [fa])) X_BadFace G_within i_MOST_ROWS i_MOST_COLUMNS
  obtain ⟨_, F_need_rows⟩ := df "need_rows" s_need_rows (by simp [fn])
  have G_rows := ok_rows (P := l.prog) (w := w) (mg := mg) (base := base) F_need_rows (gl _ (by simp [fa])) B X_BadFace G_size G_cell
  obtain ⟨_, F_need_face⟩ := df "need_face" s_need_face (by simp [fn])
  have G_face := ok_face (P := l.prog) (w := w) (mg := mg) (base := base) F_need_face (gl _ (by simp [fa])) B X_BadFace G_tupleof G_rows G_within
  obtain ⟨_, F_blank_cells⟩ := df "blank_cells" s_blank_cells (by simp [fn])
  have G_bcells := ok_bcells (P := l.prog) (w := w) (mg := mg) (base := base) F_blank_cells (gl _ (by simp [fa])) i_BLANK
  obtain ⟨_, F__law_cell⟩ := df "_law_cell" s__law_cell (by simp [fn])
  have G_lcell := ok_lcell (P := l.prog) (w := w) (mg := mg) (base := base) F__law_cell (gl _ (by simp [fa])) B
  obtain ⟨_, F__law_drawn⟩ := df "_law_drawn" s__law_drawn (by simp [fn])
  have G_drawn := ok_drawn (P := l.prog) (w := w) (mg := mg) (base := base) F__law_drawn (gl _ (by simp [fa]))
  obtain ⟨_, F__law_cell_of⟩ := df "_law_cell_of" s__law_cell_of (by simp [fn])
  have G_cellof := ok_cellof (P := l.prog) (w := w) (mg := mg) (base := base) F__law_cell_of (gl _ (by simp [fa]))
  obtain ⟨_, F__law_size⟩ := df "_law_size" s__law_size (by simp [fn])
  have G_lsize := ok_lsize (P := l.prog) (w := w) (mg := mg) (base := base) F__law_size (gl _ (by simp [fa]))
  obtain ⟨_, F__law_face⟩ := df "_law_face" s__law_face (by simp [fn])
  have G_lface := ok_lface (P := l.prog) (w := w) (mg := mg) (base := base) F__law_face (gl _ (by simp [fa])) B G_drawn G_cellof
  obtain ⟨_, F_pushed⟩ := df "pushed" s_pushed (by simp [fn])
  have G_push := ok_push (P := l.prog) (w := w) (mg := mg) (base := base) F_pushed (gl _ (by simp [fa])) B
  obtain ⟨_, F_pulled⟩ := df "pulled" s_pulled (by simp [fn])
  have G_pull := ok_pull (P := l.prog) (w := w) (mg := mg) (base := base) F_pulled (gl _ (by simp [fa])) B
  obtain ⟨_, F_rolled⟩ := df "rolled" s_rolled (by simp [fn])
  have G_roll := ok_roll (P := l.prog) (w := w) (mg := mg) (base := base) F_rolled (gl _ (by simp [fa])) B G_push G_pull G_bcells
  obtain ⟨_, F_is_place⟩ := df "is_place" s_is_place (by simp [fn])
  have G_isplace := ok_isplace (P := l.prog) (w := w) (mg := mg) (base := base) F_is_place (gl _ (by simp [fa])) G_whole
  obtain ⟨_, F_is_part⟩ := df "is_part" s_is_part (by simp [fn])
  have G_ispart := ok_ispart (P := l.prog) (w := w) (mg := mg) (base := base) F_is_part (gl _ (by simp [fa])) B i_MOST_ROLL i_MOST_INK G_within G_isplace G_signs
  obtain ⟨_, F_need_change⟩ := df "need_change" s_need_change (by simp [fn])
  have G_nc := ok_nc (P := l.prog) (w := w) (mg := mg) (base := base) F_need_change (gl _ (by simp [fa])) B (fr _ (by simp [fa])) X_BadChange G_ispart
  obtain ⟨_, F_need_places⟩ := df "need_places" s_need_places (by simp [fn])
  have G_np := ok_np (P := l.prog) (w := w) (mg := mg) (base := base) F_need_places (gl _ (by simp [fa])) B X_BadChange
  obtain ⟨_, F_cells_of⟩ := df "cells_of" s_cells_of (by simp [fn])
  have G_cs := ok_cs (P := l.prog) (w := w) (mg := mg) (base := base) F_cells_of (gl _ (by simp [fa])) B
  obtain ⟨_, F_with_put⟩ := df "with_put" s_with_put (by simp [fn])
  have G_wp := ok_wp (P := l.prog) (w := w) (mg := mg) (base := base) F_with_put (gl _ (by simp [fa])) B
  obtain ⟨_, F_part_done⟩ := df "part_done" s_part_done (by simp [fn])
  have G_pd := ok_pd (P := l.prog) (w := w) (mg := mg) (base := base) F_part_done (gl _ (by simp [fa])) B G_roll G_np G_cs G_wp
  obtain ⟨_, F_parts_done⟩ := df "parts_done" s_parts_done (by simp [fn])
  have G_pds := ok_pds (P := l.prog) (w := w) (mg := mg) (base := base) F_parts_done (gl _ (by simp [fa])) G_pd
  obtain ⟨_, F_part_cost⟩ := df "part_cost" s_part_cost (by simp [fn])
  have G_pc := ok_pc (P := l.prog) (w := w) (mg := mg) (base := base) F_part_cost (gl _ (by simp [fa])) B i_ROLL_COST i_CURSOR_COST i_PUT_COST
  obtain ⟨_, F_cost_of_parts⟩ := df "cost_of_parts" s_cost_of_parts (by simp [fn])
  have G_cp := ok_cp (P := l.prog) (w := w) (mg := mg) (base := base) F_cost_of_parts (gl _ (by simp [fa])) (fr _ (by simp [fa])) G_pc
  obtain ⟨_, F_put_of⟩ := df "put_of" s_put_of (by simp [fn])
  have G_po := ok_po (P := l.prog) (w := w) (mg := mg) (base := base) F_put_of (gl _ (by simp [fa]))
  obtain ⟨_, F_is_worth_joining⟩ := df "is_worth_joining" s_is_worth_joining (by simp [fn])
  have G_wj := ok_wj (P := l.prog) (w := w) (mg := mg) (base := base) F_is_worth_joining (gl _ (by simp [fa])) B i_PUT_COST
  obtain ⟨_, F_spans_to_put⟩ := df "spans_to_put" s_spans_to_put (by simp [fn])
  have G_sp := ok_sp (P := l.prog) (w := w) (mg := mg) (base := base) F_spans_to_put (gl _ (by simp [fa])) B G_wj
  obtain ⟨_, F_need_face_of_size⟩ := df "need_face_of_size" s_need_face_of_size (by simp [fn])
  have G_fos := ok_fos (P := l.prog) (w := w) (mg := mg) (base := base) F_need_face_of_size (gl _ (by simp [fa])) B X_BadFace G_face
  obtain ⟨_, F_size_of⟩ := df "size_of" s_size_of (by simp [fn])
  have G_so := ok_so (P := l.prog) (w := w) (mg := mg) (base := base) F_size_of (gl _ (by simp [fa])) B
  obtain ⟨_, F_need_face_like⟩ := df "need_face_like" s_need_face_like (by simp [fn])
  have G_like := ok_like (P := l.prog) (w := w) (mg := mg) (base := base) F_need_face_like (gl _ (by simp [fa])) G_so G_fos
  obtain ⟨_, F_change_of⟩ := df "change_of" s_change_of (by simp [fn])
  obtain ⟨_, F_change_with_roll⟩ := df "change_with_roll" s_change_with_roll (by simp [fn])
  have G_cwr := ok_cwr (P := l.prog) (w := w) (mg := mg) (base := base) F_change_with_roll (gl _ (by simp [fa])) (fr _ (by simp [fa])) (fr _ (by simp [fa])) G_roll G_po G_sp
  obtain ⟨_, F__law_other⟩ := df "_law_other" s__law_other (by simp [fn])
  have G_other := ok_other (P := l.prog) (w := w) (mg := mg) (base := base) F__law_other (gl _ (by simp [fa])) B (fr _ (by simp [fa])) G_drawn G_cellof
  obtain ⟨_, F_need_film_face⟩ := df "need_film_face" s_need_film_face (by simp [fn])
  have G_nff := ok_nff (P := l.prog) (w := w) (mg := mg) (base := base) F_need_film_face (gl _ (by simp [fa])) G_face
  obtain ⟨_, F_need_length⟩ := df "need_length" s_need_length (by simp [fn])
  have G_nl := ok_nl (P := l.prog) (w := w) (mg := mg) (base := base) F_need_length (gl _ (by simp [fa])) X_BadFilm i_MOST_TICK G_within
  obtain ⟨_, F_need_pairs⟩ := df "need_pairs" s_need_pairs (by simp [fn])
  have G_nps := ok_nps (P := l.prog) (w := w) (mg := mg) (base := base) F_need_pairs (gl _ (by simp [fa])) G_tupleof G_within
  obtain ⟨_, F_next_face⟩ := df "next_face" s_next_face (by simp [fn])
  have G_nx := ok_nx (P := l.prog) (w := w) (mg := mg) (base := base) F_next_face (gl _ (by simp [fa])) G_nc G_pds
  obtain ⟨_, F_need_film⟩ := df "need_film" s_need_film (by simp [fn])
  have G_nf := ok_nf (P := l.prog) (w := w) (mg := mg) (base := base) F_need_film (gl _ (by simp [fa])) B G_tupleof G_nff G_nl G_nps G_nx
  obtain ⟨_, F_face_up_to⟩ := df "face_up_to" s_face_up_to (by simp [fn])
  have G_up := ok_up (P := l.prog) (w := w) (mg := mg) (base := base) F_face_up_to (gl _ (by simp [fa])) G_pds
  obtain ⟨_, F_face_at⟩ := df "face_at" s_face_at (by simp [fn])
  have G_at := ok_at (P := l.prog) (w := w) (mg := mg) (base := base) F_face_at (gl _ (by simp [fa])) X_BadFilm G_nf G_within G_up
  obtain ⟨_, F_cost_of⟩ := df "cost_of" s_cost_of (by simp [fn])
  have G_cof := ok_cof (P := l.prog) (w := w) (mg := mg) (base := base) F_cost_of (gl _ (by simp [fa])) (fr _ (by simp [fa])) G_nf G_cp
  obtain ⟨_, F_moved⟩ := df "moved" s_moved (by simp [fn])
  have G_mv := ok_mv (P := l.prog) (w := w) (mg := mg) (base := base) F_moved (gl _ (by simp [fa])) (fr _ (by simp [fa]))
  obtain ⟨_, F_slowed⟩ := df "slowed" s_slowed (by simp [fn])
  have G_sl := ok_sl (P := l.prog) (w := w) (mg := mg) (base := base) F_slowed (gl _ (by simp [fa])) B X_BadFilm i_MOST_TIMES G_nf G_within G_nl G_mv
  obtain ⟨_, F_need_faces_by_ticks⟩ := df "need_faces_by_ticks" s_need_faces_by_ticks (by simp [fn])
  have G_nft := ok_nft (P := l.prog) (w := w) (mg := mg) (base := base) F_need_faces_by_ticks (gl _ (by simp [fa])) B (fr _ (by simp [fa])) i_MOST_TICK G_nps G_nff G_so
  obtain ⟨_, F_filmed⟩ := df "filmed" s_filmed (by simp [fn])
  obtain ⟨_, F__law_pairs⟩ := df "_law_pairs" s__law_pairs (by simp [fn])
  have G_lprs := ok_lprs (P := l.prog) (w := w) (mg := mg) (base := base) F__law_pairs (gl _ (by simp [fa])) B G_drawn G_lsize G_lface G_other
  obtain ⟨_, F__law_then⟩ := df "_law_then" s__law_then (by simp [fn])
  have G_then := ok_then (P := l.prog) (w := w) (mg := mg) (base := base) F__law_then (gl _ (by simp [fa]))
  have G_co := ok_co (P := l.prog) (w := w) (mg := mg) (base := base) F_change_of (gl _ (by simp [fa])) B (fr _ (by simp [fa])) (fr _ (by simp [fa])) G_face G_like G_cwr G_cp
  have G_fd := ok_fd (P := l.prog) (w := w) (mg := mg) (base := base) F_filmed (gl _ (by simp [fa])) B G_nft G_co
  obtain ⟨ec_BadFilm, ka_BadFilm, kv_BadFilm⟩ := wordB_ok x5
  obtain ⟨_, F__law_word⟩ := df "_law_word" s__law_word (by simp [fn])
  obtain ⟨_, F__law_told⟩ := df "_law_told" s__law_told (by simp [fn])
  have WD := fun (k : Nat) (hk : 1 ≤ k) => word_mono (ok_word (P := l.prog) (w := w) (base := base) F__law_word (gl _ (by simp [fa])) B.isi B.int (fr _ (by simp [fa])) (fr _ (by simp [fa])) (fun c hc => by
    simp only [List.mem_cons, List.not_mem_nil, or_false] at hc
    rcases hc with rfl | rfl | rfl | rfl | rfl | rfl | rfl | rfl | rfl <;> exact gl _ (by simp [fa])) ⟨ec_BadFilm, ka_BadFilm, kv_BadFilm⟩) hk
  exact law_body (CS := He.ga K "ScreenError") ⟨B, (G_lcell.mono (by decide)), (G_drawn.mono (by decide)), (G_lprs.mono (by decide)), (G_then.mono (by decide)), (G_fd.mono (by decide)), (G_sl.mono (by decide)), (G_at.mono (by decide)), (G_cof.mono (by decide)), (fr _ (by simp [fa])), ⟨_, _, F__law_told, gl _ (by simp [fa])⟩, (WD _ (by decide)), (of_decide_eq_true x6), (gl _ (by simp [fa]))⟩ L hT hr h1
end K96
open PySem PySem.W PySem.Calls PyProof.Rows
set_option maxRecDepth 100000 in
set_option maxHeartbeats 0 in
theorem PySem.Challenge.cw_farpanes_k96_whole_slowed_films_holds : PySem.Challenge.rw_farpanes_k96_whole_slowed_films.Holds := by
  w_on; o_law
  refine HandSHeadRun.head_any (r := OpenLaw.row PySem.Challenge.rw_farpanes_k96_whole_slowed_films) (q := view (OpenLaw.row PySem.Challenge.rw_farpanes_k96_whole_slowed_films).prog [81]) (H := K96.hk) (ob := K96.ob) (M := 8000) (loose := K96.loose) (d := HandSHeadRun.topDef (OpenLaw.row PySem.Challenge.rw_farpanes_k96_whole_slowed_films).prog 81) (kwd := []) K96.ob_eq
    (by kernel_rfl) (fun s => by kernel_rfl) K96.run (by kernel_rfl) (by kernel_rfl) (by kernel_rfl) (by rfl) (by first | assumption | decide +kernel) (by decide +kernel) ⟨rfl, rfl, rfl, rfl, rfl, by decide +kernel⟩ ?hw ?hc
  case hw => w_witness2
  case hc =>
    refine LamX.walk_ofTsE (l := PySem.Challenge.rw_farpanes_k96_whole_slowed_films) (n := 63) (k := 11) (x := "_law_script") (CX := fun w => L2N.CX (PySem.Challenge.rw_farpanes_k96_whole_slowed_films).prog w) rfl (by decide) (by kernel_rfl) ⟨rfl, by decide, by decide⟩ ?F (fun w H s e s' z => FP.cx_none z)
    intro w mg fa h Y G hmg0
    obtain ⟨K, KX, c⟩ := Y
    have hmg : mg ("law" : PySem.Str) = some (.ref fa) := by
      have e : (HandSHeadRun.topDef (OpenLaw.row PySem.Challenge.rw_farpanes_k96_whole_slowed_films).prog 81).name = ("law" : PySem.Str) := by kernel_rfl
      rw [← e]
      exact hmg0
    exact ⟨K, KX, K96.facts KX G hmg c⟩
