import PyProof.Rows.All
import Wide.All
import OpenK.AllK
import Wide.FinOn
import HandS.ForMost
import HandS.ForExc
import HandS.Lambda
import HandS.EndTab
import HandS.HeadWalk
import HandS.HeadHook4
import HandS.Head2
import HandS.IsInst
import HandS.TupMul
import HandS.TupAny
import HandS.Wide
import HandS.ExcCtx
import HandS.HotCalls
import HandS.ExcIs
import PyProof.SumAny
import PySem.Challenge.RW_farpanes_k10_faces
set_option Elab.async false
set_option linter.all false
set_option maxRecDepth 100000
set_option maxHeartbeats 4000000
set_option autoImplicit false
namespace FP
open PySem PySem.Spec PyProof.Rows L2

/-! ### heaps, data -/
def hid (ps : List Addr) (H : Hp) : Hp := fun b => if b ∈ ps then none else H b
theorem hid_of {ps : List Addr} {H : Hp} {b : Addr} {o : HO} (n : b ∉ ps) (h : H b = some o) : hid ps H b = some o := by
  unfold hid
  rw [if_neg n]
  exact h
theorem hid_out {ps : List Addr} {H : Hp} {b : Addr} {o : HO} (h : hid ps H b = some o) : b ∉ ps ∧ H b = some o := by
  unfold hid at h
  by_cases c : b ∈ ps
  · rw [if_pos c] at h
    cases h
  · rw [if_neg c] at h
    exact ⟨c, h⟩
theorem hid_sub {ps : List Addr} {H : Hp} : Same (hid ps H) H := fun _ _ h => (hid_out h).2
theorem hid_same {ps : List Addr} {H H' : Hp} (e : Same H H') : Same (hid ps H) (hid ps H') := fun _ _ h => hid_of (hid_out h).1 (e _ _ (hid_out h).2)
theorem hid_nil {H : Hp} : hid [] H = H := by
  funext b
  unfold hid
  rw [if_neg (by simp)]
theorem same_new {H : Hp} {p : Addr} {o : HO} (h : H p = none) : Same H (upd H p o) := fun b x e => by
  rw [upd_ne (ne_of_none e h)]
  exact e
theorem same_sqt {K : PySem.W.Frag} {H H' : Hp} {a : Addr} {xs : List V} (e : Same H H') (h : SqT K H a xs) : SqT K H' a xs := by
  rcases h with (h | ⟨o, h⟩) | h
  · exact .inl (.inl (e _ _ h))
  · exact .inl (.inr ⟨o, e _ _ h⟩)
  · exact .inr h
mutual
theorem dp_mono {K : PySem.W.Frag} {H H' : Hp} (e : Same H H') : ∀ (d : PyData) (v : V), Dp K H v d → Dp K H' v d
  | .none, _, h => by
    cases h
    exact .non
  | .bool b, _, h => by
    cases h
    exact .bl b
  | .int i, _, h => by
    cases h
    exact .int i
  | .str x, _, h => by
    cases h
    exact .str x
  | .list ds, _, h => by
    cases h with
    | lst hs ha => exact .lst (e.seq hs) (dpa_mono e ds _ ha)
  | .tuple ds, _, h => by
    cases h with
    | tup hs ha => exact .tup (same_sqt e hs) (dpa_mono e ds _ ha)
  | .dict kvs, _, h => by cases h
theorem dpa_mono {K : PySem.W.Frag} {H H' : Hp} (e : Same H H') : ∀ (ds : List PyData) (vs : List V), DpAll K H vs ds → DpAll K H' vs ds
  | [], _, h => by
    cases h
    exact .nil
  | d :: ds, _, h => by
    cases h with
    | cons a b => exact .cons (dp_mono e d _ a) (dpa_mono e ds _ b)
end
theorem dpm {K : PySem.W.Frag} {H H' : Hp} (e : Same H H') {d : PyData} {v : V} (h : Dp K H v d) : Dp K H' v d := dp_mono e d v h
theorem dpam {K : PySem.W.Frag} {H H' : Hp} (e : Same H H') {ds : List PyData} {vs : List V} (h : DpAll K H vs ds) : DpAll K H' vs ds := dpa_mono e ds vs h
theorem dpa_len {K : PySem.W.Frag} {H : Hp} : ∀ {ds : List PyData} {vs : List V}, DpAll K H vs ds → vs.length = ds.length
  | [], _, .nil => rfl
  | _ :: _, _, .cons _ t => by rw [List.length_cons, List.length_cons, dpa_len t]
theorem dpa_get {K : PySem.W.Frag} {H : Hp} : ∀ {ds : List PyData} {vs : List V} {i : Nat} {d : PyData}, DpAll K H vs ds → ds[i]? = some d → ∃ v, vs[i]? = some v ∧ Dp K H v d
  | [], _, _, _, .nil, h => by simp at h
  | _ :: _, _ :: _, 0, _, .cons a _, h => by
    simp at h
    subst h
    exact ⟨_, rfl, a⟩
  | _ :: ds, _ :: vs, i + 1, d, .cons _ t, h => by
    obtain ⟨v, h1, h2⟩ := dpa_get (i := i) (d := d) t (by simpa using h)
    exact ⟨v, by simpa using h1, h2⟩
theorem dpa_get' {K : PySem.W.Frag} {H : Hp} : ∀ {ds : List PyData} {vs : List V} {i : Nat} {v : V}, DpAll K H vs ds → vs[i]? = some v → ∃ d, ds[i]? = some d ∧ Dp K H v d
  | [], _, _, _, .nil, h => by simp at h
  | _ :: _, _ :: _, 0, _, .cons a _, h => by
    simp at h
    subst h
    exact ⟨_, rfl, a⟩
  | _ :: ds, _ :: vs, i + 1, v, .cons _ t, h => by
    obtain ⟨d, h1, h2⟩ := dpa_get' (i := i) (v := v) t (by simpa using h)
    exact ⟨d, by simpa using h1, h2⟩
theorem dpa_app {K : PySem.W.Frag} {H : Hp} : ∀ {ds es : List PyData} {vs us : List V}, DpAll K H vs ds → DpAll K H us es → DpAll K H (vs ++ us) (ds ++ es)
  | _, _, _, _, .nil, h => h
  | _, _, _, _, .cons a t, h => .cons a (dpa_app t h)
theorem dpa_take {K : PySem.W.Frag} {H : Hp} : ∀ (n : Nat) {ds : List PyData} {vs : List V}, DpAll K H vs ds → DpAll K H (vs.take n) (ds.take n)
  | 0, _, _, _ => .nil
  | _ + 1, _, _, .nil => .nil
  | n + 1, _, _, .cons a t => .cons a (dpa_take n t)
theorem dpa_drop {K : PySem.W.Frag} {H : Hp} : ∀ (n : Nat) {ds : List PyData} {vs : List V}, DpAll K H vs ds → DpAll K H (vs.drop n) (ds.drop n)
  | 0, _, _, h => h
  | _ + 1, _, _, .nil => .nil
  | n + 1, _, _, .cons _ t => dpa_drop n t
theorem dpa_rep {K : PySem.W.Frag} {H : Hp} {ds : List PyData} {vs : List V} (h : DpAll K H vs ds) : ∀ n : Nat, DpAll K H (List.replicate n vs).flatten (List.replicate n ds).flatten
  | 0 => .nil
  | n + 1 => by
    rw [List.replicate_succ, List.replicate_succ, List.flatten_cons, List.flatten_cons]
    exact dpa_app h (dpa_rep h n)

theorem hid_more {ps qs : List Addr} {H : Hp} (h : ∀ b, b ∈ ps → b ∈ qs) : Same (hid qs H) (hid ps H) := fun b o e => by
  obtain ⟨n, e2⟩ := hid_out e
  exact hid_of (fun z => n (h b z)) e2
theorem hid_cons {p : Addr} {ps : List Addr} {H : Hp} : Same (hid (p :: ps) H) (hid ps H) := hid_more fun _ h => List.mem_cons_of_mem _ h
theorem hid_new {p : Addr} {ps : List Addr} {G H : Hp} (hp : G p = none) (e : Same G H) : Same (hid ps G) (hid (p :: ps) H) := fun b o h => by
  obtain ⟨n, e2⟩ := hid_out h
  refine hid_of (fun z => ?_) (e b o e2)
  rcases List.mem_cons.mp z with q | q
  · rw [q, hp] at e2
    cases e2
  · exact n q
/-! ### slots and objects of one's own -/
inductive Sd where
  | im (d : PyData)
  | ad (a : Addr)
inductive Od where
  | lst (xs : List Sd)
  | ins (C : Addr) (fs : List (Str × Sd))
abbrev De := List (Option Sd)
/-- ps: what the caller keeps for himself; os: objects of one's own -/
structure Om where
  ps : List Addr
  os : List (Addr × Od)
def ads (ω : Om) : List Addr := ω.ps ++ ω.os.map (·.1)
def SdV (K : PySem.W.Frag) (H : Hp) : Sd → V → Prop
  | .im d, v => Dp K H v d
  | .ad a, v => v = .ref a
theorem sdv_mono {K : PySem.W.Frag} {H H' : Hp} (e : Same H H') : ∀ {r : Sd} {v : V}, SdV K H r v → SdV K H' r v
  | .im _, _, h => dpm e h
  | .ad _, _, h => h
theorem dpa_im {K : PySem.W.Frag} {H : Hp} : ∀ {xs : List PyData} {vs : List V}, Paired (SdV K H) (xs.map .im) vs → DpAll K H vs xs
  | [], _, h => by
    cases h
    exact .nil
  | x :: xs, _, h => by
    cases h with
    | cons a b => exact .cons a (dpa_im b)
theorem im_dpa {K : PySem.W.Frag} {H : Hp} : ∀ {xs : List PyData} {vs : List V}, DpAll K H vs xs → Paired (SdV K H) (xs.map .im) vs
  | _, _, .nil => .nil
  | _, _, .cons a b => .cons a (im_dpa b)
def OdV (K : PySem.W.Frag) (Hh H : Hp) (a : Addr) : Od → Prop
  | .lst xs => ∃ vs, H a = some (.lst vs) ∧ Paired (SdV K Hh) xs vs
  | .ins C fs => ∃ dx vs, H a = some (.ins C dx vs) ∧ Paired (fun (p : Str × Sd) (q : Str × V) => p.1 = q.1 ∧ SdV K Hh p.2 q.2) fs vs
theorem odv_mono {K : PySem.W.Frag} {G G' H H' : Hp} {a : Addr} (g : Same G G') (e : Same H H') : ∀ {o : Od}, OdV K G H a o → OdV K G' H' a o
  | .lst _, ⟨vs, h, p⟩ => ⟨vs, e _ _ h, L2.Paired.mapP p fun _ _ q => sdv_mono g q⟩
  | .ins _ _, ⟨dx, vs, h, p⟩ => ⟨dx, vs, e _ _ h, L2.Paired.mapP p fun _ _ q => ⟨q.1, sdv_mono g q.2⟩⟩
theorem odv_some {K : PySem.W.Frag} {G H : Hp} {a : Addr} : ∀ {o : Od}, OdV K G H a o → H a ≠ none
  | .lst _, ⟨vs, h, p⟩ => by
    rw [h]
    simp
  | .ins _ _, ⟨dx, vs, h, p⟩ => by
    rw [h]
    simp
/-- the objects alone -/
structure Ro (K : PySem.W.Frag) (H : Hp) (ω : Om) : Prop where
  ob : ∀ a o, (a, o) ∈ ω.os → OdV K (hid (ads ω) H) H a o
  nd : (ω.os.map (·.1)).Nodup
  th : ∀ a ∈ ω.ps, H a ≠ none
structure Rl (K : PySem.W.Frag) (H : Hp) (σ : L2.St) (δ : De) (ω : Om) : Prop where
  len : σ.length = δ.length
  sl : ∀ (i : Nat) (r : Sd), δ[i]? = some (some r) → ∃ v, σ[i]? = some (some v) ∧ SdV K (hid (ads ω) H) r v
  ro : Ro K H ω
section
variable {K : PySem.W.Frag} {H H' : Hp} {σ : L2.St} {δ : De} {ω : Om}
theorem there_mono {ps : List Addr} (t : ∀ a ∈ ps, H a ≠ none) (e : Same H H') : ∀ a ∈ ps, H' a ≠ none := fun a h z => by
  have q := t a h
  cases g : H a with
  | none => exact q g
  | some o =>
    rw [e a o g] at z
    cases z
theorem Ro.mono (r : Ro K H ω) (e : Same H H') : Ro K H' ω := ⟨fun a o h => odv_mono (hid_same e) e (r.ob a o h), r.nd, there_mono r.th e⟩
theorem Rl.mono (r : Rl K H σ δ ω) (e : Same H H') : Rl K H' σ δ ω := ⟨r.len, fun i x h => by
  obtain ⟨v, h1, h2⟩ := r.sl i x h
  exact ⟨v, h1, sdv_mono (hid_same e) h2⟩, r.ro.mono e⟩
theorem Ro.there (r : Ro K H ω) : ∀ a ∈ ads ω, H a ≠ none := fun a h => by
  rcases List.mem_append.mp h with h | h
  · exact r.th a h
  · obtain ⟨p, hp, e⟩ := List.mem_map.mp h
    subst e
    exact odv_some (r.ob p.1 p.2 hp)
theorem Ro.nil {ps : List Addr} (h : ∀ a ∈ ps, H a ≠ none) : Ro K H ⟨ps, []⟩ := ⟨fun _ _ h => (List.not_mem_nil h).elim, List.nodup_nil, h⟩
theorem ads_nil {ps : List Addr} : ads ⟨ps, []⟩ = ps := by
  show ps ++ [] = ps
  rw [List.append_nil]
theorem new_out {ps : List Addr} (t : ∀ a ∈ ps, H a ≠ none) {p : Addr} (h : H p = none) : p ∉ ps := fun z => t p z h
theorem Rl.set (r : Rl K H σ δ ω) {i : Nat} {x : Sd} {v : V} (h : SdV K (hid (ads ω) H) x v) : Rl K H (σ.set i (some v)) (δ.set i (some x)) ω := by
  refine ⟨by rw [List.length_set, List.length_set, r.len], fun j y hj => ?_, r.ro⟩
  by_cases hij : i = j
  · subst hij
    have hl : i < δ.length := by
      have := (List.getElem?_eq_some_iff.mp hj).1
      rwa [List.length_set] at this
    rw [List.getElem?_set_self hl] at hj
    cases hj
    exact ⟨v, List.getElem?_set_self (by rw [r.len]; exact hl), h⟩
  · rw [List.getElem?_set_ne hij] at hj
    obtain ⟨u, h1, h2⟩ := r.sl j y hj
    exact ⟨u, by rw [List.getElem?_set_ne hij]; exact h1, h2⟩
/-- a slot is forgotten -/
theorem Rl.forget (r : Rl K H σ δ ω) {i : Nat} {x : Option V} : Rl K H (σ.set i x) (δ.set i none) ω := by
  refine ⟨by rw [List.length_set, List.length_set, r.len], fun j y hj => ?_, r.ro⟩
  by_cases hij : i = j
  · subst hij
    have hl : i < δ.length := by
      have := (List.getElem?_eq_some_iff.mp hj).1
      rwa [List.length_set] at this
    rw [List.getElem?_set_self hl] at hj
    cases hj
  · rw [List.getElem?_set_ne hij] at hj
    obtain ⟨u, h1, h2⟩ := r.sl j y hj
    exact ⟨u, by rw [List.getElem?_set_ne hij]; exact h1, h2⟩
end

/-! ### the weakest readings -/
section
variable {X : Cx}
@[irreducible] def wpe (X : Cx) (e : Expr) : TE := fun σ H Q => ∀ pins s, Inv X pins σ H s → wpAny (model X.prog X.w) X.A (eval e X.env) (EP X pins σ Q) X.xe s
@[irreducible] def wpt (X : Cx) (e : Expr) : TT := fun σ H Q => ∀ pins s, Inv X pins σ H s → wpAny (model X.prog X.w) X.A (isTrue e X.env (eval e X.env)) (TP X pins σ Q) X.xe s
@[irreducible] def wpa (X : Cx) (es : List Expr) : TA := fun σ H Q => ∀ (pos : Pos) pins s, Inv X pins σ H s → wpAny (model X.prog X.w) X.A (spliced (backTo pos (starEach es X.env))) (AP X pins σ Q) X.xe s
@[irreducible] def wps (X : Cx) (st : Stmt) : TS := fun D σ H => ∀ pins s, Inv X pins σ H s → wpAny (model X.prog X.w) X.A (exec st X.env) (SP X pins D) X.xe s
@[irreducible] def wpss (X : Cx) (st : List Stmt) : TS := fun D σ H => ∀ pins s, Inv X pins σ H s → wpAny (model X.prog X.w) X.A (execs st X.env) (SP X pins D) X.xe s
theorem pe_w {e : Expr} : PE X e (wpe X e) := ⟨fun pins s σ H Q I h => by unfold wpe at h; exact h pins s I⟩
theorem pt_w {e : Expr} : PT X e (wpt X e) := ⟨fun pins s σ H Q I h => by unfold wpt at h; exact h pins s I⟩
theorem pa_w {es : List Expr} : PA X es (wpa X es) := ⟨fun pos pins s σ H Q I h => by unfold wpa at h; exact h pos pins s I⟩
theorem ps_w {st : Stmt} : PS X st (wps X st) := ⟨fun pins s σ H D I h => by unfold wps at h; exact h pins s I⟩
theorem pss_w {st : List Stmt} : PSs X st (wpss X st) := ⟨fun pins s σ H D I h => by unfold wpss at h; exact h pins s I⟩
theorem we {e : Expr} {t : TE} {σ : L2.St} {H : Hp} {Q : VK} (h : PE X e t) (q : t σ H Q) : wpe X e σ H Q := by unfold wpe; exact fun pins s I => h.run pins s σ H Q I q
theorem wt {e : Expr} {t : TT} {σ : L2.St} {H : Hp} {Q : Bool → Hp → Prop} (h : PT X e t) (q : t σ H Q) : wpt X e σ H Q := by unfold wpt; exact fun pins s I => h.run pins s σ H Q I q
theorem wa {es : List Expr} {t : TA} {σ : L2.St} {H : Hp} {Q : List V → Hp → Prop} (h : PA X es t) (q : t σ H Q) : wpa X es σ H Q := by unfold wpa; exact fun pos pins s I => h.run pos pins s σ H Q I q
theorem ws {st : Stmt} {t : TS} {σ : L2.St} {H : Hp} {D : Ends} (h : PS X st t) (q : t D σ H) : wps X st D σ H := by unfold wps; exact fun pins s I => h.run pins s σ H D I q
theorem wss {st : List Stmt} {t : TS} {σ : L2.St} {H : Hp} {D : Ends} (h : PSs X st t) (q : t D σ H) : wpss X st D σ H := by unfold wpss; exact fun pins s I => h.run pins s σ H D I q
end
/-! ### judgements -/
def PD (X : Cx) (δ : De) (ω : Om) (e : Expr) (d : PyData) : Prop :=
  ∀ σ H, Rl X.K H σ δ ω → ∀ Q : VK, (∀ v H', Same H H' → Dp X.K (hid (ads ω) H') v d → Q v H') → wpe X e σ H Q
def PDs (X : Cx) (δ : De) (ω : Om) (es : List Expr) (ds : List PyData) : Prop :=
  ∀ σ H, Rl X.K H σ δ ω → ∀ Q : List V → Hp → Prop, (∀ vs H', Same H H' → DpAll X.K (hid (ads ω) H') vs ds → Q vs H') → wpa X es σ H Q
def PTd (X : Cx) (δ : De) (ω : Om) (e : Expr) (b : Bool) : Prop :=
  ∀ σ H, Rl X.K H σ δ ω → ∀ Q : Bool → Hp → Prop, (∀ H', Same H H' → Q b H') → wpt X e σ H Q
/-- a list that is read -/
def PL (X : Cx) (δ : De) (ω : Om) (e : Expr) (ds : List PyData) : Prop :=
  ∀ σ H, Rl X.K H σ δ ω → ∀ Q : VK, (∀ p vs H', Same H H' → SqL X.K H' p vs → DpAll X.K (hid (ads ω) H') vs ds → Q (.ref p) H') → wpe X e σ H Q
/-- a new list -/
def PN (X : Cx) (δ : De) (ω : Om) (e : Expr) (ds : List PyData) : Prop :=
  ∀ σ H, Rl X.K H σ δ ω → ∀ Q : VK, (∀ p vs H', Same H H' → H p = none → H' p = some (.lst vs) → DpAll X.K (hid (p :: ads ω) H') vs ds → Q (.ref p) H') → wpe X e σ H Q
section
variable {X : Cx} {δ : De} {ω : Om} {a b c e : Expr} {es : List Expr} {d da db dc dz : PyData} {ds : List PyData} {pos : Pos}
theorem PD.eq (h : PD X δ ω e d) (q : d = dz) : PD X δ ω e dz := q ▸ h
theorem PN.pl (h : PN X δ ω e ds) : PL X δ ω e ds := fun σ H r Q k => h σ H r Q fun p vs H' s _ h1 h2 => k p vs H' s (SqL.of h1) (dpam hid_cons h2)
theorem PN.pd (h : PN X δ ω e ds) : PD X δ ω e (.list ds) := fun σ H r Q k => h σ H r Q fun p vs H' s n h1 h2 => k (.ref p) H' s (.lst (SqL.of (hid_of (new_out r.ro.there n) h1)) (dpam hid_cons h2))
theorem PD.pl (h : PD X δ ω e (.list ds)) : PL X δ ω e ds := fun σ H r Q k => h σ H r Q fun v H' s h1 => by
  cases h1 with
  | lst hs ha => exact k _ _ H' s (hid_sub.seq hs) ha
theorem pds_nil : PDs X δ ω [] [] := fun σ H _ Q k => wa pa_nil (k [] H (Same.refl H) .nil)
theorem pds_cons (ha : PD X δ ω e d) (hr : PDs X δ ω es ds) (hs : starEach (e :: es) X.env = (false, eval e X.env) :: starEach es X.env := by rfl) : PDs X δ ω (e :: es) (d :: ds) := fun σ H r Q k =>
  wa (pa_cons pe_w pa_w hs) (ha σ H r _ fun v H1 s1 d1 => hr σ H1 (r.mono s1) _ fun vs H2 s2 d2 => k (v :: vs) H2 (s1.trans s2) (.cons (dpm (hid_same s2) d1) d2))

/-! ### names, constants -/
theorem pd_var (i : Nat) {x : Str} (hd : δ[i]? = some (some (.im d)) := by rfl) (hN : X.N[i]? = some x := by rfl) (hv : Vis X.env.scope x := by first | exact Or.inl rfl | exact Or.inr (Or.inl rfl) | exact Or.inr (Or.inr rfl))
    (h1 : (x == ("__debug__" : Str)) = false := by decide) (h2 : (x == ("__classdict__" : Str)) = false := by decide) : PD X δ ω (.Name x pos) d := fun σ H r Q k => by
  obtain ⟨v, e1, e2⟩ := r.sl i _ hd
  exact we (pe_var hN hv h1 h2) ⟨v, e1, k v H (Same.refl H) e2⟩
theorem pl_var (i : Nat) {x : Str} {p : Addr} {xs : List PyData} (hm : (p, Od.lst (xs.map .im)) ∈ ω.os) (hd : δ[i]? = some (some (.ad p)) := by rfl) (hN : X.N[i]? = some x := by rfl) (hv : Vis X.env.scope x := by first | exact Or.inl rfl | exact Or.inr (Or.inl rfl) | exact Or.inr (Or.inr rfl))
    (h1 : (x == ("__debug__" : Str)) = false := by decide) (h2 : (x == ("__classdict__" : Str)) = false := by decide) : PL X δ ω (.Name x pos) xs := fun σ H r Q k => by
  obtain ⟨v, e1, e2⟩ := r.sl i _ hd
  obtain ⟨vs, e3, e4⟩ := r.ro.ob _ _ hm
  have e2 : v = .ref p := e2
  subst e2
  exact we (pe_var hN hv h1 h2) ⟨_, e1, k p vs H (Same.refl H) (SqL.of e3) (dpa_im e4)⟩
theorem pd_int {i : Int} {j : Nat} : PD X δ ω (.Constant (.int i) j pos) (.int i) := fun σ H _ Q k => we pe_int (k _ H (Same.refl H) (.int i))
theorem pd_str {x : Str} {j : Nat} : PD X δ ω (.Constant (.str x) j pos) (.str x) := fun σ H _ Q k => we pe_str (k _ H (Same.refl H) (.str x))
theorem pd_bl {x : Bool} {j : Nat} : PD X δ ω (.Constant (.bool x) j pos) (.bool x) := fun σ H _ Q k => we pe_bl (k _ H (Same.refl H) (.bl x))
theorem pd_non {j : Nat} : PD X δ ω (.Constant .none j pos) .none := fun σ H _ Q k => we pe_non (k _ H (Same.refl H) .non)
/-- a constant of the module -/
def GlD (K : PySem.W.Frag) (mg : Str → Option Value) (x : Str) (d : PyData) : Prop := ∃ v u, mg x = some u ∧ RelV v u ∧ ∀ H, Dp K H v d
theorem pd_glob {x : Str} (h : GlD X.K X.mg x d) (hg : Gl X x := by rfl) (hd : (x == ("__debug__" : Str)) = false := by decide) : PD X δ ω (.Name x pos) d := fun σ H _ Q k => by
  obtain ⟨v, u, h1, h2, h3⟩ := h
  exact we (pe_glob hg h1 h2 hd) (k v H (Same.refl H) (h3 _))

/-! ### operators -/
def RD (K : PySem.W.Frag) (r : R2) (da db dz : PyData) : Prop :=
  ∀ (ps : List Addr) (x y : V) (H : Hp), (∀ a ∈ ps, H a ≠ none) → Dp K (hid ps H) x da → Dp K (hid ps H) y db → ∀ Q : VK, (∀ z H', Same H H' → Dp K (hid ps H') z dz → Q z H') → r x y H Q
theorem pd_op {op : Operator} {r : R2} (ho : OpR X (binaryOp op) r) (hr : RD X.K r da db dz) (ha : PD X δ ω a da) (hb : PD X δ ω b db) : PD X δ ω (.BinOp a op b pos) dz := fun σ H rl Q k =>
  we (pe_op ho pe_w pe_w) (ha σ H rl _ fun x H1 s1 d1 => hb σ H1 (rl.mono s1) _ fun y H2 s2 d2 =>
    hr _ x y H2 (there_mono rl.ro.there (s1.trans s2)) (dpm (hid_same s2) d1) d2 Q fun z H3 s3 d3 => k z H3 ((s1.trans s2).trans s3) d3)
theorem pd_cmp {op : CmpOp} {r : R2} (ho : OpR X (compareOp op) r) (hr : RD X.K r da db dz) (ha : PD X δ ω a da) (hb : PD X δ ω b db) (hm : behindInMarks op b = false) : PD X δ ω (.Compare a [op] [b] pos) dz := fun σ H rl Q k =>
  we (pe_cmpR ho pe_w pe_w hm) (ha σ H rl _ fun x H1 s1 d1 => hb σ H1 (rl.mono s1) _ fun y H2 s2 d2 =>
    hr _ x y H2 (there_mono rl.ro.there (s1.trans s2)) (dpm (hid_same s2) d1) d2 Q fun z H3 s3 d3 => k z H3 ((s1.trans s2).trans s3) d3)
theorem rd_I0 {K : PySem.W.Frag} {g : Int → Int → Int} {i j : Int} : RD K (rI0 fun i j => .int (g i j)) (.int i) (.int j) (.int (g i j)) := fun ps x y H _ hx hy Q k => by
  cases hx
  cases hy
  exact ⟨i, j, rfl, rfl, k _ H (Same.refl H) (.int _)⟩
theorem rd_B0 {K : PySem.W.Frag} {g : Int → Int → Bool} {i j : Int} : RD K (rI0 fun i j => .bl (g i j)) (.int i) (.int j) (.bool (g i j)) := fun ps x y H _ hx hy Q k => by
  cases hx
  cases hy
  exact ⟨i, j, rfl, rfl, k _ H (Same.refl H) (.bl _)⟩
theorem rd_I {K : PySem.W.Frag} {C : Int → Int → Prop} {g : Int → Int → Int} {i j : Int} (hc : C i j) : RD K (rI C fun i j => .int (g i j)) (.int i) (.int j) (.int (g i j)) := fun ps x y H _ hx hy Q k => by
  cases hx
  cases hy
  exact ⟨i, j, rfl, rfl, hc, k _ H (Same.refl H) (.int _)⟩
theorem pd_add {i j : Int} (ha : PD X δ ω a (.int i)) (hb : PD X δ ω b (.int j)) : PD X δ ω (.BinOp a .Add b pos) (.int (i + j)) := pd_op op_add rd_I0 ha hb
theorem pd_sub {i j : Int} (ha : PD X δ ω a (.int i)) (hb : PD X δ ω b (.int j)) : PD X δ ω (.BinOp a .Sub b pos) (.int (i - j)) := pd_op op_sub rd_I0 ha hb
theorem pd_mul {i j : Int} (hc : CMulW i j) (ha : PD X δ ω a (.int i)) (hb : PD X δ ω b (.int j)) : PD X δ ω (.BinOp a .Mult b pos) (.int (i * j)) := pd_op op_mulW (rd_I hc) ha hb
theorem pd_mulS {i j : Int} (hc : CMul i j) (ha : PD X δ ω a (.int i)) (hb : PD X δ ω b (.int j)) : PD X δ ω (.BinOp a .Mult b pos) (.int (i * j)) := pd_op op_mul (rd_I hc) ha hb
theorem pd_mod {i j : Int} (hc : 0 < j) (ha : PD X δ ω a (.int i)) (hb : PD X δ ω b (.int j)) : PD X δ ω (.BinOp a .Mod b pos) (.int (i % j)) := pd_op op_mod (rd_I (C := fun _ j => 0 < j) hc) ha hb
theorem pd_fdiv {i j : Int} (hc : CDivW i j) (ha : PD X δ ω a (.int i)) (hb : PD X δ ω b (.int j)) : PD X δ ω (.BinOp a .FloorDiv b pos) (.int (i / j)) := pd_op op_fdivW (rd_I hc) ha hb
theorem pd_pow {i j : Int} (hc : CPow i j) (ha : PD X δ ω a (.int i)) (hb : PD X δ ω b (.int j)) : PD X δ ω (.BinOp a .Pow b pos) (.int (i ^ j.toNat)) := pd_op op_pow (rd_I hc) ha hb
theorem pd_lt {i j : Int} (ha : PD X δ ω a (.int i)) (hb : PD X δ ω b (.int j)) : PD X δ ω (.Compare a [.Lt] [b] pos) (.bool (decide (i < j))) := pd_cmp op_lt rd_B0 ha hb (nomark _)
theorem pd_le {i j : Int} (ha : PD X δ ω a (.int i)) (hb : PD X δ ω b (.int j)) : PD X δ ω (.Compare a [.LtE] [b] pos) (.bool (decide (i ≤ j))) := pd_cmp op_le rd_B0 ha hb (nomark _)
theorem pd_gt {i j : Int} (ha : PD X δ ω a (.int i)) (hb : PD X δ ω b (.int j)) : PD X δ ω (.Compare a [.Gt] [b] pos) (.bool (decide (j < i))) := pd_cmp op_gt rd_B0 ha hb (nomark _)
theorem pd_ge {i j : Int} (ha : PD X δ ω a (.int i)) (hb : PD X δ ω b (.int j)) : PD X δ ω (.Compare a [.GtE] [b] pos) (.bool (decide (j ≤ i))) := pd_cmp op_ge rd_B0 ha hb (nomark _)
theorem rd_eqI {K : PySem.W.Frag} {i j : Int} : RD K rEq (.int i) (.int j) (.bool (decide (i = j))) := fun ps x y H _ hx hy Q k => by
  cases hx
  cases hy
  refine ⟨rfl, ?_⟩
  have e : decide (V.int i = V.int j) = decide (i = j) := by
    by_cases c : i = j
    · subst c
      simp
    · rw [decide_eq_false c, decide_eq_false (fun z => c (V.int.inj z))]
  rw [e]
  exact k _ H (Same.refl H) (.bl _)
theorem rd_neI {K : PySem.W.Frag} {i j : Int} : RD K rNe (.int i) (.int j) (.bool (!decide (i = j))) := fun ps x y H _ hx hy Q k => by
  cases hx
  cases hy
  refine ⟨rfl, ?_⟩
  have e : decide (V.int i = V.int j) = decide (i = j) := by
    by_cases c : i = j
    · subst c
      simp
    · rw [decide_eq_false c, decide_eq_false (fun z => c (V.int.inj z))]
  rw [e]
  exact k _ H (Same.refl H) (.bl _)
theorem pd_eqI {i j : Int} (ha : PD X δ ω a (.int i)) (hb : PD X δ ω b (.int j)) : PD X δ ω (.Compare a [.Eq] [b] pos) (.bool (decide (i = j))) := pd_cmp op_eq rd_eqI ha hb (nomark _)
theorem pd_neI {i j : Int} (ha : PD X δ ω a (.int i)) (hb : PD X δ ω b (.int j)) : PD X δ ω (.Compare a [.NotEq] [b] pos) (.bool (!decide (i = j))) := pd_cmp op_ne rd_neI ha hb (nomark _)
theorem rd_eqD {K : PySem.W.Frag} (h1 : SeqAt.shaped da = true) (h2 : SeqAt.shaped db = true) : RD K (rEqD K) da db (.bool (PyData.eqv da db)) := fun ps x y H _ hx hy Q k =>
  ⟨da, db, dpm hid_sub hx, dpm hid_sub hy, h1, h2, k _ H (Same.refl H) (.bl _)⟩
theorem rd_neD {K : PySem.W.Frag} (h1 : SeqAt.shaped da = true) (h2 : SeqAt.shaped db = true) : RD K (rNeD K) da db (.bool (!PyData.eqv da db)) := fun ps x y H _ hx hy Q k =>
  ⟨da, db, dpm hid_sub hx, dpm hid_sub hy, h1, h2, k _ H (Same.refl H) (.bl _)⟩
theorem pd_eqD (hu : X.A.units + 64 < cLine) (h1 : SeqAt.shaped da = true) (h2 : SeqAt.shaped db = true) (ha : PD X δ ω a da) (hb : PD X δ ω b db) : PD X δ ω (.Compare a [.Eq] [b] pos) (.bool (PyData.eqv da db)) := pd_cmp (op_eqD hu) (rd_eqD h1 h2) ha hb (nomark _)
theorem pd_neD (hu : X.A.units + 64 < cLine) (h1 : SeqAt.shaped da = true) (h2 : SeqAt.shaped db = true) (ha : PD X δ ω a da) (hb : PD X δ ω b db) : PD X δ ω (.Compare a [.NotEq] [b] pos) (.bool (!PyData.eqv da db)) := pd_cmp (op_neD hu) (rd_neD h1 h2) ha hb (nomark _)

/-! ### displays, subscripts, len -/
theorem pd_tup {x1} (h : PDs X δ ω es ds) (hz : ds.length ≤ 1000 := by first | decide | (simp only [List.length_cons, List.length_nil]; omega)) : PD X δ ω (.Tuple es x1 pos) (.tuple ds) := fun σ H r Q k =>
  we (pe_tup pa_w) (h σ H r _ fun vs H1 s1 d1 => ⟨Nat.le_of_lt (small1000 (by rw [dpa_len d1]; exact hz)), fun p hp => k _ _ (s1.trans (same_new hp))
    (.tup (SqT.of (hid_of (new_out (there_mono r.ro.there s1) hp) upd_same)) (dpam (hid_same (same_new hp)) d1))⟩)
theorem pn_lst (h : PDs X δ ω es ds) (hz : ds.length ≤ 1000 := by first | decide | (simp only [List.length_cons, List.length_nil]; omega)) : PN X δ ω (.List es pos) ds := fun σ H r Q k =>
  we (pe_lst pa_w) (h σ H r _ fun vs H1 s1 d1 => ⟨Nat.le_of_lt (small1000 (by rw [dpa_len d1]; exact hz)), fun p hp => k p vs _ (s1.trans (same_new hp)) (s1.free hp) upd_same (dpam (hid_new hp (same_new hp)) d1)⟩)
theorem atI_dp {K : PySem.W.Frag} {H : Hp} {ds : List PyData} {vs : List V} {i : Int} (h : DpAll K H vs ds) (ha : atI ds i = some d) : ∃ v, atI vs i = some v ∧ Dp K H v d := by
  unfold atI at ha ⊢
  rw [dpa_len h]
  cases e : ixN ds.length i with
  | none =>
    rw [e] at ha
    cases ha
  | some j =>
    rw [e] at ha
    exact dpa_get h ha
theorem atI0 {α : Type} {x : α} {xs : List α} : atI (x :: xs) 0 = some x := atI_nat (j := 0) rfl
theorem atI1 {α : Type} {x y : α} {xs : List α} : atI (x :: y :: xs) 1 = some y := atI_nat (j := 1) rfl
theorem pd_ixT {i : Int} (ha : PD X δ ω a (.tuple ds)) (hb : PD X δ ω b (.int i)) (hi : atI ds i = some d) (hs : PlainIx b := by exact fun _ _ => rfl) : PD X δ ω (.Subscript a b pos) d := fun σ H rl Q k =>
  we (pe_ix ix_tup pe_w pe_w hs) (ha σ H rl _ fun x H1 s1 d1 => hb σ H1 (rl.mono s1) _ fun y H2 s2 d2 => by
    cases d2
    cases d1 with
    | tup hs ha =>
      obtain ⟨v, h1, h2⟩ := atI_dp ha hi
      exact ⟨_, _, _, v, rfl, rfl, same_sqt s2 (same_sqt hid_sub hs), h1, k v H2 (s1.trans s2) (dpm (hid_same s2) h2)⟩)
theorem pd_ixL {i : Int} (ha : PL X δ ω a ds) (hb : PD X δ ω b (.int i)) (hi : atI ds i = some d) (hs : PlainIx b := by exact fun _ _ => rfl) : PD X δ ω (.Subscript a b pos) d := fun σ H rl Q k =>
  we (pe_ix ix_list pe_w pe_w hs) (ha σ H rl _ fun p vs H1 s1 h1 d1 => hb σ H1 (rl.mono s1) _ fun y H2 s2 d2 => by
    cases d2
    obtain ⟨v, h3, h4⟩ := atI_dp d1 hi
    exact ⟨_, _, _, v, rfl, rfl, s2.seq h1, h3, k v H2 (s1.trans s2) (dpm (hid_same s2) h4)⟩)
theorem pd_lenT {p : Pos} (hm : X.mg "len" = none) (ha : PD X δ ω a (.tuple ds)) (hg : Gl X "len" := by rfl) (hs : starEach [a] X.env = (false, eval a X.env) :: starEach [] X.env := by rfl) : PD X δ ω (.Call (.Name "len" p) [a] [] pos) (.int ds.length) := fun σ H rl Q k =>
  we (pe_callB call_len_seq hg hm PySem.boot_len (pa_cons pe_w pa_nil hs) (he := hs)) (ha σ H rl _ fun x H1 s1 d1 => by
    cases d1 with
    | tup h1 h2 =>
      refine ⟨_, _, rfl, .inr (same_sqt hid_sub h1), ?_⟩
      rw [dpa_len h2]
      exact k _ H1 s1 (.int _))
theorem pd_lenL {p : Pos} (hm : X.mg "len" = none) (ha : PL X δ ω a ds) (hg : Gl X "len" := by rfl) (hs : starEach [a] X.env = (false, eval a X.env) :: starEach [] X.env := by rfl) : PD X δ ω (.Call (.Name "len" p) [a] [] pos) (.int ds.length) := fun σ H rl Q k =>
  we (pe_callB call_len_seq hg hm PySem.boot_len (pa_cons pe_w pa_nil hs) (he := hs)) (ha σ H rl _ fun x vs H1 s1 h1 d1 => by
    refine ⟨_, _, rfl, .inl h1, ?_⟩
    rw [dpa_len d1]
    exact k _ H1 s1 (.int _))
theorem pd_lenS {p : Pos} {z : Str} (hm : X.mg "len" = none) (ha : PD X δ ω a (.str z)) (hz : z.length ≤ 100000) (hg : Gl X "len" := by rfl) (hs : starEach [a] X.env = (false, eval a X.env) :: starEach [] X.env := by rfl) : PD X δ ω (.Call (.Name "len" p) [a] [] pos) (.int z.length) := fun σ H rl Q k =>
  we (pe_callB call_len hg hm PySem.boot_len (pa_cons pe_w pa_nil hs) (he := hs)) (ha σ H rl _ fun x H1 s1 d1 => by
    cases d1
    exact ⟨_, _, rfl, ⟨Nat.le_trans hz (by decide), rfl⟩, k _ H1 s1 (.int _)⟩)

/-! ### truth, and, or, not -/
theorem pt_of (h : PD X δ ω e (.bool true)) (he : ∀ whole, isTrue e X.env whole = (do let v ← whole; standAt e.pos; holding [v] (truthy v)) := by intro _; rfl) : PTd X δ ω e true := fun σ H r Q k =>
  wt (pt_val pe_w he) (h σ H r _ fun v H1 s1 d1 => by
    cases d1
    exact ⟨_, rfl, k H1 s1⟩)
theorem pt_bool {k : Bool} (h : PD X δ ω e (.bool k)) (he : ∀ whole, isTrue e X.env whole = (do let v ← whole; standAt e.pos; holding [v] (truthy v)) := by intro _; rfl) : PTd X δ ω e k := fun σ H r Q q =>
  wt (pt_val pe_w he) (h σ H r _ fun v H1 s1 d1 => by
    cases d1
    exact ⟨_, rfl, q H1 s1⟩)
theorem pt_cmpd {op : CmpOp} {r : R2} {k : Bool} (ho : OpR X (compareOp op) r) (hr : RD X.K r da db (.bool k)) (ha : PD X δ ω a da) (hb : PD X δ ω b db) (hm : behindInMarks op b = false) : PTd X δ ω (.Compare a [op] [b] pos) k := fun σ H rl Q q =>
  wt (pt_cmpR ho pe_w pe_w hm) (ha σ H rl _ fun x H1 s1 d1 => hb σ H1 (rl.mono s1) _ fun y H2 s2 d2 =>
    hr _ x y H2 (there_mono rl.ro.there (s1.trans s2)) (dpm (hid_same s2) d1) d2 _ fun z H3 s3 d3 => by
      cases d3
      exact ⟨_, rfl, q H3 ((s1.trans s2).trans s3)⟩)
theorem pt_notd {k : Bool} (h : PTd X δ ω e k) : PTd X δ ω (.UnaryOp .Not e pos) (!k) := fun σ H r Q q => wt (pt_not pt_w) (h σ H r _ fun H1 s1 => q H1 s1)
theorem pt_truT {k : Bool} (h : PD X δ ω e (.tuple ds)) (hk : k = !ds.isEmpty) (he : ∀ whole, isTrue e X.env whole = (do let v ← whole; standAt e.pos; holding [v] (truthy v)) := by intro _; rfl) : PTd X δ ω e k := fun σ H r Q q =>
  wt (pt_truth pe_w he) (h σ H r _ fun v H1 s1 d1 => by
    cases d1 with
    | tup h1 h2 =>
      refine ⟨k, ?_, q H1 s1⟩
      refine .inr (.inl ⟨_, same_sqt hid_sub h1, ?_⟩)
      rw [hk]
      cases h2 <;> rfl)
end
end FP

namespace FP
open PySem PySem.Spec PyProof.Rows L2
/-! ### and, or, not -/
@[irreducible] def wpw (X : Cx) (e : Expr) : TT := fun σ H Q => ∀ (whole : Sem Value) pins s, Inv X pins σ H s → wpAny (model X.prog X.w) X.A (isTrue e X.env whole) (TP X pins σ Q) X.xe s
theorem pw_w {X : Cx} {e : Expr} : PW X e (wpw X e) := ⟨fun whole pins s σ H Q I h => by unfold wpw at h; exact h whole pins s I⟩
theorem ww {X : Cx} {e : Expr} {t : TT} {σ : L2.St} {H : Hp} {Q : Bool → Hp → Prop} (h : PW X e t) (q : t σ H Q) : wpw X e σ H Q := by unfold wpw; exact fun whole pins s I => h.run whole pins s σ H Q I q
def PWd (X : Cx) (δ : De) (ω : Om) (e : Expr) (b : Bool) : Prop :=
  ∀ σ H, Rl X.K H σ δ ω → ∀ Q : Bool → Hp → Prop, (∀ H', Same H H' → Q b H') → wpw X e σ H Q
section
variable {X : Cx} {δ : De} {ω : Om} {a b c e : Expr} {es r : List Expr} {d da db dc dz : PyData} {ds : List PyData} {pos : Pos} {k x y : Bool}
theorem PWd.pt (h : PWd X δ ω e k) : PTd X δ ω e k := fun σ H rl Q q => wt (PW.pt pw_w) (h σ H rl Q q)
theorem pw_and1d (h : PTd X δ ω a k) : PWd X δ ω (.BoolOp .And [a] pos) k := fun σ H rl Q q => ww (pw_and1 pt_w) (h σ H rl Q q)
theorem pw_or1d (h : PTd X δ ω a k) : PWd X δ ω (.BoolOp .Or [a] pos) k := fun σ H rl Q q => ww (pw_or1 pt_w) (h σ H rl Q q)
theorem pw_andd (h : PTd X δ ω a x) (h2 : x = true → PWd X δ ω (.BoolOp .And (b :: r) pos) y) : PWd X δ ω (.BoolOp .And (a :: b :: r) pos) (x && y) := fun σ H rl Q q =>
  ww (pw_and pt_w pw_w) (h σ H rl _ fun H1 s1 => by
    cases x with
    | true => exact iteT (h2 rfl σ H1 (rl.mono s1) Q fun H2 s2 => q H2 (s1.trans s2))
    | false => exact iteF (q H1 s1))
theorem pw_ord (h : PTd X δ ω a x) (h2 : x = false → PWd X δ ω (.BoolOp .Or (b :: r) pos) y) : PWd X δ ω (.BoolOp .Or (a :: b :: r) pos) (x || y) := fun σ H rl Q q =>
  ww (pw_or pt_w pw_w) (h σ H rl _ fun H1 s1 => by
    cases x with
    | true => exact iteT (q H1 s1)
    | false => exact iteF (h2 rfl σ H1 (rl.mono s1) Q fun H2 s2 => q H2 (s1.trans s2)))
theorem pw_orT (h : PTd X δ ω a true) : PWd X δ ω (.BoolOp .Or (a :: b :: r) pos) true := fun σ H rl Q q => ww (pw_or pt_w pw_w) (h σ H rl _ fun H1 s1 => iteT (q H1 s1))
theorem pw_andF (h : PTd X δ ω a false) : PWd X δ ω (.BoolOp .And (a :: b :: r) pos) false := fun σ H rl Q q => ww (pw_and pt_w pw_w) (h σ H rl _ fun H1 s1 => iteF (q H1 s1))
theorem pd_one {op : PySem.BoolOp} (h : PD X δ ω a d) : PD X δ ω (.BoolOp op [a] pos) d := fun σ H rl Q q => we (pe_one pe_w) (h σ H rl Q q)
theorem pd_and (h : PD X δ ω a (.bool x)) (h2 : x = true → PD X δ ω (.BoolOp .And (b :: r) pos) (.bool y)) : PD X δ ω (.BoolOp .And (a :: b :: r) pos) (.bool (x && y)) := fun σ H rl Q q =>
  we (pe_and pe_w pe_w) (h σ H rl _ fun v H1 s1 d1 => by
    cases d1
    refine ⟨x, rfl, ?_⟩
    cases x with
    | true => exact iteT (h2 rfl σ H1 (rl.mono s1) Q fun v H2 s2 => q v H2 (s1.trans s2))
    | false => exact iteF (q _ H1 s1 (.bl _)))
theorem pd_andF (h : PD X δ ω a (.bool false)) : PD X δ ω (.BoolOp .And (a :: b :: r) pos) (.bool false) := fun σ H rl Q q =>
  we (pe_and pe_w pe_w) (h σ H rl _ fun v H1 s1 d1 => by
    cases d1
    exact ⟨false, rfl, iteF (q _ H1 s1 (.bl _))⟩)
theorem pd_or (h : PD X δ ω a (.bool x)) (h2 : x = false → PD X δ ω (.BoolOp .Or (b :: r) pos) (.bool y)) : PD X δ ω (.BoolOp .Or (a :: b :: r) pos) (.bool (x || y)) := fun σ H rl Q q =>
  we (pe_or pe_w pe_w) (h σ H rl _ fun v H1 s1 d1 => by
    cases d1
    refine ⟨x, rfl, ?_⟩
    cases x with
    | true => exact iteT (q _ H1 s1 (.bl _))
    | false => exact iteF (h2 rfl σ H1 (rl.mono s1) Q fun v H2 s2 => q v H2 (s1.trans s2)))
theorem pd_not (h : PD X δ ω a (.bool x)) : PD X δ ω (.UnaryOp .Not a pos) (.bool (!x)) := fun σ H rl Q q =>
  we (pe_not pe_w) (h σ H rl _ fun v H1 s1 d1 => by
    cases d1
    exact ⟨x, rfl, q _ H1 s1 (.bl _)⟩)
theorem pd_if (h : PTd X δ ω c k) (h1 : k = true → PD X δ ω a d) (h2 : k = false → PD X δ ω b d) : PD X δ ω (.IfExp c a b pos) d := fun σ H rl Q q =>
  we (pe_ifExp pt_w pe_w pe_w) (h σ H rl _ fun H1 s1 => by
    cases k with
    | true => exact iteT (h1 rfl σ H1 (rl.mono s1) Q fun v H2 s2 => q v H2 (s1.trans s2))
    | false => exact iteF (h2 rfl σ H1 (rl.mono s1) Q fun v H2 s2 => q v H2 (s1.trans s2)))
/-- a < b < c -/
theorem pd_chain {op op' : CmpOp} {r r' : R2} (ho : OpR X (compareOp op) r) (ho' : OpR X (compareOp op') r') (hr : RD X.K r da db (.bool x)) (hr' : x = true → RD X.K r' db dc (.bool y)) (ha : PD X δ ω a da) (hb : PD X δ ω b db) (hc : x = true → PD X δ ω c dc)
    (h1 : lastMarks [op, op'] [b, c] = false := by with_unfolding_all rfl) : PD X δ ω (.Compare a [op, op'] [b, c] pos) (.bool (x && y)) := fun σ H rl Q q =>
  we (pe_chain ho ho' pe_w pe_w pe_w h1) (ha σ H rl _ fun u H1 s1 d1 => hb σ H1 (rl.mono s1) _ fun v H2 s2 d2 =>
    hr _ u v H2 (there_mono rl.ro.there (s1.trans s2)) (dpm (hid_same s2) d1) d2 _ fun z H3 s3 d3 => by
      cases d3
      refine ⟨x, rfl, ?_⟩
      cases x with
      | true => exact iteT (hc rfl σ H3 (rl.mono ((s1.trans s2).trans s3)) _ fun t H4 s4 d4 => hr' rfl _ v t H4 (there_mono rl.ro.there (((s1.trans s2).trans s3).trans s4)) (dpm (hid_same (s3.trans s4)) d2) d4 Q fun z H5 s5 d5 => q z H5 ((((s1.trans s2).trans s3).trans s4).trans s5) d5)
      | false => exact iteF (q _ H3 ((s1.trans s2).trans s3) (.bl _)))

/-! ### built-in functions by values -/
def RC (K : PySem.W.Frag) (r : List V → Hp → VK → Prop) (ds : List PyData) (dz : PyData) : Prop :=
  ∀ (ps : List Addr) (vs : List V) (H : Hp), (∀ a ∈ ps, H a ≠ none) → DpAll K (hid ps H) vs ds → ∀ Q : VK, (∀ z H', Same H H' → Dp K (hid ps H') z dz → Q z H') → r vs H Q
theorem pd_callB {id : String} {r : List V → Hp → VK → Prop} {x : Str} {p : Pos} (hc : CallR X (.builtin id) r) (hr : RC X.K r ds dz) (hm : X.mg x = none) (hv : bootBuiltins x = some (.builtin id)) (ha : PDs X δ ω (a :: es) ds) (hg : Gl X x := by rfl)
    (hn : x ≠ "__name__" := by decide) (hdb : (x == ("__debug__" : Str)) = false := by decide) (he : starEach (a :: es) X.env = (false, eval a X.env) :: starEach es X.env := by rfl) (hpl : (backTo pos (starEach es X.env)).any (·.1) = false := by rfl) :
    PD X δ ω (.Call (.Name x p) (a :: es) [] pos) dz := fun σ H rl Q k =>
  we (pe_callB hc hg hm hv pa_w hn hdb he hpl) (ha σ H rl _ fun vs H1 s1 d1 => hr _ vs H1 (there_mono rl.ro.there s1) d1 Q fun z H2 s2 d2 => k z H2 (s1.trans s2) d2)
theorem pd_callTy {T : String} {r : List V → Hp → VK → Prop} {x : Str} {p : Pos} (hc : CallR X (.type T) r) (hr : RC X.K r ds dz) (hm : X.mg x = none) (hv : bootBuiltins x = some (.type T)) (ha : PDs X δ ω (a :: es) ds) (hg : Gl X x := by rfl)
    (hn : x ≠ "__name__" := by decide) (hdb : (x == ("__debug__" : Str)) = false := by decide) (he : starEach (a :: es) X.env = (false, eval a X.env) :: starEach es X.env := by rfl) (hpl : (backTo pos (starEach es X.env)).any (·.1) = false := by rfl) :
    PD X δ ω (.Call (.Name x p) (a :: es) [] pos) dz := fun σ H rl Q k =>
  we (pe_callTy hc hg hm hv pa_w hn hdb he hpl) (ha σ H rl _ fun vs H1 s1 d1 => hr _ vs H1 (there_mono rl.ro.there s1) d1 Q fun z H2 s2 d2 => k z H2 (s1.trans s2) d2)
theorem pd_min {p : Pos} {i j : Int} (hc : X.calm = true) (hm : X.mg "min" = none) (ha : PD X δ ω a (.int i)) (hb : PD X δ ω b (.int j)) (hg : Gl X "min" := by rfl)
    (he : starEach [a, b] X.env = (false, eval a X.env) :: starEach [b] X.env := by rfl) (hb2 : starEach [b] X.env = (false, eval b X.env) :: starEach [] X.env := by rfl) (hpl : (backTo pos (starEach [b] X.env)).any (·.1) = false := by rfl) :
    PD X δ ω (.Call (.Name "min" p) [a, b] [] pos) (.int (if j < i then j else i)) :=
  pd_callB (call_min2 hc) (fun ps vs H _ h Q k => by
    cases h with
    | cons h1 h2 =>
      cases h2 with
      | cons h3 h4 =>
        cases h4
        cases h1
        cases h3
        exact ⟨i, j, rfl, k _ H (Same.refl H) (.int _)⟩) hm (by decide +kernel) (pds_cons ha (pds_cons hb pds_nil hb2) he) hg (by decide) (by decide) he hpl
theorem pd_max {p : Pos} {i j : Int} (hc : X.calm = true) (hm : X.mg "max" = none) (ha : PD X δ ω a (.int i)) (hb : PD X δ ω b (.int j)) (hg : Gl X "max" := by rfl)
    (he : starEach [a, b] X.env = (false, eval a X.env) :: starEach [b] X.env := by rfl) (hb2 : starEach [b] X.env = (false, eval b X.env) :: starEach [] X.env := by rfl) (hpl : (backTo pos (starEach [b] X.env)).any (·.1) = false := by rfl) :
    PD X δ ω (.Call (.Name "max" p) [a, b] [] pos) (.int (if j > i then j else i)) :=
  pd_callB (call_max2 hc) (fun ps vs H _ h Q k => by
    cases h with
    | cons h1 h2 =>
      cases h2 with
      | cons h3 h4 =>
        cases h4
        cases h1
        cases h3
        exact ⟨i, j, rfl, k _ H (Same.refl H) (.int _)⟩) hm (by decide +kernel) (pds_cons ha (pds_cons hb pds_nil hb2) he) hg (by decide) (by decide) he hpl
theorem pd_ord {p : Pos} {z : Str} {i : Nat} (hm : X.mg "ord" = none) (ha : PD X δ ω a (.str z)) (hz : z.length = 1) (hi : z.cps.getD 0 0 = i) (hg : Gl X "ord" := by rfl)
    (he : starEach [a] X.env = (false, eval a X.env) :: starEach [] X.env := by rfl) : PD X δ ω (.Call (.Name "ord" p) [a] [] pos) (.int (i : Nat)) :=
  pd_callB call_ord (fun ps vs H _ h Q k => by
    cases h with
    | cons h1 h2 =>
      cases h2
      cases h1
      refine ⟨z, rfl, hz, ?_⟩
      rw [hi]
      exact k _ H (Same.refl H) (.int _)) hm (by decide +kernel) (pds_cons ha pds_nil he) hg (by decide) (by decide) he (by rfl)
theorem dpa_bl {K : PySem.W.Frag} {H : Hp} : ∀ {bs : List Bool} {vs : List V}, DpAll K H vs (bs.map .bool) → vs = bs.map V.bl
  | [], _, h => by
    cases h
    rfl
  | b :: bs, _, h => by
    cases h with
    | cons x y =>
      cases x
      rw [List.map_cons, dpa_bl y]
/-- all of a list of truths -/
theorem pd_all {p : Pos} {bs : List Bool} (hc : X.calm = true) (hm : X.mg "all" = none) (ha : PL X δ ω a (bs.map .bool)) (hg : Gl X "all" := by rfl)
    (he : starEach [a] X.env = (false, eval a X.env) :: starEach [] X.env := by rfl) : PD X δ ω (.Call (.Name "all" p) [a] [] pos) (.bool (bs.all id)) := fun σ H rl Q k =>
  we (pe_callB (cr_all hc) hg hm (by decide +kernel) (pa_cons pe_w pa_nil he) (he := he)) (ha σ H rl _ fun q vs H1 s1 h1 d1 => by
    have ev : vs = bs.map V.bl := dpa_bl d1
    subst ev
    exact ⟨q, bs, rfl, h1, k _ H1 s1 (.bl _)⟩)
/-- tuple of a list -/
theorem pd_tupleL {p : Pos} (hm : X.mg "tuple" = none) (ha : PL X δ ω a ds) (hg : Gl X "tuple" := by rfl) (he : starEach [a] X.env = (false, eval a X.env) :: starEach [] X.env := by rfl) : PD X δ ω (.Call (.Name "tuple" p) [a] [] pos) (.tuple ds) := fun σ H rl Q k =>
  we (pe_callTy call_tuple_of hg hm (by decide +kernel) (pa_cons pe_w pa_nil he) (he := he)) (ha σ H rl _ fun q vs H1 s1 h1 d1 =>
    ⟨q, vs, rfl, .inl ⟨h1, fun l hl => k _ _ (s1.trans (same_new hl)) (.tup (SqT.of (hid_of (new_out (there_mono rl.ro.there s1) hl) upd_same)) (dpam (hid_same (same_new hl)) d1))⟩⟩)
/-- isinstance of a built-in class -/
def kindD : PyData → String
  | .none => "NoneType"
  | .bool _ => "bool"
  | .int _ => "int"
  | .str _ => "str"
  | .list _ => "list"
  | .tuple _ => "tuple"
  | .dict _ => "dict"
theorem tyx_of {K : PySem.W.Frag} {H : Hp} {v : V} (h : Dp K H v d) : TyX K H v (.type (kindD d)) := by
  cases h with
  | non => exact .base .non
  | bl b => exact .base (.bl b)
  | int i => exact .base (.int i)
  | str x => exact .base (.str x)
  | lst h _ =>
    rcases h with (h | ⟨o, h⟩) | ⟨o, its, n, h, c, _⟩
    · exact .base (.lst h)
    · exact .base (.frz h)
    · exact .kList h c
  | tup h _ =>
    rcases h with (h | ⟨o, h⟩) | ⟨o, its, n, h, c, _⟩
    · exact .base (.tup h)
    · exact .fTuple h
    · exact .kTuple h c
theorem pd_isi {p p2 : Pos} {t : String} {x : Str} (hm : X.mg "isinstance" = none) (hmx : X.mg x = none) (hbx : bootBuiltins x = some (.type t)) (ha : PD X δ ω a d) (hk : kitB (kindD d) t = some k) (hg : Gl X "isinstance" := by rfl) (hgx : Gl X x := by rfl)
    (hnx : x ≠ "__name__" := by decide) (hdx : (x == ("__debug__" : Str)) = false := by decide)
    (he : starEach [a, .Name x p2] X.env = (false, eval a X.env) :: starEach [.Name x p2] X.env := by rfl) (he2 : starEach [.Name x p2] X.env = (false, eval (.Name x p2) X.env) :: starEach [] X.env := by rfl) (hpl : (backTo pos (starEach [.Name x p2] X.env)).any (·.1) = false := by rfl) :
    PD X δ ω (.Call (.Name "isinstance" p) [a, .Name x p2] [] pos) (.bool k) := fun σ H rl Q q =>
  we (pe_callB call_isi hg hm (by decide +kernel) (pa_cons pe_w (pa_cons (pe_bltn (v := .ty t) hgx hmx hbx rfl hnx hdx) pa_nil he2) he) (he := he) (hpl := hpl)) (ha σ H rl _ fun v H1 s1 d1 =>
    ⟨v, .ty t, _, _, k, rfl, .ty t, tyx_of (dpm hid_sub d1), kit_ty hk, q _ H1 s1 (.bl _)⟩)
end
end FP

namespace FP
open PySem PySem.Spec PyProof.Rows L2
/-! ### defs by data -/
inductive Rs where
  | ok (d : PyData)
  | er (C : Addr)
def RsQ (K : PySem.W.Frag) (ps : List Addr) (H : Hp) (Q : VK) (E : XK) : Rs → Prop
  | .ok d => ∀ v H', Same H H' → Dp K (hid ps H') v d → Q v H'
  | .er C => ∀ H', Same H H' → E (.ref C) none H'
def spD (K : PySem.W.Frag) (fr : List PyData → Rs → Prop) : Sp := fun vs H Q E => ∃ ps ds r, (∀ a ∈ ps, H a ≠ none) ∧ DpAll K (hid ps H) vs ds ∧ fr ds r ∧ RsQ K ps H Q E r
structure DefOk (P : Program) (w : World) (K : PySem.W.Frag) (mg : Str → Option Value) (base : Heap) (k : Nat) (x : Str) (fr : List PyData → Rs → Prop) : Prop where
  ex : ∃ f fd ps, FnOk P w K mg base (L2N.CX P w) k f fd ps (spD K fr) ∧ mg x = some (.ref f) ∧ PySem.W.keepIn K (.ref f) = true ∧ L2.Binds K fd ps []
theorem DefOk.mono {P : Program} {w : World} {K : PySem.W.Frag} {mg : Str → Option Value} {base : Heap} {j k : Nat} {x : Str} {fr : List PyData → Rs → Prop} (G : DefOk P w K mg base j x fr) (h : j ≤ k) : DefOk P w K mg base k x fr := by
  obtain ⟨f, fd, ps, F, m, kp, b⟩ := G.ex
  exact ⟨f, fd, ps, F.mono h, m, kp, b⟩
theorem passN {X : Cx} : Passes (L2N.CX X.prog X.w) X E0 := fun _ _ _ _ _ _ _ h => by
  obtain ⟨_, _, _, _, _, _, _, _, _, _, _, _, z⟩ := h
  cases z
section
variable {X : Cx} {δ : De} {ω : Om} {a b c e : Expr} {es r : List Expr} {d da db dc dz : PyData} {ds : List PyData} {pos p : Pos} {k : Nat} {x : Str} {fr : List PyData → Rs → Prop}
theorem pd_call (G : DefOk X.prog X.w X.K X.mg X.base k x fr) (hr : Room k X.A) (ha : PDs X δ ω (a :: es) ds) (hf : fr ds (.ok d)) (hg : Gl X x := by rfl) (hdb : (x == ("__debug__" : Str)) = false := by decide)
    (he : starEach (a :: es) X.env = (false, eval a X.env) :: starEach es X.env := by rfl) (hpl : (backTo pos (starEach es X.env)).any (·.1) = false := by rfl) : PD X δ ω (.Call (.Name x p) (a :: es) [] pos) d := fun σ H rl Q q => by
  obtain ⟨f, fd, ps, F, m, kp, b⟩ := G.ex
  refine we (pe_call F hr hg m kp b .nil passN pa_w hdb he hpl) (ha σ H rl _ fun vs H1 s1 d1 => ?_)
  show spD X.K fr (vs ++ []) H1 Q E0
  rw [List.append_nil]
  exact ⟨ads ω, ds, .ok d, there_mono rl.ro.there s1, d1, hf, fun v H' s' d' => q v H' (s1.trans s') d'⟩
theorem pd_call0 (G : DefOk X.prog X.w X.K X.mg X.base k x fr) (hr : Room k X.A) (hf : fr [] (.ok d)) (hg : Gl X x := by rfl) (hdb : (x == ("__debug__" : Str)) = false := by decide) : PD X δ ω (.Call (.Name x p) [] [] pos) d := fun σ H rl Q q => by
  obtain ⟨f, fd, ps, F, m, kp, b⟩ := G.ex
  exact we (pe_call0 F hr hg m kp b .nil passN hdb) ⟨ads ω, [], .ok d, rl.ro.there, .nil, hf, fun v H' s' d' => q v H' s' d'⟩
end

/-! ### what is walked -/
/-- what stays in a loop -/
def Pt (T : List (Addr × Str)) (o : HO) : Prop := T = [] ∨ ∀ ps, o ≠ .tbl ps
def Ke (T : List (Addr × Str)) (G H : Hp) : Prop := ∀ b o, G b = some o → Pt T o → H b = some o
theorem ke_same {T : List (Addr × Str)} {G H : Hp} (h : Same G H) : Ke T G H := fun b o e _ => h b o e
theorem pt_tup {T : List (Addr × Str)} {xs : List V} : Pt T (.tup xs) := .inr fun _ z => by cases z
theorem pt_lst {T : List (Addr × Str)} {xs : List V} : Pt T (.lst xs) := .inr fun _ z => by cases z
theorem pt_frz {T : List (Addr × Str)} {o : Obj} {u : HO} : Pt T (.frz o u) := .inr fun _ z => by cases z
theorem ke_sqt {T : List (Addr × Str)} {K : PySem.W.Frag} {G H : Hp} {a : Addr} {xs : List V} (e : Ke T G H) (h : SqT K G a xs) : SqT K H a xs := by
  rcases h with (h | ⟨o, h⟩) | h
  · exact .inl (.inl (e _ _ h pt_tup))
  · exact .inl (.inr ⟨o, e _ _ h pt_frz⟩)
  · exact .inr h
theorem ke_sql {T : List (Addr × Str)} {K : PySem.W.Frag} {G H : Hp} {a : Addr} {xs : List V} (e : Ke T G H) (h : SqL K G a xs) : SqL K H a xs := by
  rcases h with (h | ⟨o, h⟩) | h
  · exact .inl (.inl (e _ _ h pt_lst))
  · exact .inl (.inr ⟨o, e _ _ h pt_frz⟩)
  · exact .inr h
mutual
theorem dp_ke {T : List (Addr × Str)} {K : PySem.W.Frag} {H H' : Hp} (e : Ke T H H') : ∀ (d : PyData) (v : V), Dp K H v d → Dp K H' v d
  | .none, _, h => by
    cases h
    exact .non
  | .bool b, _, h => by
    cases h
    exact .bl b
  | .int i, _, h => by
    cases h
    exact .int i
  | .str x, _, h => by
    cases h
    exact .str x
  | .list ds, _, h => by
    cases h with
    | lst hs ha => exact .lst (ke_sql e hs) (dpa_ke e ds _ ha)
  | .tuple ds, _, h => by
    cases h with
    | tup hs ha => exact .tup (ke_sqt e hs) (dpa_ke e ds _ ha)
  | .dict kvs, _, h => by cases h
theorem dpa_ke {T : List (Addr × Str)} {K : PySem.W.Frag} {H H' : Hp} (e : Ke T H H') : ∀ (ds : List PyData) (vs : List V), DpAll K H vs ds → DpAll K H' vs ds
  | [], _, h => by
    cases h
    exact .nil
  | d :: ds, _, h => by
    cases h with
    | cons a b => exact .cons (dp_ke e d _ a) (dpa_ke e ds _ b)
end
def Wk (K : PySem.W.Frag) (G : Hp → Prop) (B : Hp) (J : It) (items : List PyData) : Prop :=
  ∀ H', G H' → (∀ i, i < items.length → J.go i H') ∧ J.stop items.length H' ∧ ∀ i x H'', i < items.length → J.yld i H' x H'' → H'' = H' ∧ ∃ d, items[i]? = some d ∧ Dp K B x d
def PWs (X : Cx) (δ : De) (ω : Om) (tg iter : Expr) (items : List PyData) : Prop :=
  ∃ wi, PI X tg iter wi ∧ ∀ σ H, Rl X.K H σ δ ω → ∀ R : It → Hp → Prop, (∀ J H', Same H H' → Wk X.K (Same H') (hid (ads ω) H') J items → R J H') → wi σ H R
def PWk (X : Cx) (δ : De) (ω : Om) (tg iter : Expr) (items : List PyData) : Prop :=
  ∃ wi, PI X tg iter wi ∧ ∀ σ H, Rl X.K H σ δ ω → ∀ R : It → Hp → Prop, (∀ J H', Same H H' → (∀ T, Wk X.K (Ke T (hid (ads ω) H')) (hid (ads ω) H') J items) → R J H') → wi σ H R
section
variable {X : Cx} {δ : De} {ω : Om} {a b c e tg iter : Expr} {es r : List Expr} {d da db dc dz : PyData} {ds : List PyData} {pos p : Pos} {k : Nat} {x : Str}
theorem PWk.ws (h : PWk X δ ω tg iter ds) : PWs X δ ω tg iter ds := by
  obtain ⟨wi, h1, h2⟩ := h
  exact ⟨wi, h1, fun σ H rl R k => h2 σ H rl R fun J H' s w => k J H' s fun H2 s2 => w [] H2 (ke_same ((hid_same s2).trans hid_sub))⟩
theorem wk_tup (h : PD X δ ω iter (.tuple ds)) : PWk X δ ω tg iter ds := by
  refine ⟨iTup X.K (wpe X iter), pi_tup pe_w, fun σ H rl R k => h σ H rl _ fun v H1 s1 d1 => ?_⟩
  cases d1 with
  | tup h1 h2 =>
    rename_i q vs
    refine ⟨q, rfl, ⟨vs, same_sqt hid_sub h1⟩, k _ H1 s1 fun T H2 g => ⟨fun i hi => ?_, ⟨vs, ke_sqt g h1, Nat.le_of_eq (dpa_len h2)⟩, fun i y H3 _ z => ?_⟩⟩
    · obtain ⟨y, e1, _⟩ := dpa_get h2 (List.getElem?_eq_getElem hi)
      exact ⟨vs, y, ke_sqt g h1, e1⟩
    · obtain ⟨e1, e2⟩ := z
      exact ⟨e1, dpa_get' h2 (e2 vs (ke_sqt g h1))⟩
theorem wk_lst (h : PD X δ ω iter (.list ds)) : PWk X δ ω tg iter ds := by
  refine ⟨iList X.K (wpe X iter), pi_list pe_w, fun σ H rl R k => h σ H rl _ fun v H1 s1 d1 => ?_⟩
  cases d1 with
  | lst h1 h2 =>
    rename_i q vs
    refine ⟨q, rfl, ⟨vs, hid_sub.seq h1⟩, k _ H1 s1 fun T H2 g => ⟨fun i hi => ?_, ⟨vs, ke_sql g h1, Nat.le_of_eq (dpa_len h2)⟩, fun i y H3 _ z => ?_⟩⟩
    · obtain ⟨y, e1, _⟩ := dpa_get h2 (List.getElem?_eq_getElem hi)
      exact ⟨vs, y, ke_sql g h1, e1⟩
    · obtain ⟨e1, e2⟩ := z
      exact ⟨e1, dpa_get' h2 (e2 vs (ke_sql g h1))⟩
theorem ws_lst (h : PL X δ ω iter ds) : PWs X δ ω tg iter ds := by
  refine ⟨iList X.K (wpe X iter), pi_list pe_w, fun σ H rl R k => h σ H rl _ fun q vs H1 s1 h1 h2 => ?_⟩
  refine ⟨q, rfl, ⟨vs, h1⟩, k _ H1 s1 fun H2 g => ⟨fun i hi => ?_, ⟨vs, g.seq h1, Nat.le_of_eq (dpa_len h2)⟩, fun i y H3 _ z => ?_⟩⟩
  · obtain ⟨y, e1, _⟩ := dpa_get h2 (List.getElem?_eq_getElem hi)
    exact ⟨vs, y, g.seq h1, e1⟩
  · obtain ⟨e1, e2⟩ := z
    exact ⟨e1, dpa_get' h2 (e2 vs (g.seq h1))⟩
def signsD (z : Str) : List PyData := z.cps.toList.map fun c => .str ⟨#[c]⟩
theorem wk_str {z : Str} (h : PD X δ ω iter (.str z)) : PWk X δ ω tg iter (signsD z) := by
  refine ⟨iStr (wpe X iter), pi_str pe_w, fun σ H rl R k => h σ H rl _ fun v H1 s1 d1 => ?_⟩
  cases d1
  have hl : (signsD z).length = z.cps.size := by
    unfold signsD
    rw [List.length_map, Array.length_toList]
  refine ⟨z, rfl, k _ H1 s1 fun T H2 g => ⟨fun i hi => ?_, ?_, fun i y H3 hi w => ?_⟩⟩
  · show i < z.cps.size
    rw [← hl]
    exact hi
  · show z.cps.size ≤ (signsD z).length
    rw [hl]
    exact Nat.le_refl _
  · obtain ⟨e1, c, e2, e3⟩ := w
    subst e3
    refine ⟨e1, .str ⟨#[c]⟩, ?_, .str _⟩
    unfold signsD
    rw [List.getElem?_map, Array.getElem?_toList, e2]
    rfl
def rangeD (lo : Int) (n : Nat) : List PyData := (List.range n).map fun (i : Nat) => .int (lo + (i : Int))
theorem rangeD_len (lo : Int) (n : Nat) : (rangeD lo n).length = n := by
  unfold rangeD
  rw [List.length_map, List.length_range]
theorem rangeD_get {lo : Int} {n i : Nat} (h : i < n) : (rangeD lo n)[i]? = some (.int (lo + (i : Int))) := by
  unfold rangeD
  rw [List.getElem?_map, List.getElem?_range h]
  rfl
theorem wk_range1 {j : Int} (hm : X.mg "range" = none) (ha : PD X δ ω a (.int j)) (hj : 0 ≤ j ∧ j ≤ 100000) (hg : Gl X "range" := by rfl) (hs : starEach [a] X.env = [(false, eval a X.env)] := by rfl) (he : starEach [a] X.env = (false, eval a X.env) :: starEach [] X.env := by rfl) :
    PWk X δ ω tg (.Call (.Name "range" p) [a] [] pos) (rangeD 0 j.toNat) := by
  refine ⟨_, pi_range1 hg hm (pa_cons pe_w pa_nil he) hs, fun σ H rl R k => ha σ H rl _ fun v H1 s1 d1 => ?_⟩
  cases d1
  refine ⟨j, rfl, by omega, by omega, k _ H1 s1 fun T H2 g => ⟨fun i hi => ?_, ?_, fun i y H3 hi w => ?_⟩⟩
  · rw [rangeD_len] at hi
    exact hi
  · show j.toNat ≤ (rangeD 0 j.toNat).length
    rw [rangeD_len]
    exact Nat.le_refl _
  · obtain ⟨e1, e2⟩ := w
    subst e2
    rw [rangeD_len] at hi
    exact ⟨e1, _, rangeD_get hi, .int _⟩

/-! ### comprehensions -/
/-- the list under way, as an object of one's own -/
def omD (ω : Om) (D : Addr) (o : Od) : Om := ⟨ω.ps, (D, o) :: ω.os⟩
theorem ads_omD {ω : Om} {D : Addr} {o : Od} {b : Addr} : b ∈ ads (omD ω D o) ↔ b = D ∨ b ∈ ads ω := by
  show b ∈ ω.ps ++ D :: ω.os.map (·.1) ↔ b = D ∨ b ∈ ω.ps ++ ω.os.map (·.1)
  simp only [List.mem_append, List.mem_cons]
  constructor
  · rintro (h | h | h)
    · exact .inr (.inl h)
    · exact .inl h
    · exact .inr (.inr h)
  · rintro (h | h | h)
    · exact .inr (.inl h)
    · exact .inl h
    · exact .inr (.inr h)
theorem hid_omD {ω : Om} {D : Addr} {o : Od} {H : Hp} : Same (hid (ads (omD ω D o)) H) (hid (ads ω) H) := hid_more fun b h => ads_omD.mpr (.inr h)
/-- from a heap that has no D to one that has it: what was seen is seen -/
theorem hid_in {ω : Om} {D : Addr} {o : Od} {G H : Hp} (hD : G D = none) (e : Same G H) : Same (hid (ads ω) G) (hid (ads (omD ω D o)) H) := fun b u h => by
  obtain ⟨n, e2⟩ := hid_out h
  refine hid_of (fun z => ?_) (e b u e2)
  rcases ads_omD.mp z with q | q
  · rw [q, hD] at e2
    cases e2
  · exact n q
theorem Rl.omD {K : PySem.W.Frag} {G H : Hp} {σ : L2.St} {δ : De} {D : Addr} {xs : List PyData} {vs : List V} (rl : Rl K G σ δ ω) (hD : G D = none) (e : Same G H) (hv : H D = some (.lst vs)) (hx : DpAll K (hid (ads (omD ω D (.lst (xs.map .im)))) H) vs xs) :
    Rl K H σ δ (omD ω D (.lst (xs.map .im))) := by
  refine ⟨rl.len, fun i r h => ?_, ?_, ?_, there_mono rl.ro.th e⟩
  · obtain ⟨v, h1, h2⟩ := rl.sl i r h
    exact ⟨v, h1, sdv_mono (hid_in hD e) h2⟩
  · intro a o h
    rcases List.mem_cons.mp h with q | q
    · cases q
      exact ⟨vs, hv, im_dpa hx⟩
    · exact odv_mono (hid_in hD e) e (rl.ro.ob a o q)
  · show (D :: ω.os.map (·.1)).Nodup
    refine List.nodup_cons.mpr ⟨fun z => ?_, rl.ro.nd⟩
    exact rl.ro.there D (List.mem_append_right _ z) hD
/-- a write at D leaves what is seen beside it -/
theorem hid_upd {ω : Om} {D : Addr} {o o' : Od} {u : HO} {H : Hp} : Same (hid (ads (FP.omD ω D o)) H) (hid (ads (FP.omD ω D o')) (upd H D u)) := fun b x h => by
  obtain ⟨n, e⟩ := hid_out h
  have nb : b ≠ D := fun z => n (ads_omD.mpr (.inl z))
  refine hid_of (fun z => n ?_) (by rw [upd_ne nb]; exact e)
  rcases ads_omD.mp z with q | q
  · exact ads_omD.mpr (.inl q)
  · exact ads_omD.mpr (.inr q)
theorem same_upd_new {G H : Hp} {D : Addr} {u : HO} (hD : G D = none) (e : Same G H) : Same G (upd H D u) := fun b x h => by
  rw [upd_ne (ne_of_none h hD)]
  exact e b x h
/-- the comprehension's reading: no test -/
theorem lc_data {σ : L2.St} {H : Hp} {Q : VK} {wi : TI} {j : Nat} {te : TE} {items ys : List PyData} (rl : Rl X.K H σ δ ω)
    (hw : ∀ R : It → Hp → Prop, (∀ J H', Same H H' → Wk X.K (Same H') (hid (ads ω) H') J items → R J H') → wi σ H R) (hl : ys.length = items.length) (hz : items.length ≤ 10000)
    (he : ∀ (i : Nat) (d y : PyData), items[i]? = some d → ys[i]? = some y → ∀ D o σ' H', Rl X.K H' σ' (δ.set j (some (.im d))) (omD ω D o) → ∀ Q : VK, (∀ v H2, Same H' H2 → Dp X.K (hid (ads (omD ω D o)) H2) v y → Q v H2) → te σ' H' Q)
    (k : ∀ p vs H', Same H H' → H p = none → H' p = some (.lst vs) → DpAll X.K (hid (p :: ads ω) H') vs ys → Q (.ref p) H') :
    tLc wi (gName j) tYes te [j] σ H Q := by
  refine hw _ fun J H1 s1 w => fun D hD => ?_
  have rl1 := rl.mono s1
  refine ⟨fun i m H2 => m = items.length - i ∧ i ≤ items.length ∧ Same H1 H2 ∧ ∃ vs, H2 D = some (.lst vs) ∧ DpAll X.K (hid (ads (FP.omD ω D (.lst ((ys.take i).map .im)))) H2) vs (ys.take i), ⟨items.length, by omega, Nat.zero_le _, same_new hD, [], upd_same, ?_⟩, ?_⟩
  · rw [List.take_zero]
    exact .nil
  rintro i m H2 ⟨em, hi, s2, vs, hv, dv⟩
  obtain ⟨go, stop, yld⟩ := w H2 s2
  by_cases hlt : i < items.length
  · refine .inr ⟨go i hlt, fun H3 => Same H1 H3 ∧ ∃ vs, H3 D = some (.lst vs) ∧ DpAll X.K (hid (ads (FP.omD ω D (.lst ((ys.take (i + 1)).map .im)))) H3) vs (ys.take (i + 1)), fun H3 ⟨s3, h3⟩ => ⟨items.length - (i + 1), by omega, rfl, hlt, s3, h3⟩, fun x H3 hy => ?_⟩
    obtain ⟨e3, d, ed, dx⟩ := yld i x H3 hlt hy
    subst e3
    have hys : i < ys.length := by omega
    have ey : ys[i]? = some ys[i] := List.getElem?_eq_getElem hys
    show wipe (((wipe σ [j])).set j (some x)) [j] = wipe σ [j] ∧ _
    have ew : wipe σ [j] = σ.set j none := rfl
    refine ⟨?_, ?_⟩
    · show (((σ.set j none).set j (some x)).set j none) = σ.set j none
      rw [List.set_set, List.set_set]
    show te (((wipe σ [j])).set j (some x)) H3 _
    rw [ew, List.set_set]
    have rl3 := (rl1.omD hD s2 hv dv)
    have rl4 := rl3.set (i := j) (x := .im d) (v := x) (dpm (hid_in hD s2) dx)
    refine he i d ys[i] ed ey D _ _ _ rl4 _ fun v H4 s4 d4 => ⟨vs, s4 D _ hv, ?_, same_upd_new hD (s2.trans s4), vs ++ [v], upd_same, ?_⟩
    · rw [dpa_len dv, List.length_take]
      refine Nat.lt_of_le_of_lt (Nat.min_le_left _ _) (Nat.lt_of_lt_of_le hlt (Nat.le_trans hz ?_))
      rw [sizeLine_eq]
      decide
    · rw [List.take_add_one, ey]
      exact dpa_app (dpam hid_upd (dpam (hid_same s4) dv)) (.cons (dpm hid_upd d4) .nil)
  · have e : i = items.length := by omega
    subst e
    refine .inl ⟨stop, ?_⟩
    rw [List.take_of_length_le (by omega)] at dv
    exact k D vs H2 (s1.trans s2) (s1.free hD) hv (dpam (hid_more fun b h => ads_omD.mpr (List.mem_cons.mp h)) dv)
/-- [elt for tg in iter] -/
def tBlk (X : Cx) (scope : Scope) (elt : Expr) : TE := fun σ H Q => ∀ (s : Shared) (H0 : Hp) (C : Addr) (cl : List (Str × Addr)) (fp : List Addr), wpe (X.blk s H0 scope (compEnvC scope cl C X.env) fp) elt σ H Q
theorem pe_blk {scope : Scope} {elt : Expr} (s : Shared) (H0 : Hp) (C : Addr) (cl : List (Str × Addr)) (fp : List Addr) : PE (X.blk s H0 scope (compEnvC scope cl C X.env) fp) elt (tBlk X scope elt) := ⟨fun pins s' σ H Q I h => pe_w.run pins s' σ H Q I (h s H0 C cl fp)⟩
theorem pn_lc {elt : Expr} {scope : Scope} {y : Str} {j : Nat} {items ys : List PyData} (hc : X.calm = true) (hN : X.N.Nodup) (hw : PWs X δ ω tg iter items) (hl : ys.length = items.length) (ok : BlkOk X.N X.env.scope scope [(y, j)])
    (hg : ∀ (s : Shared) (H : Hp) (C : Addr) (cl : List (Str × Addr)) (fp : List Addr), PG (X.blk s H scope (compEnvC scope cl C X.env) fp) tg (gName j))
    (he : ∀ (i : Nat) (d y : PyData), items[i]? = some d → ys[i]? = some y → ∀ D o (s : Shared) (H : Hp) (C : Addr) (cl : List (Str × Addr)) (fp : List Addr), PD (X.blk s H scope (compEnvC scope cl C X.env) fp) (δ.set j (some (.im d))) (omD ω D o) elt y)
    (hz : items.length ≤ 10000) (hs : ∀ x, foldedSetIterable iter X.env x = pure x := by intro _; rfl) : PN X δ ω (.ListComp elt [⟨tg, iter, [], 0⟩] scope pos) ys := fun σ H rl Q k => by
  obtain ⟨wi, h1, h2⟩ := hw
  refine we (pe_lc (own := [(y, j)]) hc hN h1 ok hg (fun _ _ _ _ _ => pts_nil) (fun s H0 C cl fp => pe_blk s H0 C cl fp) hs) ?_
  exact lc_data rl (fun R kk => h2 σ H rl R kk) hl hz (fun i d y hd hy D o σ' H' rl' Q' k' s H0 C cl fp => he i d y hd hy D o s H0 C cl fp σ' H' rl' Q' k') k
end
end FP

namespace FP
open PySem PySem.Spec PyProof.Rows L2
/-! ### statements -/
abbrev osA (ω : Om) : List Addr := ω.os.map (·.1)
structure Stp (T : List (Addr × Str)) (ω ω' : Om) (H H' : Hp) : Prop where
  keep : ∀ b o, H b = some o → b ∉ osA ω → Pt T o → H' b = some o
  new : ∀ a, a ∈ osA ω' → a ∈ osA ω ∨ ∀ o, H a = some o → ¬ Pt T o
  ps : ω'.ps = ω.ps
  tab : LamX.Tabs T H → LamX.Tabs T H'
theorem Stp.of {T : List (Addr × Str)} {ω : Om} {H H' : Hp} (s : Same H H') : Stp T ω ω H H' := ⟨fun b o h _ _ => s b o h, fun a h => .inl h, rfl, fun t => t.ext s⟩
theorem Stp.refl {T : List (Addr × Str)} {ω : Om} {H : Hp} : Stp T ω ω H H := .of (Same.refl H)
theorem Stp.trans {T : List (Addr × Str)} {ω ω1 ω2 : Om} {H H1 H2 : Hp} (a : Stp T ω ω1 H H1) (b : Stp T ω1 ω2 H1 H2) : Stp T ω ω2 H H2 := by
  refine ⟨fun c o h n p => ?_, fun c h => ?_, b.ps.trans a.ps, fun t => b.tab (a.tab t)⟩
  · refine b.keep c o (a.keep c o h n p) (fun z => ?_) p
    rcases a.new c z with q | q
    · exact n q
    · exact q o h p
  · rcases b.new c h with q | q
    · exact a.new c q
    · by_cases hc : c ∈ osA ω
      · exact .inl hc
      · exact .inr fun o h p => q o (a.keep c o h hc p) p
/-- what was seen is seen behind a step -/
theorem Stp.seen {T : List (Addr × Str)} {ω ω' : Om} {H H' : Hp} (s : Stp T ω ω' H H') : Ke T (hid (ads ω) H) (hid (ads ω') H') := fun b o h p => by
  obtain ⟨n, e⟩ := hid_out h
  have n2 : b ∉ osA ω := fun z => n (List.mem_append_right _ z)
  refine hid_of (fun z => ?_) (s.keep b o e n2 p)
  rcases List.mem_append.mp z with q | q
  · rw [s.ps] at q
    exact n (List.mem_append_left _ q)
  · rcases s.new b q with q | q
    · exact n2 q
    · exact q o e p
inductive Out where
  | nx (δ : De) (ω : Om)
  | rt (r : Sd) (ω : Om)
  | ex (C : Addr) (ω : Om)
  | bk (δ : De) (ω : Om)
  | ct (δ : De) (ω : Om)
structure Kt (X : Cx) (W : WX) (T : List (Addr × Str)) (ω : Om) (H : Hp) (D : Ends) (R : Out → Prop) : Prop where
  nx : ∀ δ' ω' σ' H', R (.nx δ' ω') → Stp T ω ω' H H' → Rl X.K H' σ' δ' ω' → D.nx σ' H'
  rt : ∀ r ω' v H', R (.rt r ω') → Stp T ω ω' H H' → Ro X.K H' ω' → SdV X.K (hid (ads ω') H') r v → D.rt v H'
  ex : ∀ C ω' σ' H', R (.ex C ω') → Stp T ω ω' H H' → Ro X.K H' ω' → W (.ref C) none σ' H'
  bk : ∀ δ' ω' σ' H', R (.bk δ' ω') → Stp T ω ω' H H' → Rl X.K H' σ' δ' ω' → D.bk σ' H'
  ct : ∀ δ' ω' σ' H', R (.ct δ' ω') → Stp T ω ω' H H' → Rl X.K H' σ' δ' ω' → D.ct σ' H'
theorem Kt.step {X : Cx} {W : WX} {T : List (Addr × Str)} {ω ω1 : Om} {H H1 : Hp} {D : Ends} {R : Out → Prop} (k : Kt X W T ω H D R) (s : Stp T ω ω1 H H1) : Kt X W T ω1 H1 D R :=
  ⟨fun δ' ω' σ' H' r q l => k.nx δ' ω' σ' H' r (s.trans q) l, fun r ω' v H' h q l z => k.rt r ω' v H' h (s.trans q) l z, fun C ω' σ' H' h q l => k.ex C ω' σ' H' h (s.trans q) l, fun δ' ω' σ' H' r q l => k.bk δ' ω' σ' H' r (s.trans q) l, fun δ' ω' σ' H' r q l => k.ct δ' ω' σ' H' r (s.trans q) l⟩
def S1 (X : Cx) (W : WX) (T : List (Addr × Str)) (st : Stmt) (δ : De) (ω : Om) (R : Out → Prop) : Prop := ∀ σ H D, Rl X.K H σ δ ω → LamX.Tabs T H → Kt X W T ω H D R → wps X st D σ H
def SD (X : Cx) (W : WX) (T : List (Addr × Str)) (ss : List Stmt) (δ : De) (ω : Om) (R : Out → Prop) : Prop := ∀ σ H D, Rl X.K H σ δ ω → LamX.Tabs T H → Kt X W T ω H D R → wpss X ss D σ H
/-- an expression that may write, or raise -/
def EX (X : Cx) (W : WX) (T : List (Addr × Str)) (e : Expr) (δ : De) (ω : Om) (R : Out → Prop) : Prop := ∀ σ H, Rl X.K H σ δ ω → LamX.Tabs T H → ∀ Q : VK,
  (∀ r ω' v H', R (.rt r ω') → Stp T ω ω' H H' → Rl X.K H' σ δ ω' → SdV X.K (hid (ads ω') H') r v → Q v H') → (∀ C ω' σ' H', R (.ex C ω') → Stp T ω ω' H H' → Ro X.K H' ω' → W (.ref C) none σ' H') → wpe X e σ H Q
/-- then the rest -/
def Nxt (X : Cx) (W : WX) (T : List (Addr × Str)) (ss : List Stmt) (R : Out → Prop) : Out → Prop
  | .nx δ ω => SD X W T ss δ ω R
  | o => R o
/-- the value goes to what follows -/
def Val1 (V : Sd → Om → Prop) (R : Out → Prop) : Out → Prop
  | .rt r ω => V r ω
  | .ex C ω => R (.ex C ω)
  | _ => False
section
variable {X : Cx} {W : WX} {T : List (Addr × Str)} {δ : De} {ω : Om} {a b c e tg iter : Expr} {es r : List Expr} {d da db dc dz : PyData} {ds : List PyData} {pos p : Pos} {k : Nat} {x : Str} {R : Out → Prop} {st : Stmt} {ss sa sb : List Stmt}
theorem sd_nil (h : R (.nx δ ω)) : SD X W T [] δ ω R := fun σ H D rl t k => wss pss_nil (k.nx δ ω σ H h .refl rl)
theorem sd_cons (h : S1 X W T st δ ω (Nxt X W T ss R)) : SD X W T (st :: ss) δ ω R := fun σ H D rl t k =>
  wss (pss_cons ps_w pss_w) (h σ H _ rl t ⟨fun δ' ω' σ' H' z q l => z σ' H' D l (q.tab t) (k.step q), k.rt, k.ex, k.bk, k.ct⟩)
theorem PD.ex (h : PD X δ ω e d) (hR : R (.rt (.im d) ω)) : EX X W T e δ ω R := fun σ H rl t Q q _ => h σ H rl Q fun v H' s dv => q _ ω v H' hR (.of s) (rl.mono s) dv
theorem s1_set (i : Nat) {x : Str} {pos' : Pos} (he : EX X W T e δ ω (Val1 (fun r ω' => R (.nx (δ.set i (some r)) ω')) R)) (hN : X.N.Nodup) (hi : X.N[i]? = some x := by rfl) (hx : Loc X.env.scope x := by first | exact Or.inl rfl | exact Or.inr rfl) (hs : swapsWith e (some (.Name x pos')) pos.line X.env = pure false := by rfl)
    (hf : X.fn x = true ∨ X.env.scope.names.lookup x = some .local := by first | exact .inl rfl | exact .inr rfl | assumption) : S1 X W T (.Assign [.Name x pos'] e pos) δ ω R := fun σ H D rl t k =>
  ws (ps_set hN hi hx pe_w hs hf) (he σ H rl t _ (fun r ω' v H' z q l dv => k.nx _ ω' _ H' z q (l.set dv)) (fun C ω' σ' H' z q l => k.ex C ω' σ' H' z q l))
theorem sd_set (i : Nat) {x : Str} {pos' : Pos} (he : PD X δ ω e d) (hk : SD X W T ss (δ.set i (some (.im d))) ω R) (hN : X.N.Nodup) (hi : X.N[i]? = some x := by rfl) (hx : Loc X.env.scope x := by first | exact Or.inl rfl | exact Or.inr rfl) (hs : swapsWith e (some (.Name x pos')) pos.line X.env = pure false := by rfl)
    (hf : X.fn x = true ∨ X.env.scope.names.lookup x = some .local := by first | exact .inl rfl | exact .inr rfl | assumption) : SD X W T (.Assign [.Name x pos'] e pos :: ss) δ ω R :=
  sd_cons (s1_set i (he.ex (show Val1 _ _ _ from hk)) hN hi hx hs hf)
/-- a new list of one's own -/
theorem sd_own (i : Nat) {x : Str} {pos' : Pos} (he : PN X δ ω e ds) (hk : ∀ D, SD X W T ss (δ.set i (some (.ad D))) (omD ω D (.lst (ds.map .im))) R) (hN : X.N.Nodup) (hi : X.N[i]? = some x := by rfl) (hx : Loc X.env.scope x := by first | exact Or.inl rfl | exact Or.inr rfl) (hs : swapsWith e (some (.Name x pos')) pos.line X.env = pure false := by rfl)
    (hf : X.fn x = true ∨ X.env.scope.names.lookup x = some .local := by first | exact .inl rfl | exact .inr rfl | assumption) : SD X W T (.Assign [.Name x pos'] e pos :: ss) δ ω R :=
  sd_cons fun σ H D rl t k => ws (ps_set hN hi hx pe_w hs hf) (he σ H rl _ fun q vs H' s n hv dv => by
    have nq := new_out rl.ro.there n
    have rl2 : Rl X.K H' σ δ (omD ω q (.lst (ds.map .im))) := rl.omD n s hv (dpam (hid_more fun b h => List.mem_cons.mpr (ads_omD.mp h)) dv)
    exact k.nx _ _ _ H' (hk q) ⟨fun b o h _ _ => s b o h, fun a h => by
      rcases List.mem_cons.mp (show a ∈ q :: ω.os.map (·.1) from h) with z | z
      · exact .inr fun o ho => by
          rw [z, n] at ho
          cases ho
      · exact .inl z, rfl, fun t => t.ext s⟩ (rl2.set (x := .ad q) (v := .ref q) rfl))
/-- x = [elt for tg in iter], on one line, x a local -/
theorem sd_setLc (i : Nat) {x : Str} {py cpos : Pos} {elt : Expr} {scope : Scope} {y : Str} {j : Nat} {items ys : List PyData} (hc : X.calm = true) (hN : X.N.Nodup) (hw : PWs X δ ω tg iter items) (hl : ys.length = items.length) (ok : BlkOk X.N X.env.scope scope [(y, j)])
    (hg : ∀ (s : Shared) (H : Hp) (C : Addr) (cl : List (Str × Addr)) (fp : List Addr), PG (X.blk s H scope (compEnvC scope cl C X.env) fp) tg (gName j))
    (he : ∀ (i : Nat) (d y : PyData), items[i]? = some d → ys[i]? = some y → ∀ D o (s : Shared) (H : Hp) (C : Addr) (cl : List (Str × Addr)) (fp : List Addr), PD (X.blk s H scope (compEnvC scope cl C X.env) fp) (δ.set j (some (.im d))) (omD ω D o) elt y)
    (hz : items.length ≤ 10000) (hsw : swapsWith (.ListComp elt [⟨tg, iter, [], 0⟩] scope cpos) (some (.Name x py)) pos.line X.env = pure true) (hk : SD X W T ss (δ.set i (some (.im (.list ys)))) ω R)
    (hy : X.N[i]? = some x := by rfl) (hyl : X.env.scope.names.lookup x = some .local := by rfl) (hs : ∀ x, foldedSetIterable iter X.env x = pure x := by intro _; rfl) : SD X W T (.Assign [.Name x py] (.ListComp elt [⟨tg, iter, [], 0⟩] scope cpos) pos :: ss) δ ω R := by
  obtain ⟨wi, h1, h2⟩ := hw
  refine sd_cons fun σ H D rl t k => ws (ps_setLc (i := i) (own := [(y, j)]) hc hN hy hyl hsw h1 ok hg (fun _ _ _ _ _ => pts_nil) (fun s H0 C cl fp => pe_blk s H0 C cl fp) hs) ?_
  refine lc_data rl (fun R kk => h2 σ H rl R kk) hl hz (fun i d y hd hy D o σ' H' rl' Q' k' s H0 C cl fp => he i d y hd hy D o s H0 C cl fp σ' H' rl' Q' k') (fun p vs H' s n hv dv => ?_)
  exact k.nx _ ω _ H' hk (.of s) ((rl.mono s).set (x := .im (.list ys)) (v := .ref p) (.lst (SqL.of (hid_of (new_out rl.ro.there n) hv)) (dpam hid_cons dv)))
theorem sd_ret (he : PD X δ ω e d) (hR : R (.rt (.im d) ω)) : SD X W T (.Return (some e) pos :: ss) δ ω R :=
  sd_cons fun σ H D rl t k => ws (ps_ret pe_w) (he σ H rl _ fun v H' s dv => k.rt _ ω v H' hR (.of s) (rl.ro.mono s) dv)
theorem sd_retX (he : EX X W T e δ ω R) : SD X W T (.Return (some e) pos :: ss) δ ω R :=
  sd_cons fun σ H D rl t k => ws (ps_ret pe_w) (he σ H rl t _ (fun r ω' v H' z q l dv => k.rt r ω' v H' z q l.ro dv) (fun C ω' σ' H' z q l => k.ex C ω' σ' H' z q l))
/-- a list of one's own is handed back -/
theorem sd_retL (he : PL X δ ω e ds) (hR : R (.rt (.im (.list ds)) ⟨ω.ps, []⟩)) (hps : ∀ p vs H, Ro X.K H ω → SqL X.K H p vs → SqL X.K (hid ω.ps H) p vs) : SD X W T (.Return (some e) pos :: ss) δ ω R :=
  sd_cons fun σ H D rl t k => ws (ps_ret pe_w) (he σ H rl _ fun q vs H' s hv dv => k.rt _ ⟨ω.ps, []⟩ (.ref q) H' hR ⟨fun b o h _ _ => s b o h, fun a h => (List.not_mem_nil h).elim, rfl, fun t => t.ext s⟩ (Ro.nil (there_mono rl.ro.th s)) (by
    show Dp X.K (hid (ads ⟨ω.ps, []⟩) H') (.ref q) (.list ds)
    rw [ads_nil]
    exact .lst (hps q vs H' (rl.ro.mono s) hv) (dpam (hid_more fun b h => List.mem_append_left _ h) dv)))
theorem sd_expr (he : PD X δ ω e d) (hk : SD X W T ss δ ω R) (hs : swapsWith e none pos.line X.env = pure false := by rfl) : SD X W T (.Expr e pos :: ss) δ ω R :=
  sd_cons fun σ H D rl t k => ws (ps_expr pe_w hs) (he σ H rl _ fun v H' s dv => k.nx δ ω σ H' hk (.of s) (rl.mono s))
theorem sd_exprX (he : EX X W T e δ ω (Val1 (fun _ ω' => SD X W T ss δ ω' R) R)) (hs : swapsWith e none pos.line X.env = pure false := by rfl) : SD X W T (.Expr e pos :: ss) δ ω R :=
  sd_cons fun σ H D rl t k => ws (ps_expr pe_w hs) (he σ H rl t _ (fun r ω' v H' z q l dv => k.nx δ ω' σ H' z q l) (fun C ω' σ' H' z q l => k.ex C ω' σ' H' z q l))
theorem sd_setX (i : Nat) {x : Str} {pos' : Pos} (he : EX X W T e δ ω (Val1 (fun r ω' => SD X W T ss (δ.set i (some r)) ω' R) R)) (hN : X.N.Nodup) (hi : X.N[i]? = some x := by rfl) (hx : Loc X.env.scope x := by first | exact Or.inl rfl | exact Or.inr rfl) (hs : swapsWith e (some (.Name x pos')) pos.line X.env = pure false := by rfl)
    (hf : X.fn x = true ∨ X.env.scope.names.lookup x = some .local := by first | exact .inl rfl | exact .inr rfl | assumption) : SD X W T (.Assign [.Name x pos'] e pos :: ss) δ ω R :=
  sd_cons (s1_set i (fun σ H rl t Q q q2 => he σ H rl t Q (fun r ω' v H' z => q r ω' v H' z) (fun C ω' σ' H' z => q2 C ω' σ' H' z)) hN hi hx hs hf)
theorem sd_if {kk : Bool} (h : PTd X δ ω c kk) (h1 : kk = true → SD X W T sa δ ω (Nxt X W T ss R)) (h2 : kk = false → SD X W T sb δ ω (Nxt X W T ss R)) : SD X W T (.If c sa sb pos :: ss) δ ω R :=
  sd_cons fun σ H D rl t k => ws (ps_if pt_w pss_w pss_w) (h σ H rl _ fun H' s => by
    cases kk with
    | true => exact iteT (h1 rfl σ H' D (rl.mono s) (t.ext s) (k.step (.of s)))
    | false => exact iteF (h2 rfl σ H' D (rl.mono s) (t.ext s) (k.step (.of s))))
theorem sd_ifF (h : PTd X δ ω c false) (h2 : SD X W T ss δ ω R) : SD X W T (.If c sa [] pos :: ss) δ ω R := sd_if h (fun z => by cases z) fun _ => sd_nil h2
theorem sd_ifT (h : PTd X δ ω c true) (h1 : SD X W T sa δ ω (Nxt X W T ss R)) : SD X W T (.If c sa sb pos :: ss) δ ω R := sd_if h (fun _ => h1) fun z => by cases z
/-- both ways come together -/
def Jn (J : De → Om → Prop) (R : Out → Prop) : Out → Prop
  | .nx δ ω => J δ ω
  | o => R o
theorem SD.imp {R' : Out → Prop} (h : SD X W T ss δ ω R') (hi : ∀ o, R' o → R o) : SD X W T ss δ ω R := fun σ H D rl t k =>
  h σ H D rl t ⟨fun δ' ω' σ' H' z => k.nx δ' ω' σ' H' (hi _ z), fun r ω' v H' z => k.rt r ω' v H' (hi _ z), fun C ω' σ' H' z => k.ex C ω' σ' H' (hi _ z), fun δ' ω' σ' H' z => k.bk δ' ω' σ' H' (hi _ z), fun δ' ω' σ' H' z => k.ct δ' ω' σ' H' (hi _ z)⟩
theorem sd_ifJ {kk : Bool} (J : De → Om → Prop) (h : PTd X δ ω c kk) (h1 : kk = true → SD X W T sa δ ω (Jn J R)) (h2 : kk = false → SD X W T sb δ ω (Jn J R)) (hk : ∀ δ' ω', J δ' ω' → SD X W T ss δ' ω' R) : SD X W T (.If c sa sb pos :: ss) δ ω R := by
  have im : ∀ o, Jn J R o → Nxt X W T ss R o := fun o z => by
    cases o with
    | nx δ' ω' => exact hk δ' ω' z
    | _ => exact z
  exact sd_if h (fun e => (h1 e).imp im) (fun e => (h2 e).imp im)
/-- a, b, .. = a tuple -/
def setAll : De → List Nat → List PyData → De
  | δ, i :: is, d :: ds => setAll (δ.set i (some (.im d))) is ds
  | δ, _, _ => δ
def gAll : List Nat → TGs
  | [] => gNil
  | i :: is => gCons (gName i) (gAll is)
theorem gAll_ok {K : PySem.W.Frag} {H : Hp} {ω : Om} {Q : L2.St → Hp → Prop} : ∀ {is : List Nat} {ds : List PyData} {vs : List V} {σ : L2.St} {δ : De}, Rl K H σ δ ω → DpAll K (hid (ads ω) H) vs ds → is.length = ds.length → (∀ σ', Rl K H σ' (setAll δ is ds) ω → Q σ' H) → gAll is vs σ H Q
  | [], [], _, σ, δ, rl, .nil, _, k => ⟨rfl, k σ rl⟩
  | i :: is, d :: ds, v :: vs, σ, δ, rl, .cons h1 h2, hl, k => ⟨v, vs, rfl, gAll_ok (rl.set (x := .im d) h1) h2 (Nat.succ.inj hl) k⟩
theorem sd_unp (is : List Nat) {ts : List Expr} {n kk : Nat} {p' : Pos} (he : PD X δ ω e (.tuple ds)) (hg : PG X (.Tuple ts kk p') (gTup X.K n (gAll is))) (hn : ds.length = n) (hi : is.length = n) (hk : SD X W T ss (setAll δ is ds) ω R)
    (hs : swapsWithSole [.Tuple ts kk p'] e pos.line X.env = pure false := by rfl) (hw : swappedStores [.Tuple ts kk p'] e X.env = pure none := by rfl) : SD X W T (.Assign [.Tuple ts kk p'] e pos :: ss) δ ω R :=
  sd_cons fun σ H D rl t k => ws (ps_asg pe_w hg hs hw) (he σ H rl _ fun v H' s dv => by
    cases dv with
    | tup h1 h2 => exact ⟨_, _, rfl, same_sqt hid_sub h1, by rw [dpa_len h2]; exact hn, gAll_ok (rl.mono s) h2 (hi.trans hn.symm) fun σ' l => k.nx _ ω σ' H' hk (.of s) l⟩)
/-- x.append(e), x the list of one's own that was made last -/
theorem sd_app (i : Nat) {x : Str} {p1 apos cpos : Pos} {D : Addr} {xs : List PyData} (he : PD X δ (omD ω D (.lst (xs.map .im))) e d) (hk : SD X W T ss δ (omD ω D (.lst ((xs ++ [d]).map .im))) R) (hz : xs.length < 10000)
    (hd : δ[i]? = some (some (.ad D)) := by rfl) (hN : X.N[i]? = some x := by rfl) (hv : Vis X.env.scope x := by first | exact Or.inl rfl | exact Or.inr (Or.inl rfl) | exact Or.inr (Or.inr rfl))
    (h1 : (x == ("__debug__" : Str)) = false := by decide) (h2 : (x == ("__classdict__" : Str)) = false := by decide)
    (hs : swapsWith (.Call (.Attribute (.Name x p1) "append" apos) [e] [] cpos) none pos.line X.env = pure false := by rfl)
    (hbase : attributeBase (.Name x p1) "append" X.env (eval (.Name x p1) X.env) = eval (.Name x p1) X.env := by rfl)
    (hfew : ((backTo cpos (starEach [e] X.env)).all (fun x => !x.1) && (backToKw cpos (keywordEach [] X.env)).all (fun x => x.1.isSome)
      && decide (([e] : List Expr).length + ([] : List Keyword).length + (if ([] : List Keyword).isEmpty then 0 else 1) < 30)) = true := by rfl)
    (hline : (apos.endLine == cpos.line) = true := by rfl) (hst : starEach [e] X.env = (false, eval e X.env) :: starEach [] X.env := by rfl) :
    SD X W T (.Expr (.Call (.Attribute (.Name x p1) "append" apos) [e] [] cpos) pos :: ss) δ (omD ω D (.lst (xs.map .im))) R :=
  sd_cons fun σ H Dd rl t k => by
    obtain ⟨v, e1, e2⟩ := rl.sl i _ hd
    have e2 : v = .ref D := e2
    subst e2
    obtain ⟨vs, e3, e4⟩ := rl.ro.ob D _ List.mem_cons_self
    refine ws (ps_expr (pe_bm PySem.F.plainAttrs_list PySem.F.slot_list_append PySem.F.type_list_append mt_append (pe_var hN hv h1 h2) (pa_cons pe_w pa_nil hst) hbase hfew hline hst) hs) ⟨_, e1, .inl ⟨rfl, vs, SqL.of e3⟩, ?_⟩
    refine he σ H rl _ fun y H1 s1 d1 => ⟨D, vs, y, rfl, rfl, s1 D _ e3, ?_, ?_⟩
    · rw [dpa_len (dpa_im e4)]
      exact Nat.lt_of_lt_of_le hz (by rw [sizeLine_eq]; decide)
    · have rl1 := rl.mono s1
      have hh : Same (hid (ads (omD ω D (.lst (xs.map .im)))) H1) (hid (ads (omD ω D (.lst ((xs ++ [d]).map .im)))) (upd H1 D (.lst (vs ++ [y])))) := hid_upd
      refine k.nx δ _ σ _ hk ⟨fun b o h n _ => ?_, fun a h => .inl h, rfl, fun t => ?_⟩ ⟨rl1.len, fun j r h => ?_, ?_, rl1.ro.nd, fun a h z => ?_⟩
      · have nb : b ≠ D := fun z => n (by rw [z]; exact List.mem_cons_self)
        rw [upd_ne nb]
        exact s1 b o h
      · have t1 := t.ext s1
        intro q hq
        obtain ⟨ps, a1, a2, a3⟩ := t1 q hq
        have e5 : H1 D = some (.lst vs) := s1 D _ e3
        refine ⟨ps, by rw [upd_ne (ne_of a1 e5 (by intro z; cases z))]; exact a1, a2, fun p' cv hc => ?_⟩
        obtain ⟨c0, b1, b2⟩ := a3 p' cv hc
        refine ⟨c0, b1, by rw [upd_ne (ne_of b2 e5 (by intro z; unfold LamX.CodeO at z; cases z))]; exact b2⟩
      · obtain ⟨v, h1, h2⟩ := rl1.sl j r h
        exact ⟨v, h1, sdv_mono hh h2⟩
      · intro a o h
        rcases List.mem_cons.mp h with q | q
        · cases q
          exact ⟨vs ++ [y], upd_same, im_dpa (dpa_app (dpam hh (dpam (hid_same s1) (dpa_im e4))) (.cons (dpm hh d1) .nil))⟩
        · have na : a ≠ D := fun z => by
            have nd := rl1.ro.nd
            have nd2 : (D :: ω.os.map (·.1)).Nodup := nd
            exact (List.nodup_cons.mp nd2).1 (List.mem_map.mpr ⟨(a, o), q, z⟩)
          have g := rl1.ro.ob a o (List.mem_cons_of_mem _ q)
          cases o with
          | lst zs =>
            obtain ⟨us, g1, g2⟩ := g
            exact ⟨us, by rw [upd_ne na]; exact g1, L2.Paired.mapP g2 fun _ _ w => sdv_mono hh w⟩
          | ins C fs =>
            obtain ⟨dx, us, g1, g2⟩ := g
            exact ⟨dx, us, by rw [upd_ne na]; exact g1, L2.Paired.mapP g2 fun _ _ w => ⟨w.1, sdv_mono hh w.2⟩⟩
      · have hn := rl1.ro.th a h
        by_cases za : a = D
        · rw [za, upd_same] at z
          cases z
        · rw [upd_ne za] at z
          exact hn z
/-- what follows a turn -/
def Turn1 (inv : Nat → De → Om → Prop) (i : Nat) (B R : Out → Prop) : Out → Prop
  | .nx δ ω => inv (i + 1) δ ω
  | .ct δ ω => inv (i + 1) δ ω
  | .bk δ ω => B (.nx δ ω)
  | o => R o
theorem sd_for (j : Nat) {items : List PyData} (inv : Nat → De → Om → Prop) (hw : PWk X δ ω tg iter items) (h0 : inv 0 δ ω)
    (hb : ∀ i d δ' ω', items[i]? = some d → inv i δ' ω' → SD X W T sa (δ'.set j (some (.im d))) ω' (Turn1 inv i (Nxt X W T ss R) R))
    (hd : ∀ δ' ω', inv items.length δ' ω' → SD X W T ss δ' ω' R) (hg : PG X tg (gName j)) (hp : PassesOwn (model X.prog X.w) X.A X.env X.xe) (hc : X.calm = true) (hs : ∀ x, foldedSetIterable iter X.env x = pure x := by intro _; rfl) : SD X W T (.For tg iter sa [] pos :: ss) δ ω R := by
  obtain ⟨wi, h1, h2⟩ := hw
  refine sd_cons fun σ H D rl t k => ws (ps_for hp hc h1 hg pss_w hs) (h2 σ H rl _ fun J H1 s1 w => ?_)
  refine ⟨fun i m σ' H' => ∃ δ' ω', m = items.length - i ∧ i ≤ items.length ∧ inv i δ' ω' ∧ Stp T ω ω' H1 H' ∧ Rl X.K H' σ' δ' ω', ⟨items.length, δ, ω, by omega, Nat.zero_le _, h0, .refl, rl.mono s1⟩, ?_⟩
  rintro i m σ' H' ⟨δ', ω', em, hi, iv, st, rl'⟩
  obtain ⟨go, stop, yld⟩ := w T H' (fun b o z p => (hid_out (st.seen b o z p)).2)
  have k1 := k.step (Stp.of s1 : Stp T ω ω H H1)
  by_cases hlt : i < items.length
  · refine .inr ⟨go i hlt, fun σ2 H2 => ∃ δ2 ω2, inv (i + 1) δ2 ω2 ∧ Stp T ω ω2 H1 H2 ∧ Rl X.K H2 σ2 δ2 ω2, fun σ2 H2 ⟨δ2, ω2, a1, a2, a3⟩ => ⟨items.length - (i + 1), by omega, δ2, ω2, rfl, hlt, a1, a2, a3⟩, fun x H2 hy => ?_⟩
    obtain ⟨e2, d, ed, dx⟩ := yld i x H2 hlt hy
    subst e2
    refine hb i d δ' ω' ed iv _ _ _ (rl'.set (x := .im d) (dp_ke st.seen d x dx)) (st.tab (t.ext s1)) ?_
    have k2 := k1.step st
    exact ⟨fun δ2 ω2 σ2 H2 z q l => ⟨δ2, ω2, z, st.trans q, l⟩, fun r ω2 v H2 z q l dv => k2.rt r ω2 v H2 z q l dv, fun C ω2 σ2 H2 z q l => k2.ex C ω2 σ2 H2 z q l, fun δ2 ω2 σ2 H2 z q l => k2.nx δ2 ω2 σ2 H2 z q l, fun δ2 ω2 σ2 H2 z q l => ⟨δ2, ω2, z, st.trans q, l⟩⟩
  · have e : i = items.length := by omega
    subst e
    exact .inl ⟨stop, (k1.step st).nx δ' ω' σ' H' (hd δ' ω' iv) .refl rl'⟩
/-- a call that may raise -/
theorem ex_call {fr : List PyData → Rs → Prop} {rr : Rs} (G : DefOk X.prog X.w X.K X.mg X.base k x fr) (hr : Room k X.A) (tk : L2N.Takes X W) (ha : PDs X δ ω (a :: es) ds) (hf : fr ds rr) (hR : match rr with | .ok d => R (.rt (.im d) ω) | .er C => R (.ex C ω)) (hg : Gl X x := by rfl)
    (hdb : (x == ("__debug__" : Str)) = false := by decide) (he : starEach (a :: es) X.env = (false, eval a X.env) :: starEach es X.env := by rfl) (hpl : (backTo pos (starEach es X.env)).any (·.1) = false := by rfl) : EX X W T (.Call (.Name x p) (a :: es) [] pos) δ ω R := fun σ H rl t Q q q2 => by
  obtain ⟨f, fd, ps, F, m, kp, b⟩ := G.ex
  refine we (pe_callS (E := WE W) F hr hg m kp b (fun σ => L2N.passAt tk σ) pa_w hdb he hpl) (ha σ H rl _ fun vs H1 s1 d1 => ?_)
  refine ⟨ads ω, ds, rr, there_mono rl.ro.there s1, d1, hf, ?_⟩
  cases rr with
  | ok d => exact fun v H' s' d' => q _ ω v H' hR (.of (s1.trans s')) (rl.mono (s1.trans s')) d'
  | er C => exact fun H' s' => q2 C ω σ H' hR (.of (s1.trans s')) (rl.ro.mono (s1.trans s'))
/-! ### a def -/
def startD (N : List Str) (ds : List PyData) : De := ds.map (fun d => some (.im d)) ++ List.replicate (N.length - ds.length) none
theorem start_rl {K : PySem.W.Frag} {H : Hp} {ps : List Addr} {N : List Str} {vs : List V} (h : DpAll K (hid ps H) vs ds) (hp : ∀ a ∈ ps, H a ≠ none) : Rl K H (L2.start N vs) (startD N ds) ⟨ps, []⟩ := by
  have hl := dpa_len h
  refine ⟨?_, fun i r hi => ?_, Ro.nil hp⟩
  · unfold L2.start startD
    rw [List.length_append, List.length_append, List.length_map, List.length_map, List.length_replicate, List.length_replicate, hl]
  · rw [ads_nil]
    unfold startD at hi
    by_cases hlt : i < ds.length
    · rw [List.getElem?_append_left (by rw [List.length_map]; exact hlt), List.getElem?_map, List.getElem?_eq_getElem hlt] at hi
      cases hi
      obtain ⟨v, h1, h2⟩ := dpa_get h (List.getElem?_eq_getElem hlt)
      refine ⟨v, ?_, h2⟩
      unfold L2.start
      rw [List.getElem?_append_left (by rw [List.length_map, hl]; exact hlt), List.getElem?_map, h1]
      rfl
    · rw [List.getElem?_append_right (by rw [List.length_map]; omega)] at hi
      have := List.getElem?_eq_some_iff.mp hi
      obtain ⟨h1, h2⟩ := this
      rw [List.getElem_replicate] at h2
      cases h2
def Fin (r : Rs) : Out → Prop
  | .rt (.im d) _ => r = .ok d
  | .nx _ _ => r = .ok .none
  | .ex C _ => r = .er C
  | _ => False
abbrev WOf (E : XK) : WX := fun cls d _ H => E cls d H
theorem def_ok {P : Program} {w : World} {K : PySem.W.Frag} {mg : Str → Option Value} {base : Heap} {x qual : Str} {params : Arguments} {body : List Stmt} {scope : Scope} {kws : List (Str × V)} {f : Addr} {fd : FuncData} {N ps : List Str} {k : Nat} {fr : List PyData → Rs → Prop}
    (F : FunD K x qual params body scope [] kws f fd) (hm : mg x = some (.ref f)) (S : FnScope N ps scope) (hb : ∀ (kV doc pm : Value) (an : Option Addr) (cdv ct : Value) (us : List Value), us.length = ps.length → bindArgs (PySem.W.fnOf x qual params body scope .none kV doc pm an cdv ct) ⟨us, []⟩ = pure (ps.zip us))
    (len : ∀ ds r, fr ds r → ds.length = ps.length)
    (hbody : ∀ (cdv : Value) (A : Around) (outer : List Env) (s : Shared) (H : Hp) (E : XK) (qs : List Addr) (ds : List PyData) (r : Rs), Room k (A.deeper (envOfC qual scope s.heap.objs.size f cdv)) → fr ds r →
      SD (cxOf (L2N.CX P w) P w K mg base N qual scope f cdv A outer s H E) (WOf E) [] body (startD N ds) ⟨qs, []⟩ (Fin r)) : DefOk P w K mg base (k + 1) x fr := by
  refine ⟨f, fd, ps, F.ok S (fun vs H Q E h => ?_) (fun cdv A outer s H vs Q E hr h => ?_), hm, F.kp, F.bindsN hb⟩
  · obtain ⟨qs, ds, r, _, h2, h3, _⟩ := h
    rw [dpa_len h2]
    exact len ds r h3
  · obtain ⟨qs, ds, r, h1, h2, h3, h4⟩ := h
    refine ⟨_, pss_w, hbody cdv A outer s H E qs ds r hr h3 _ _ _ (start_rl h2 h1) (fun _ z => nomatch z) ?_⟩
    have same : ∀ {ω' : Om} {H' : Hp}, Stp [] ⟨qs, []⟩ ω' H H' → Same H H' := fun st b o e => st.keep b o e (fun z => nomatch z) (.inl rfl)
    refine ⟨fun δ' ω' σ' H' z st l => ?_, fun r' ω' v H' z st l dv => ?_, fun C ω' σ' H' z st l => ?_, fun _ _ _ _ z => False.elim z, fun _ _ _ _ z => False.elim z⟩
    · have z : r = .ok .none := z
      subst z
      exact h4 .non H' (same st) .non
    · cases r' with
      | im d =>
        have z : r = .ok d := z
        subst z
        exact h4 v H' (same st) (dpm (hid_more fun b hb => List.mem_append_left _ (by rw [st.ps]; exact hb)) dv)
      | ad a => exact False.elim z
    · have z : r = .er C := z
      subst z
      exact h4 H' (same st)
end
end FP

namespace FP
open PySem PySem.Spec PyProof.Rows L2
/-- a tuple times a number below 2: itself by 1, else an empty one -/
def fewSpec (l : Addr) (o : Obj) (k : Int) : PySem.Spec := fun _ R s =>
  s.heap.get? l = some o ∧ (k = 1 → R (.ok (.ret (.ref l))) s) ∧
    (k ≠ 1 → R (.ok (.ret (.ref s.heap.objs.size))) { s with heap := s.heap.push { cls := .type "tuple", data := .seq #[] } })
theorem times_few {l : Addr} {its : Array Value} {n : Nat} {dd : Option Addr} {sl : Array (Option Value)} {k : Int} {t : Tok}
    (ne : its.isEmpty = false) (small : k ≤ 1) (low : -1000 ≤ k) :
    Meets (Builtin.«tuple.__mul__» ⟨[.ref l, .int k t], []⟩) (fewSpec l ⟨.type "tuple", dd, .seq its n, sl⟩ k) := by
  have inIx : ¬ ((decide (k < -(2 ^ 63)) || decide (k ≥ 2 ^ 63)) = true) := by
    rw [Bool.or_eq_true, decide_eq_true_iff, decide_eq_true_iff]
    omega
  have ix := AutoSeq1.idx_int
  refine .of_wp fun prog w A R ⟨hp, g, d, tk, os⟩ ⟨hl, same, new⟩ => ?_
  wp_walk using wpAny_loadPart' hl
  rw [if_neg inIx]
  wp_walk using wpAny_loadPart' hl
  by_cases e : k = 1
  · rw [if_pos (by rw [e, Bool.or_eq_true]; exact .inr rfl)]
    wp_walk using wpAny_loadPart' hl
    exact ⟨_, rfl, same e⟩
  · rw [if_neg (by rw [ne, Bool.false_or, beq_iff_eq]; exact e), if_pos (by rw [Bool.or_eq_true, decide_eq_true_iff]; omega)]
    wp_walk using wpAny_loadPart' hl
    exact ⟨_, rfl, new e⟩
/-- .. which is what the program's sign for it asks -/
theorem eval_few {prog : Program} {w : World} {A : Around} {Q E : Value → Shared → Prop} {s : Shared} {l : Addr} {its : Array Value} {n : Nat}
    {dd : Option Addr} {sl : Array (Option Value)} {k : Int} {t : Tok} (at_ : s.heap.get? l = some ⟨.type "tuple", dd, .seq its n, sl⟩)
    (ne : its.isEmpty = false) (small : k ≤ 1) (low : -1000 ≤ k) (same : k = 1 → Q (.ref l) s)
    (new : k ≠ 1 → Q (.ref s.heap.objs.size) { s with heap := s.heap.push { cls := .type "tuple", data := .seq #[] } }) :
    wpAny (model prog w) A (binaryOp .Mult (.ref l) (.int k t)) Q E s := by
  have isTup : s.TypeIs (.ref l) "tuple" := ⟨_, at_, rfl⟩
  have isInt := fun z : Shared => typeIs_int z k t
  have own : wpAny (model prog w) A (call (.builtin "tuple.__mul__") [.ref l, .int k t]) Q E s :=
    call_meets F.slot_tuple_mul isTup F.entry_tuple_mul (F.args_tuple_mul_2 _ _) (times_few ne small low) ⟨at_, same, new⟩
  have first := int_rmul_tuple k t l its n dd sl
  exact wpAny_binaryOp_repeat_ref (by decide) isTup isInt noFill_tuple_mul F.fills_int_mul F.slot_int_rmul repeat_tuple F.slot_int_index.lookup
    (call_meets F.slot_int_rmul (isInt s) F.entry_int_rmul (F.args_int_rmul_2 _ _) first ⟨at_, rfl, isTup, own⟩)

def rRepA (K : PySem.W.Frag) : R2 := fun x y H Q => ∃ l k xs, x = .ref l ∧ y = .int k ∧ SqT K H l xs ∧ xs ≠ [] ∧ -1000 ≤ k ∧ k ≤ 1000 ∧ xs.length ≤ 1000 ∧ (k = 1 → Q (.ref l) H) ∧ (k ≠ 1 → ∀ p, H p = none → Q (.ref p) (upd H p (.tup (List.replicate k.toNat xs).flatten)))
section
variable {X : Cx}
theorem op_repA : OpR X (binaryOp .Mult) (rRepA X.K) := by
  rintro pins s σ H x y v u Q I rx ry ⟨l, k, xs, rfl, rfl, tup, some, low, high, len, same, new⟩
  by_cases small : k ≤ 1
  case neg => exact op_repT pins s σ H _ _ v u Q I rx ry ⟨l, k, xs, rfl, rfl, tup, some, by omega, high, len, new (by omega)⟩
  cases rx
  rcases ry with ⟨t, rfl⟩
  rcases I.tuple tup with ⟨its, r, ⟨⟨c, dd, da, sl⟩, at_, isT, n, isS⟩, _⟩
  cases show c = _ from isT
  cases show da = _ from isS
  refine eval_few at_ ?_ small low (fun e => ⟨.ref l, H, I, rfl, same e⟩) fun e => ?_
  · match its, xs, r with
    | a :: b, _, _ => rfl
    | [], [], _ => exact absurd rfl some
  have none := new e
  rw [show k.toNat = 0 by omega] at none
  have I' := I.laid (t' := s.toks) (o := .tup []) (fun b o q => Heap.get?_push_of_some _ q) (Nat.le_refl _) ⟨Nat.zero_le _, [], .nil, IsTup.new _ _⟩
  exact ⟨.ref s.heap.objs.size, _, I', rfl, none _ (I.hok.fresh (Nat.le_refl _))⟩
/-- a text times an int -/
def rRepS : R2 := fun x y H Q => ∃ z k, x = .str z ∧ y = .int k ∧ -1000 ≤ k ∧ k ≤ 1000 ∧ z.length ≤ 1000 ∧ Q (.str ⟨(List.replicate k.toNat z.cps.toList).flatten.toArray⟩) H
theorem rep_foldl (a : Array Nat) : ∀ (m : Nat) (b : Array Nat), (List.foldl (fun x1 x2 => x1 ++ x2) b (List.replicate m a)) = b ++ (List.replicate m a.toList).flatten.toArray
  | 0, b => by simp
  | m + 1, b => by
    rw [List.replicate_succ, List.replicate_succ, List.foldl_cons, rep_foldl a m, List.flatten_cons]
    apply Array.ext'
    simp
theorem op_repS : OpR X (binaryOp .Mult) rRepS := by
  intro pins s σ H x y v u Q I rx ry h
  obtain ⟨z, k, rfl, rfl, h1, h2, hz, q⟩ := h
  obtain ⟨t, rfl⟩ := rx
  obtain ⟨t', rfl⟩ := ry
  have c0 : (decide (k < -(2 ^ 63 : Int)) || decide (k ≥ 2 ^ 63)) = false := by
    rw [decide_eq_false (by omega), decide_eq_false (by omega)] <;> rfl
  have hm : z.length * k.toNat ≤ 1000 * 1000 := Nat.mul_le_mul hz (by omega)
  refine PySem.P.mul_str c0 (fun h _ => ?_) (fun _ _ => ?_) ?_
  · have a1 : (1000 : Int) ≤ (2 ^ 63 - 1) / k := by
      rw [Int.le_ediv_iff_mul_le (by omega)]
      omega
    omega
  · show decide (z.length * k.toNat > sizeLine) = false
    rw [sizeLine_eq]
    exact decide_eq_false (by omega)
  · by_cases hk : k < 1
    · rw [if_pos hk]
      have e0 : k.toNat = 0 := by omega
      rw [e0] at q
      exact ⟨by decide, .str _, H, I.tok _, ⟨_, rfl⟩, q⟩
    · rw [if_neg hk]
      by_cases hc : (k == 1 || z.length == 0) = true
      · rw [if_pos hc]
        have ez : (⟨(List.replicate k.toNat z.cps.toList).flatten.toArray⟩ : Str) = z := by
          rcases (Bool.or_eq_true _ _).mp hc with e | e
          · have e1 : k = 1 := beq_iff_eq.mp e
            subst e1
            show (⟨(List.replicate 1 z.cps.toList).flatten.toArray⟩ : Str) = z
            simp
          · have e1 : z.cps.toList = [] := by
              have e2 : z.cps.size = 0 := beq_iff_eq.mp e
              apply List.eq_nil_of_length_eq_zero
              rw [Array.length_toList]
              exact e2
            have e3 : z = ⟨#[]⟩ := by
              obtain ⟨c⟩ := z
              have : c = #[] := Array.toList_inj.mp (by rw [e1])
              rw [this]
            rw [e3]
            have e4 : (List.replicate k.toNat ([] : List Nat)).flatten = [] := by simp
            show (⟨(List.replicate k.toNat ([] : List Nat)).flatten.toArray⟩ : Str) = ⟨#[]⟩
            rw [e4]
        rw [ez] at q
        exact ⟨.str z, H, I, ⟨_, rfl⟩, q⟩
      · rw [if_neg hc, rep_foldl, Array.empty_append]
        refine ⟨?_, .str _, H, I.tok _, ⟨_, rfl⟩, q⟩
        show (List.replicate k.toNat z.cps.toList).flatten.toArray.size ≤ sizeLine
        rw [List.size_toArray, PyProof.Rows.lm_len_rep_flat, sizeLine_eq, Array.length_toList]
        have hm2 : k.toNat * z.cps.size ≤ 1000 * 1000 := Nat.mul_le_mul (by omega) hz
        omega
end
/-! ### sequences by data -/
/-- a list that stands by itself -/
def PLt (X : Cx) (δ : De) (ω : Om) (e : Expr) (ds : List PyData) : Prop :=
  ∀ σ H, Rl X.K H σ δ ω → ∀ Q : VK, (∀ p vs H', Same H H' → H' p = some (.lst vs) → DpAll X.K (hid (ads ω) H') vs ds → Q (.ref p) H') → wpe X e σ H Q
section
variable {X : Cx} {δ : De} {ω : Om} {a b c e : Expr} {es : List Expr} {d da db dc dz : PyData} {ds dt : List PyData} {pos p : Pos}
theorem PLt.pl (h : PLt X δ ω e ds) : PL X δ ω e ds := fun σ H r Q k => h σ H r Q fun p vs H' s h1 h2 => k p vs H' s (SqL.of h1) h2
theorem PN.plt (h : PN X δ ω e ds) : PLt X δ ω e ds := fun σ H r Q k => h σ H r Q fun p vs H' s _ h1 h2 => k p vs H' s h1 (dpam hid_cons h2)
theorem plt_var (i : Nat) {x : Str} {p : Addr} {xs : List PyData} (hm : (p, Od.lst (xs.map .im)) ∈ ω.os) (hd : δ[i]? = some (some (.ad p)) := by rfl) (hN : X.N[i]? = some x := by rfl) (hv : Vis X.env.scope x := by first | exact Or.inl rfl | exact Or.inr (Or.inl rfl) | exact Or.inr (Or.inr rfl))
    (h1 : (x == ("__debug__" : Str)) = false := by decide) (h2 : (x == ("__classdict__" : Str)) = false := by decide) : PLt X δ ω (.Name x pos) xs := fun σ H r Q k => by
  obtain ⟨v, e1, e2⟩ := r.sl i _ hd
  obtain ⟨vs, e3, e4⟩ := r.ro.ob _ _ hm
  have e2 : v = .ref p := e2
  subst e2
  exact we (pe_var hN hv h1 h2) ⟨_, e1, k p vs H (Same.refl H) e3 (dpa_im e4)⟩
theorem flat_one {α : Type} (n : Nat) (x : α) : (List.replicate n [x]).flatten = List.replicate n x := by
  induction n with
  | zero => rfl
  | succ n ih => rw [List.replicate_succ, List.flatten_cons, ih, List.replicate_succ] <;> rfl
theorem rd_repT {K : PySem.W.Frag} {k : Int} (hne : ds ≠ []) (h1 : -1000 ≤ k) (h2 : k ≤ 1000) (hz : ds.length ≤ 1000) : RD K (rRepA K) (.tuple ds) (.int k) (.tuple (List.replicate k.toNat ds).flatten) := fun ps x y H t hx hy Q q => by
  cases hy
  cases hx with
  | tup h3 h4 =>
    rename_i l vs
    have hl := dpa_len h4
    refine ⟨l, k, vs, rfl, rfl, same_sqt hid_sub h3, fun z => hne ?_, h1, h2, by omega, fun e => ?_, fun e p hp => ?_⟩
    · subst z
      exact List.eq_nil_of_length_eq_zero (by rw [← hl]; rfl)
    · have e1 : k.toNat = 1 := by omega
      rw [e1] at q
      have e2 : (List.replicate 1 ds).flatten = ds := by simp
      rw [e2] at q
      exact q _ H (Same.refl H) (.tup h3 h4)
    · exact q _ _ (same_new hp) (.tup (SqT.of (hid_of (new_out t hp) upd_same)) (dpam (hid_same (same_new hp)) (dpa_rep h4 _)))
theorem pd_repT {k : Int} (ha : PD X δ ω a (.tuple ds)) (hb : PD X δ ω b (.int k)) (hne : ds ≠ []) (h1 : -1000 ≤ k) (h2 : k ≤ 1000) (hz : ds.length ≤ 1000) : PD X δ ω (.BinOp a .Mult b pos) (.tuple (List.replicate k.toNat ds).flatten) := pd_op op_repA (rd_repT hne h1 h2 hz) ha hb
/-- (x,) * k -/
theorem pd_rep1 {k : Int} (ha : PD X δ ω a (.tuple [d])) (hb : PD X δ ω b (.int k)) (h1 : -1000 ≤ k) (h2 : k ≤ 1000) : PD X δ ω (.BinOp a .Mult b pos) (.tuple (List.replicate k.toNat d)) :=
  (pd_repT ha hb (by simp) h1 h2 (by simp)).eq (by rw [flat_one])
theorem rd_catT {K : PySem.W.Frag} (hz : ds.length + dt.length ≤ 10000) : RD K (rCatA K) (.tuple ds) (.tuple dt) (.tuple (ds ++ dt)) := fun ps x y H t hx hy Q q => by
  cases hx with
  | tup h3 h4 =>
    cases hy with
    | tup h5 h6 =>
      rename_i l vs m us
      have hl := dpa_len h4
      have hm := dpa_len h6
      refine ⟨l, m, vs, us, rfl, rfl, same_sqt hid_sub h3, same_sqt hid_sub h5, by rw [hl, hm, sizeLine_eq]; omega, fun z => ?_, fun _ z => ?_, fun _ _ p hp => ?_⟩
      · subst z
        cases h4
        exact q _ H (Same.refl H) (.tup h5 h6)
      · subst z
        cases h6
        rw [List.append_nil] at q
        exact q _ H (Same.refl H) (.tup h3 h4)
      · exact q _ _ (same_new hp) (.tup (SqT.of (hid_of (new_out t hp) upd_same)) (dpam (hid_same (same_new hp)) (dpa_app h4 h6)))
theorem pd_catT (ha : PD X δ ω a (.tuple ds)) (hb : PD X δ ω b (.tuple dt)) (hz : ds.length + dt.length ≤ 10000) : PD X δ ω (.BinOp a .Add b pos) (.tuple (ds ++ dt)) := pd_op op_catA (rd_catT hz) ha hb
theorem rd_repS {K : PySem.W.Frag} {z : Str} {k : Int} (h1 : -1000 ≤ k) (h2 : k ≤ 1000) (hz : z.length ≤ 1000) : RD K rRepS (.str z) (.int k) (.str ⟨(List.replicate k.toNat z.cps.toList).flatten.toArray⟩) := fun ps x y H t hx hy Q q => by
  cases hx
  cases hy
  exact ⟨z, k, rfl, rfl, h1, h2, hz, q _ H (Same.refl H) (.str _)⟩
theorem pd_repS {z : Str} {k : Int} (ha : PD X δ ω a (.str z)) (hb : PD X δ ω b (.int k)) (h1 : -1000 ≤ k) (h2 : k ≤ 1000) (hz : z.length ≤ 1000) : PD X δ ω (.BinOp a .Mult b pos) (.str ⟨(List.replicate k.toNat z.cps.toList).flatten.toArray⟩) := pd_op op_repS (rd_repS h1 h2 hz) ha hb
theorem pd_catS {y z : Str} (ha : PD X δ ω a (.str y)) (hb : PD X δ ω b (.str z)) (hz : y.length + z.length ≤ 100000) : PD X δ ω (.BinOp a .Add b pos) (.str (y ++ z)) := pd_op op_add_str (fun ps x w H t hx hy Q q => by
  cases hx
  cases hy
  exact ⟨y, z, rfl, rfl, Nat.le_trans hz (by rw [sizeLine_eq]; decide), q _ H (Same.refl H) (.str _)⟩) ha hb
theorem pn_cat (ha : PLt X δ ω a ds) (hb : PLt X δ ω b dt) (hz : ds.length + dt.length ≤ 10000) : PN X δ ω (.BinOp a .Add b pos) (ds ++ dt) := fun σ H rl Q k =>
  we (pe_op op_cat pe_w pe_w) (ha σ H rl _ fun q vs H1 s1 h1 d1 => hb σ H1 (rl.mono s1) _ fun r us H2 s2 h2 d2 =>
    ⟨q, r, vs, us, rfl, rfl, s2 q _ h1, h2, by rw [dpa_len d1, dpa_len d2, sizeLine_eq]; omega, fun p hp => k p _ _ ((s1.trans s2).trans (same_new hp)) ((s1.trans s2).free hp) upd_same (dpam (hid_new hp (same_new hp)) (dpa_app (dpam (hid_same s2) d1) d2))⟩)
theorem pn_rep {k : Int} (ha : PLt X δ ω a ds) (hb : PD X δ ω b (.int k)) (h1 : -1000 ≤ k) (h2 : k ≤ 1000) (hz : ds.length ≤ 1000) : PN X δ ω (.BinOp a .Mult b pos) (List.replicate k.toNat ds).flatten := fun σ H rl Q q =>
  we (pe_op op_rep pe_w pe_w) (ha σ H rl _ fun l vs H1 s1 h3 d1 => hb σ H1 (rl.mono s1) _ fun y H2 s2 d2 => by
    cases d2
    refine ⟨l, k, vs, rfl, rfl, s2 l _ h3, by omega, by omega, ?_, fun p hp => q p _ _ ((s1.trans s2).trans (same_new hp)) ((s1.trans s2).free hp) upd_same (dpam (hid_new hp (same_new hp)) (dpam (hid_same s2) (dpa_rep d1 _)))⟩
    have a1 : vs.length * k.toNat ≤ 1000 * 1000 := Nat.mul_le_mul (by rw [dpa_len d1]; exact hz) (by omega)
    rw [sizeLine_eq]
    omega)
theorem pn_rep1 {k : Int} (ha : PLt X δ ω a [d]) (hb : PD X δ ω b (.int k)) (h1 : -1000 ≤ k) (h2 : k ≤ 1000) : PN X δ ω (.BinOp a .Mult b pos) (List.replicate k.toNat d) := by
  have h := pn_rep (pos := pos) ha hb h1 h2 (by simp)
  rw [flat_one] at h
  exact h
/-! ### slices -/
def cutD (xs : List PyData) (lo hi : Option Int) : List PyData := (xs.drop (HT.sIx xs.length 0 lo)).take (HT.sIx xs.length xs.length hi - HT.sIx xs.length 0 lo)
theorem cut_dp {K : PySem.W.Frag} {H : Hp} {vs : List V} (h : DpAll K H vs ds) (lo hi : Option Int) : DpAll K H (cutV vs lo hi) (cutD ds lo hi) := by
  unfold cutV cutD
  rw [dpa_len h]
  exact dpa_take _ (dpa_drop _ h)
/-- a part of a slice -/
def PO1 (X : Cx) (δ : De) (ω : Om) : Option Expr → Option Int → Prop
  | none, o => o = none
  | some e, o => ∃ i, o = some i ∧ PD X δ ω e (.int i)
def wpo (X : Cx) : Option Expr → TO
  | none => tNoPart
  | some e => tPart (wpe X e)
theorem po_w {o : Option Expr} : PO X o (wpo X o) := by
  cases o with
  | none => exact po_none
  | some e => exact po_some pe_w
theorem po_run {o : Option Expr} {i : Option Int} (h : PO1 X δ ω o i) : ∀ σ H, Rl X.K H σ δ ω → ∀ Q : Option Int → Hp → Prop, (∀ H', Same H H' → Q i H') → wpo X o σ H Q := fun σ H rl Q k => by
  cases o with
  | none =>
    have e : i = none := h
    subst e
    exact k H (Same.refl H)
  | some e =>
    obtain ⟨j, e1, h1⟩ := h
    subst e1
    exact h1 σ H rl _ fun v H1 s1 d1 => by
      cases d1
      exact ⟨j, rfl, k H1 s1⟩
theorem pd_slT {lo hi : Option Expr} {i j : Option Int} {p2 : Pos} (ha : PD X δ ω a (.tuple ds)) (hl : PO1 X δ ω lo i) (hh : PO1 X δ ω hi j) : PD X δ ω (.Subscript a (.Slice lo hi none p2) pos) (.tuple (cutD ds i j)) := fun σ H rl Q k =>
  we (pe_slice sl_tupA pe_w po_w po_w) (ha σ H rl _ fun v H1 s1 d1 => po_run hl σ H1 (rl.mono s1) _ fun H2 s2 => po_run hh σ H2 (rl.mono (s1.trans s2)) _ fun H3 s3 => by
    have s13 := (s1.trans s2).trans s3
    have d3 := dpm (hid_same (s2.trans s3)) d1
    cases d3 with
    | tup h1 h2 =>
      rename_i l vs
      refine ⟨l, vs, rfl, same_sqt hid_sub h1, fun z => ?_, fun _ p hp => k _ _ (s13.trans (same_new hp)) (.tup (SqT.of (hid_of (new_out (there_mono rl.ro.there s13) hp) upd_same)) (dpam (hid_same (same_new hp)) (cut_dp h2 i j)))⟩
      have e : cutD ds i j = ds := by
        unfold cutD
        rw [← dpa_len h2, z.1, z.2, List.drop_zero, Nat.sub_zero, dpa_len h2, List.take_length]
      rw [e] at k
      exact k _ H3 s13 (.tup h1 h2))
theorem pn_slL {lo hi : Option Expr} {i j : Option Int} {p2 : Pos} (ha : PL X δ ω a ds) (hl : PO1 X δ ω lo i) (hh : PO1 X δ ω hi j) : PN X δ ω (.Subscript a (.Slice lo hi none p2) pos) (cutD ds i j) := fun σ H rl Q k =>
  we (pe_slice sl_list pe_w po_w po_w) (ha σ H rl _ fun l vs H1 s1 h1 d1 => po_run hl σ H1 (rl.mono s1) _ fun H2 s2 => po_run hh σ H2 (rl.mono (s1.trans s2)) _ fun H3 s3 =>
    ⟨l, vs, rfl, (s2.trans s3).seq h1, fun p hp => k p _ _ (((s1.trans s2).trans s3).trans (same_new hp)) (((s1.trans s2).trans s3).free hp) upd_same (dpam (hid_new hp (same_new hp)) (cut_dp (dpam (hid_same (s2.trans s3)) d1) i j))⟩)
/-! ### join -/
theorem dpa_strs {K : PySem.W.Frag} {H : Hp} : ∀ {ys : List Str} {vs : List V}, DpAll K H vs (ys.map .str) → vs = ys.map V.str
  | [], _, h => by
    cases h
    rfl
  | b :: bs, _, h => by
    cases h with
    | cons x y =>
      cases x
      rw [List.map_cons, dpa_strs y]
theorem pd_join {z : Str} {ys : List Str} {apos : Pos} (ha : PD X δ ω a (.str z)) (hb : PL X δ ω b (ys.map .str)) (hz : (ys.map (·.length)).sum + ys.length * z.length ≤ 16777216) (hs : starEach [b] X.env = [(false, eval b X.env)] := by rfl)
    (hbase : attributeBase a "join" X.env (eval a X.env) = eval a X.env := by rfl) (hline : (apos.endLine == pos.line) = true := by rfl) : PD X δ ω (.Call (.Attribute a "join" apos) [b] [] pos) (.str (Txt.join z ys)) := fun σ H rl Q k =>
  we (pe_join pe_w pe_w hs hbase hline) (ha σ H rl _ fun v H1 s1 d1 => by
    cases d1
    refine ⟨⟨_, rfl⟩, hb σ H1 (rl.mono s1) _ fun l vs H2 s2 h2 d2 => ?_⟩
    have e := dpa_strs d2
    subst e
    exact ⟨z, l, ys, rfl, rfl, .inl h2, hz, k _ H2 (s1.trans s2) (.str _)⟩)
end
end FP

namespace FP
open PySem PySem.Spec PyProof.Rows L2
/-! ### the law -/
def spL (K : PySem.W.Frag) (T : List (Addr × Str)) : Sp := fun vs H Q _ => ∃ (a : Addr) (ns : List Int), vs = [.ref a] ∧ SqL K H a (ns.map V.int) ∧ ns.length ≤ 63 ∧ (∀ z ∈ ns, Builtin.Int.intBits z ≤ 1048576) ∧ LamX.Tabs T H ∧ ∀ H', Q (.bl true) H'
theorem dpa_ints {K : PySem.W.Frag} {H : Hp} : ∀ ns : List Int, DpAll K H (ns.map V.int) (ns.map .int)
  | [] => .nil
  | n :: ns => .cons (.int n) (dpa_ints ns)
def FinT : Out → Prop
  | .rt (.im d) _ => d = .bool true
  | _ => False
theorem law_ok {P : Program} {w : World} {K : PySem.W.Frag} {mg : Str → Option Value} {base : Heap} {x qual y : Str} {params : Arguments} {body : List Stmt} {scope : Scope} {dV kV doc pm cdv ct oc : Value} {an od : Option Addr} {osl : Array (Option Value)} {f : Addr} {N : List Str} {k : Nat} {T : List (Addr × Str)}
    (lk : K.lookup f = some ⟨oc, od, .func (PySem.W.fnOf x qual params body scope dV kV doc pm an cdv ct), osl⟩) (hcd : PySem.W.codeIn K cdv qual = true) (S : FnScope N [y] scope)
    (hbody : ∀ (A : Around) (outer : List Env) (s : Shared) (H : Hp) (E : XK) (ns : List Int), Room k (A.deeper (envOfC qual scope s.heap.objs.size f cdv)) → ns.length ≤ 63 → (∀ z ∈ ns, Builtin.Int.intBits z ≤ 1048576) →
      SD (cxOf (L2N.CX P w) P w K mg base N qual scope f cdv A outer s H E) (WOf E) T body (startD N [.list (ns.map .int)]) ⟨[], []⟩ FinT) :
    FnOk P w K mg base (L2N.CX P w) (k + 1) f (PySem.W.fnOf x qual params body scope dV kV doc pm an cdv ct) [y] (spL K T) := by
  refine fn_of lk hcd S (fun vs H Q E h => ?_) (fun A outer s H vs Q E hr h => ?_)
  · obtain ⟨a, ns, rfl, _⟩ := h
    rfl
  · obtain ⟨a, ns, rfl, h1, h2, h3, h4, h5⟩ := h
    refine ⟨_, pss_w, hbody A outer s H E ns hr h2 h3 _ _ _ (start_rl (vs := [.ref a]) (.cons (.lst (by rw [hid_nil]; exact h1) (dpa_ints ns)) .nil) (fun _ z => nomatch z)) h4 ?_⟩
    refine ⟨fun _ _ _ _ z => False.elim z, fun r' ω' v H' z st l dv => ?_, fun _ _ _ _ z => False.elim z, fun _ _ _ _ z => False.elim z, fun _ _ _ _ z => False.elim z⟩
    cases r' with
    | im d =>
      have z : d = .bool true := z
      subst z
      cases dv
      exact h5 H'
    | ad a => exact False.elim z

/-! ### told: a lambda handed to a def that calls it -/
def TT0 : (XK → Hp → VK → Prop) → Hp → VK → Prop := fun tl H Q => tl (fun _ _ _ => False) H Q
theorem told0 {X : Cx} {Ng : List Str} {x a q : Str} {sg : Scope} {g : Addr} {cdg : Value} {p1 p2 p3 p8 : Pos} {hd : ExceptHandler} {hs : List ExceptHandler} (h0 : ∀ f : Addr, (L2.start Ng [V.ref f])[0]? = some (some (V.ref f))) :
    LamX.GivesTo X Ng x sg g cdg [.Try [.Return (some (.Call (.Name a p1) [] [] p2)) p3] (hd :: hs) [] [] p8] a q TT0 := by
  intro f c' s H Q tl act hc h
  refine ⟨_, pss_one (ps_try_thru0 (X := (cxOf C8.CX0 X.prog X.w X.K X.mg X.base Ng x sg g cdg X.A X.stack s H C8.E0).nox) (pss_one (ps_ret (pos := p3) (act (fun _ _ _ _ => False) [] (fun _ _ => False) (fun _ _ _ => False) p1 p2 LamX.takes0 (fun _ _ _ _ z => z))))), ?_⟩
  exact ⟨h0 f, hc, h⟩
/-- what the told rule asks of the maker's def -/
structure LamT (X : Cx) (T : List (Addr × Str)) : Prop where
  ex : ∃ c P, LamX.TabB X.base X.mg c P ∧ X.env.code = .ref c ∧ (P, X.env.qual ++ "<lambda>") ∈ T ∧ ∀ p ∈ T, p.1 = P → p.2 = X.env.qual ++ "<lambda>"
/-- the def that calls what it gets -/
structure Told (K : PySem.W.Frag) (mg : Str → Option Value) (x : Str) (st : Stmt) : Prop where
  ex : ∃ g fd, FunD K x x (defArgs st) (defBody st) (defScope st) [] [] g fd ∧ mg x = some (.ref g)
theorem extN_ke {T : List (Addr × Str)} (hT : T ≠ []) {H H' : Hp} (e : LamX.ExtN H H') : Ke T H H' := fun b o h p => e b o h (p.resolve_left hT)
theorem rl_ext {K : PySem.W.Frag} {T : List (Addr × Str)} {H H' : Hp} {σ : L2.St} {δ : De} {ω : Om} (e : LamX.ExtN H H') (hps : ω.ps = []) (rl : Rl K H σ δ ω) : Rl K H' σ δ ω := by
  have hh : LamX.ExtN (hid (ads ω) H) (hid (ads ω) H') := fun b o z n => hid_of (hid_out z).1 (e b o (hid_out z).2 n)
  have hk : Ke [(0, Str.ofString "")] (hid (ads ω) H) (hid (ads ω) H') := fun b o z p => hh b o z (p.resolve_left (by simp))
  have hsd : ∀ {r : Sd} {v : V}, SdV K (hid (ads ω) H) r v → SdV K (hid (ads ω) H') r v := fun {r v} z => by
    cases r with
    | im d => exact dp_ke hk d v z
    | ad a => exact z
  refine ⟨rl.len, fun i r h => ?_, fun a o h => ?_, rl.ro.nd, fun a h => ?_⟩
  · obtain ⟨v, h1, h2⟩ := rl.sl i r h
    exact ⟨v, h1, hsd h2⟩
  · have g := rl.ro.ob a o h
    cases o with
    | lst xs =>
      obtain ⟨vs, g1, g2⟩ := g
      exact ⟨vs, e a _ g1 (fun _ z => by cases z), L2.Paired.mapP g2 fun _ _ w => hsd w⟩
    | ins C fs =>
      obtain ⟨dx, vs, g1, g2⟩ := g
      exact ⟨dx, vs, e a _ g1 (fun _ z => by cases z), L2.Paired.mapP g2 fun _ _ w => ⟨w.1, hsd w.2⟩⟩
  · rw [hps] at h
    cases h
section
variable {X : Cx} {W : WX} {T : List (Addr × Str)} {δ : De} {ω : Om} {d : PyData} {pos p : Pos} {k : Nat} {R : Out → Prop}
theorem ex_told0 {x a : Str} {st : Stmt} {Ng : List Str} {p1 p2 p3 p8 lpos : Pos} {hd : ExceptHandler} {hs : List ExceptHandler} {params : Arguments} {body : Expr} {scope : Scope} (G : Told X.K X.mg x st) (L : LamT X T) (hT : T ≠ []) (hps : ω.ps = []) (hr : Room (k + 2) X.A)
    (hst : defBody st = [.Try [.Return (some (.Call (.Name a p1) [] [] p2)) p3] (hd :: hs) [] [] p8]) (S : FnScope Ng [a] (defScope st)) (hNg : Ng[0]? = some a) (hva : Vis (defScope st) a) (h0 : ∀ f : Addr, (L2.start Ng [V.ref f])[0]? = some (some (V.ref f)))
    (hbn : ∀ (kV doc pm : Value) (an : Option Addr) (cdv ct : Value) (us : List Value), us.length = [a].length → bindArgs (PySem.W.fnOf x x (defArgs st) (defBody st) (defScope st) .none kV doc pm an cdv ct) ⟨us, []⟩ = pure ([a].zip us))
    (hL : LamX.lamSB X.env.scope scope = true) (hdef : defaultsOf params X.env = ([], [])) (hbind : ∀ (q : Str) (cl : List (Str × Addr)) (pm cv ctv : Value), bindArgs (PySem.W.kla_fn "<lambda>" q params body scope cl pm cv ctv) ⟨[], []⟩ = pure [])
    (hb : ∀ (A : Around) (outer : List Env) (s : Shared) (H : Hp) (E : XK) (f c' : Addr), Room k (A.deeper (LamX.lamEnv X scope s.heap.objs.size f c')) → PD (LamX.lamCx X A outer s H E scope f c') δ ω body d) (hR : R (.rt (.im d) ω))
    (hg : Gl X x := by rfl) (hdb : (x == ("__debug__" : Str)) = false := by decide) (hd1 : (a == ("__debug__" : Str)) = false := by decide) (hcd1 : (a == ("__classdict__" : Str)) = false := by decide) : EX X W T (.Call (.Name x p) [.Lambda params body scope lpos] [] pos) δ ω R := fun σ H rl t Q q _ => by
  obtain ⟨g, fd, F, hm⟩ := G.ex
  obtain ⟨c, P, TB, hcode, hmT, hu⟩ := L.ex
  obtain ⟨oc, od, dV, kV, doc, pm, an, cdv, ct, osl, rfl, lk, hcd, hD, hK⟩ := F.ex
  have edV : dV = .none := by
    rcases hD with ⟨_, e⟩ | ⟨e, _⟩
    · exact e
    · exact absurd rfl e
  subst edV
  have hG : LamX.GivesTo X Ng x (defScope st) g cdv (defBody st) a (X.env.qual ++ "<lambda>") TT0 := by
    rw [hst]
    exact told0 h0
  refine we (LamX.pe_lamcall (T := T) (TT := TT0) (t := fun E σ H Q => ∀ (A : Around) (outer : List Env) (s : Shared) (H0 : Hp) (f c' : Addr), Room k (A.deeper (LamX.lamEnv X scope s.heap.objs.size f c')) → wpe (LamX.lamCx X A outer s H0 E scope f c') body σ H Q)
    hg hm F.kp lk hcd (F.bindsN hbn) S hNg hva hG TB hcode hmT hu hr (LamX.lamS_by hL) hdef hbind (fun A outer s H0 E f c' hr' => ⟨fun pins s' σ' H' Q' I h => pe_w.run pins s' σ' H' Q' I (h A outer s H0 f c' hr')⟩) hdb hd1 hcd1) ?_
  refine ⟨t, fun H1 eN T1 => ?_⟩
  show ∀ (A : Around) (outer : List Env) (s : Shared) (H0 : Hp) (f c' : Addr), Room k (A.deeper (LamX.lamEnv X scope s.heap.objs.size f c')) → wpe (LamX.lamCx X A outer s H0 (fun _ _ _ => False) scope f c') body σ H1 Q
  intro A outer s H0 f c' hr'
  have rl1 : Rl X.K H1 σ δ ω := rl_ext (T := T) eN hps rl
  refine hb A outer s H0 _ f c' hr' σ H1 rl1 Q fun v H2 s2 d2 => q _ ω v H2 hR ⟨fun b o h _ p => s2 b o (eN b o h (p.resolve_left hT)), fun a h => .inl h, rfl, fun _ => T1.ext s2⟩ (rl1.mono s2) d2
end
end FP

namespace FP
open PySem PySem.Spec PyProof.Rows L2
/-! ### raise -/
structure ExcF (K : PySem.W.Frag) (mg : Str → Option Value) (x : Str) (C : Addr) : Prop where
  xP : PySem.W.excIn K C He.veBase "ValueError.__new__" = true
  gP : mg x = some (.ref C)
  kP : PySem.W.keepIn K (.ref C) = true
  bP : PySem.W.subIn K (.ref C) (.type "BaseException") = some true
  tP : PySem.W.typeIn K (.ref C) = some (.type "type")
section
variable {X : Cx} {W : WX} {T : List (Addr × Str)} {δ : De} {ω : Om} {pos p : Pos} {R : Out → Prop} {ss : List Stmt}
theorem sd_raise {x m : Str} {C : Addr} {j : Nat} {p2 pos2 : Pos} (F : ExcF X.K X.mg x C) (tk : L2N.Takes X W) (hR : R (.ex C ω)) (hc : X.calm = true) (hg : Gl X x := by rfl) (hdb : (x == ("__debug__" : Str)) = false := by decide) :
    SD X W T (.Raise (some (.Call (.Name x p) [.Constant (.str m) j p2] [] pos)) none pos2 :: ss) δ ω R :=
  sd_cons fun σ H D rl t k => ws (L2N.ps_raise hc tk (L2N.pmk_own PySem.F.excBase_ValueError F.xP F.gP F.kP (raises_own F.bP F.tP) hg hdb)) (k.ex C ω σ H hR .refl rl.ro)
/-- a call as a statement: it may raise -/
theorem sd_callX {a : Expr} {es : List Expr} {x : Str} {k : Nat} {ds : List PyData} {fr : List PyData → Rs → Prop} {rr : Rs} {pos2 : Pos} (G : DefOk X.prog X.w X.K X.mg X.base k x fr) (hr : Room k X.A) (tk : L2N.Takes X W) (ha : PDs X δ ω (a :: es) ds) (hf : fr ds rr)
    (h1 : ∀ d, rr = .ok d → SD X W T ss δ ω R) (h2 : ∀ C, rr = .er C → R (.ex C ω)) (hg : Gl X x := by rfl)
    (hdb : (x == ("__debug__" : Str)) = false := by decide) (he : starEach (a :: es) X.env = (false, eval a X.env) :: starEach es X.env := by rfl) (hpl : (backTo pos (starEach es X.env)).any (·.1) = false := by rfl)
    (hs : swapsWith (.Call (.Name x p) (a :: es) [] pos) none pos2.line X.env = pure false := by rfl) : SD X W T (.Expr (.Call (.Name x p) (a :: es) [] pos) pos2 :: ss) δ ω R :=
  sd_exprX (ex_call G hr tk ha hf (by
    cases rr with
    | ok d => exact h1 d rfl
    | er C => exact h2 C rfl) hg hdb he hpl) hs
end
end FP

namespace FP
open PySem PySem.Spec PyProof.Rows L2
/-! ### data that may be compared -/
def Shp (n : Nat) (d : PyData) : Prop := d.canLay0 = true ∧ d.depth ≤ n
theorem shp_all {n : Nat} : ∀ {ds : List PyData}, (∀ x ∈ ds, Shp n x) → PyData.canLayAll0 ds = true ∧ PyData.depthAll ds ≤ n
  | [], _ => ⟨rfl, Nat.zero_le _⟩
  | x :: xs, h => by
    obtain ⟨a, b⟩ := shp_all (ds := xs) fun y hy => h y (List.mem_cons_of_mem _ hy)
    obtain ⟨c, d⟩ := h x List.mem_cons_self
    constructor
    · show (x.canLay0 && PyData.canLayAll0 xs) = true
      rw [c, a]
      rfl
    · show max x.depth (PyData.depthAll xs) ≤ n
      omega
theorem Shp.tup {n : Nat} {ds : List PyData} (h : ∀ x ∈ ds, Shp n x) : Shp (n + 1) (.tuple ds) := ⟨(shp_all h).1, by
  show PyData.depthAll ds + 1 ≤ n + 1
  have := (shp_all h).2
  omega⟩
theorem Shp.lst {n : Nat} {ds : List PyData} (h : ∀ x ∈ ds, Shp n x) : Shp (n + 1) (.list ds) := ⟨(shp_all h).1, by
  show PyData.depthAll ds + 1 ≤ n + 1
  have := (shp_all h).2
  omega⟩
theorem Shp.int {n : Nat} (i : Int) : Shp n (.int i) := ⟨rfl, Nat.zero_le _⟩
theorem Shp.non {n : Nat} : Shp n .none := ⟨rfl, Nat.zero_le _⟩
theorem Shp.bl {n : Nat} (b : Bool) : Shp n (.bool b) := ⟨rfl, Nat.zero_le _⟩
theorem Shp.str {n : Nat} {z : Str} (h : PyData.strOk z = true) : Shp n (.str z) := ⟨h, Nat.zero_le _⟩
theorem Shp.ok {n : Nat} {d : PyData} (h : Shp n d) (hn : n ≤ 64 := by decide) : SeqAt.shaped d = true := by
  unfold SeqAt.shaped
  rw [h.1, decide_eq_true (Nat.le_trans h.2 hn)]
  rfl
theorem Shp.refl {n : Nat} {d : PyData} (h : Shp n d) : PyData.eqv d d = true := SeqAt.eqv_refl d h.1
end FP

namespace FP
open PySem PySem.Spec PyProof.Rows L2
/-! ### expressions that make lambdas -/
def PX (X : Cx) (T : List (Addr × Str)) (δ : De) (ω : Om) (e : Expr) (d : PyData) : Prop := ∀ σ H, Rl X.K H σ δ ω → LamX.Tabs T H → ∀ Q : VK, (∀ v H', Stp T ω ω H H' → Rl X.K H' σ δ ω → Dp X.K (hid (ads ω) H') v d → Q v H') → wpe X e σ H Q
def PXt (X : Cx) (T : List (Addr × Str)) (δ : De) (ω : Om) (e : Expr) (k : Bool) : Prop := ∀ σ H, Rl X.K H σ δ ω → LamX.Tabs T H → ∀ Q : Bool → Hp → Prop, (∀ H', Stp T ω ω H H' → Rl X.K H' σ δ ω → Q k H') → wpt X e σ H Q
def PXw (X : Cx) (T : List (Addr × Str)) (δ : De) (ω : Om) (e : Expr) (k : Bool) : Prop := ∀ σ H, Rl X.K H σ δ ω → LamX.Tabs T H → ∀ Q : Bool → Hp → Prop, (∀ H', Stp T ω ω H H' → Rl X.K H' σ δ ω → Q k H') → wpw X e σ H Q
def PXs (X : Cx) (T : List (Addr × Str)) (δ : De) (ω : Om) (es : List Expr) (ds : List PyData) : Prop := ∀ σ H, Rl X.K H σ δ ω → LamX.Tabs T H → ∀ Q : List V → Hp → Prop, (∀ vs H', Stp T ω ω H H' → Rl X.K H' σ δ ω → DpAll X.K (hid (ads ω) H') vs ds → Q vs H') → wpa X es σ H Q
section
variable {X : Cx} {W : WX} {T : List (Addr × Str)} {δ : De} {ω : Om} {a b c e : Expr} {es r : List Expr} {d da db dz : PyData} {ds : List PyData} {pos p : Pos} {k x y : Bool} {R : Out → Prop} {ss sa sb : List Stmt}
theorem PD.px (h : PD X δ ω e d) : PX X T δ ω e d := fun σ H rl t Q q => h σ H rl Q fun v H' s dv => q v H' (.of s) (rl.mono s) dv
theorem PTd.xt (h : PTd X δ ω e k) : PXt X T δ ω e k := fun σ H rl t Q q => h σ H rl Q fun H' s => q H' (.of s) (rl.mono s)
theorem PXw.xt (h : PXw X T δ ω e k) : PXt X T δ ω e k := fun σ H rl t Q q => wt (PW.pt pw_w) (h σ H rl t Q q)
theorem xt_cmp {op : CmpOp} {r : R2} (ho : OpR X (compareOp op) r) (hr : RD X.K r da db (.bool k)) (ha : PX X T δ ω a da) (hb : PX X T δ ω b db) (hm : behindInMarks op b = false) : PXt X T δ ω (.Compare a [op] [b] pos) k := fun σ H rl t Q q =>
  wt (pt_cmpR ho pe_w pe_w hm) (ha σ H rl t _ fun x H1 s1 l1 d1 => hb σ H1 l1 (s1.tab t) _ fun y H2 s2 l2 d2 =>
    hr _ x y H2 l2.ro.there (dp_ke s2.seen da x d1) d2 _ fun z H3 s3 d3 => by
      cases d3
      exact ⟨_, rfl, q H3 ((s1.trans s2).trans (.of s3)) (l2.mono s3)⟩)
theorem xt_not (h : PXt X T δ ω e k) : PXt X T δ ω (.UnaryOp .Not e pos) (!k) := fun σ H rl t Q q => wt (pt_not pt_w) (h σ H rl t _ fun H1 s1 l1 => q H1 s1 l1)
theorem xw_or1 (h : PXt X T δ ω a k) : PXw X T δ ω (.BoolOp .Or [a] pos) k := fun σ H rl t Q q => ww (pw_or1 pt_w) (h σ H rl t Q q)
theorem xw_and1 (h : PXt X T δ ω a k) : PXw X T δ ω (.BoolOp .And [a] pos) k := fun σ H rl t Q q => ww (pw_and1 pt_w) (h σ H rl t Q q)
theorem xw_or (h : PXt X T δ ω a x) (h2 : x = false → PXw X T δ ω (.BoolOp .Or (b :: r) pos) y) : PXw X T δ ω (.BoolOp .Or (a :: b :: r) pos) (x || y) := fun σ H rl t Q q =>
  ww (pw_or pt_w pw_w) (h σ H rl t _ fun H1 s1 l1 => by
    cases x with
    | true => exact iteT (q H1 s1 l1)
    | false => exact iteF (h2 rfl σ H1 l1 (s1.tab t) Q fun H2 s2 l2 => q H2 (s1.trans s2) l2))
theorem xw_and (h : PXt X T δ ω a x) (h2 : x = true → PXw X T δ ω (.BoolOp .And (b :: r) pos) y) : PXw X T δ ω (.BoolOp .And (a :: b :: r) pos) (x && y) := fun σ H rl t Q q =>
  ww (pw_and pt_w pw_w) (h σ H rl t _ fun H1 s1 l1 => by
    cases x with
    | true => exact iteT (h2 rfl σ H1 l1 (s1.tab t) Q fun H2 s2 l2 => q H2 (s1.trans s2) l2)
    | false => exact iteF (q H1 s1 l1))
theorem sd_setx (i : Nat) {x : Str} {pos' : Pos} (he : PX X T δ ω e d) (hk : SD X W T ss (δ.set i (some (.im d))) ω R) (hN : X.N.Nodup) (hi : X.N[i]? = some x := by rfl) (hx : Loc X.env.scope x := by first | exact Or.inl rfl | exact Or.inr rfl) (hs : swapsWith e (some (.Name x pos')) pos.line X.env = pure false := by rfl)
    (hf : X.fn x = true ∨ X.env.scope.names.lookup x = some .local := by first | exact .inl rfl | exact .inr rfl | assumption) : SD X W T (.Assign [.Name x pos'] e pos :: ss) δ ω R :=
  sd_cons (s1_set i (fun σ H rl t Q q _ => he σ H rl t Q fun v H' s l dv => q (.im d) ω v H' hk s l dv) hN hi hx hs hf)
theorem sd_ifx {kk : Bool} (h : PXt X T δ ω c kk) (h1 : kk = true → SD X W T sa δ ω (Nxt X W T ss R)) (h2 : kk = false → SD X W T sb δ ω (Nxt X W T ss R)) : SD X W T (.If c sa sb pos :: ss) δ ω R :=
  sd_cons fun σ H D rl t k => ws (ps_if pt_w pss_w pss_w) (h σ H rl t _ fun H' s l => by
    cases kk with
    | true => exact iteT (h1 rfl σ H' D l (s.tab t) (k.step s))
    | false => exact iteF (h2 rfl σ H' D l (s.tab t) (k.step s)))
theorem sd_ifxF (h : PXt X T δ ω c false) (h2 : SD X W T ss δ ω R) : SD X W T (.If c sa [] pos :: ss) δ ω R := sd_ifx h (fun z => by cases z) fun _ => sd_nil h2
theorem pxs_nil : PXs X T δ ω [] [] := fun σ H rl t Q k => wa pa_nil (k [] H .refl rl .nil)
theorem pxs_cons (ha : PX X T δ ω e d) (hr : PXs X T δ ω es ds) (hs : starEach (e :: es) X.env = (false, eval e X.env) :: starEach es X.env := by rfl) : PXs X T δ ω (e :: es) (d :: ds) := fun σ H rl t Q k =>
  wa (pa_cons pe_w pa_w hs) (ha σ H rl t _ fun v H1 s1 l1 d1 => hr σ H1 l1 (s1.tab t) _ fun vs H2 s2 l2 d2 => k (v :: vs) H2 (s1.trans s2) l2 (.cons (dp_ke s2.seen d v d1) d2))
end
section
variable {X : Cx} {T : List (Addr × Str)} {δ : De} {ω : Om} {d : PyData} {pos p : Pos} {k : Nat}
theorem px_told0 {x a : Str} {st : Stmt} {Ng : List Str} {p1 p2 p3 p8 lpos : Pos} {hd : ExceptHandler} {hs : List ExceptHandler} {params : Arguments} {body : Expr} {scope : Scope} (G : Told X.K X.mg x st) (L : LamT X T) (hT : T ≠ []) (hps : ω.ps = []) (hr : Room (k + 2) X.A)
    (hst : defBody st = [.Try [.Return (some (.Call (.Name a p1) [] [] p2)) p3] (hd :: hs) [] [] p8]) (S : FnScope Ng [a] (defScope st)) (hNg : Ng[0]? = some a) (hva : Vis (defScope st) a) (h0 : ∀ f : Addr, (L2.start Ng [V.ref f])[0]? = some (some (V.ref f)))
    (hbn : ∀ (kV doc pm : Value) (an : Option Addr) (cdv ct : Value) (us : List Value), us.length = [a].length → bindArgs (PySem.W.fnOf x x (defArgs st) (defBody st) (defScope st) .none kV doc pm an cdv ct) ⟨us, []⟩ = pure ([a].zip us))
    (hb : ∀ (A : Around) (outer : List Env) (s : Shared) (H : Hp) (E : XK) (f c' : Addr), Room k (A.deeper (LamX.lamEnv X scope s.heap.objs.size f c')) → PD (LamX.lamCx X A outer s H E scope f c') δ ω body d)
    (hL : LamX.LamS X.env.scope scope) (hdef : defaultsOf params X.env = ([], []) := by rfl) (hbind : ∀ (q : Str) (cl : List (Str × Addr)) (pm cv ctv : Value), bindArgs (PySem.W.kla_fn "<lambda>" q params body scope cl pm cv ctv) ⟨[], []⟩ = pure [] := by intros; rfl)
    (hg : Gl X x := by rfl) (hdb : (x == ("__debug__" : Str)) = false := by decide) (hd1 : (a == ("__debug__" : Str)) = false := by decide) (hcd1 : (a == ("__classdict__" : Str)) = false := by decide) : PX X T δ ω (.Call (.Name x p) [.Lambda params body scope lpos] [] pos) d := fun σ H rl t Q q => by
  obtain ⟨g, fd, F, hm⟩ := G.ex
  obtain ⟨c, P, TB, hcode, hmT, hu⟩ := L.ex
  obtain ⟨oc, od, dV, kV, doc, pm, an, cdv, ct, osl, rfl, lk, hcd, hD, hK⟩ := F.ex
  have edV : dV = .none := by
    rcases hD with ⟨_, e⟩ | ⟨e, _⟩
    · exact e
    · exact absurd rfl e
  subst edV
  have hG : LamX.GivesTo X Ng x (defScope st) g cdv (defBody st) a (X.env.qual ++ "<lambda>") TT0 := by
    rw [hst]
    exact told0 h0
  refine we (LamX.pe_lamcall (T := T) (TT := TT0) (t := fun E σ H Q => ∀ (A : Around) (outer : List Env) (s : Shared) (H0 : Hp) (f c' : Addr), Room k (A.deeper (LamX.lamEnv X scope s.heap.objs.size f c')) → wpe (LamX.lamCx X A outer s H0 E scope f c') body σ H Q)
    hg hm F.kp lk hcd (F.bindsN hbn) S hNg hva hG TB hcode hmT hu hr hL hdef hbind (fun A outer s H0 E f c' hr' => ⟨fun pins s' σ' H' Q' I h => pe_w.run pins s' σ' H' Q' I (h A outer s H0 f c' hr')⟩) hdb hd1 hcd1) ?_
  refine ⟨t, fun H1 eN T1 => ?_⟩
  show ∀ (A : Around) (outer : List Env) (s : Shared) (H0 : Hp) (f c' : Addr), Room k (A.deeper (LamX.lamEnv X scope s.heap.objs.size f c')) → wpe (LamX.lamCx X A outer s H0 (fun _ _ _ => False) scope f c') body σ H1 Q
  intro A outer s H0 f c' hr'
  have rl1 : Rl X.K H1 σ δ ω := rl_ext (T := T) eN hps rl
  refine hb A outer s H0 _ f c' hr' σ H1 rl1 Q fun v H2 s2 d2 => q v H2 ⟨fun b o h _ p => s2 b o (eN b o h (p.resolve_left hT)), fun a h => .inl h, rfl, fun _ => T1.ext s2⟩ (rl1.mono s2) d2
end
end FP

namespace FP
open PySem PySem.Spec PyProof.Rows L2
/-! ### the law's end -/
theorem law_at {l : PySem.W.OpenLaw} {w : World} {K : PySem.W.Frag} {mg : Str → Option Value} {h : Heap} {fa : List He.Fa} {fn : List He.DefD} {ex : PySem.W.Frag → Bool} {params : Arguments} {body : List Stmt} {scope : Scope} {f : Addr} {N : List Str} {k : Nat} {x : Str}
    (KX : K.In h) (G : h.Ns mainGlobals mg) (hfa : mg "law" = some (.ref f)) (c : He.SaysX fa fn [] [("law", none)] ex w h K) (hd : (⟨("law", none), "law", "law", params, body, scope, [], []⟩ : He.DefD) ∈ fn) (hg : He.Fa.glo "law" ∈ fa) (S : FnScope N [x] scope)
    (hb : ∀ (kV doc pm : Value) (an : Option Addr) (cdv ct : Value) (us : List Value), us.length = [x].length → bindArgs (PySem.W.fnOf "law" "law" params body scope .none kV doc pm an cdv ct) ⟨us, []⟩ = pure ([x].zip us))
    (hbody : ∀ (base : Heap), K.In base → base.Ns mainGlobals mg → ∀ (T : List (Addr × Str)) (cdv : Value) (A : Around) (outer : List Env) (s : Shared) (H : Hp) (E : XK) (ns : List Int), T ≠ [] → LamT (cxOf (L2N.CX l.prog w) l.prog w K mg base N "law" scope f cdv A outer s H E) T →
      Room k (A.deeper (envOfC "law" scope s.heap.objs.size f cdv)) → ns.length ≤ 63 → (∀ z ∈ ns, Builtin.Int.intBits z ≤ 1048576) →
      SD (cxOf (L2N.CX l.prog w) l.prog w K mg base N "law" scope f cdv A outer s H E) (WOf E) T body (startD N [.list (ns.map .int)]) ⟨[], []⟩ FinT) :
    LamX.LawAtS l w K (L2N.CX l.prog w) (k + 1) 63 x mg f h := by
  have cd := c.t.d
  obtain ⟨fd, F⟩ := cd.defs hd
  have e := hfa.symm.trans (He.glo_ok KX G (cd.facts hg))
  cases e
  obtain ⟨oc, od, dV, kV, doc, pm, an, cdv, ct, osl, rfl, lk, hcd, hD, hK⟩ := F.ex
  have edV : dV = .none := by
    rcases hD with ⟨_, e⟩ | ⟨e, _⟩
    · exact e
    · exact absurd rfl e
  subst edV
  obtain ⟨cc, rfl⟩ := He.codeIn_ref hcd
  have ec : He.codeOf K ("law", none) = cc := He.codeOf_eq lk rfl
  have mem : (("law", none) : He.Defn) ∈ ([("law", none)] : List He.Defn) := List.mem_singleton.mpr rfl
  have hbA := FunD.bindsA (ps := [x]) F hb
  refine ⟨_, [He.cT K ("law", none)], spL K [((He.cT K ("law", none)).2, (Str.ofString "law" ++ ".<locals>.") ++ "<lambda>")], fun p hp => ?_, fun p hp => ?_, fun p hp => ?_, fun s u => hbA s [u] rfl, fun H a ns h1 h2 h3 h4 => ?_, fun base hB hN hTB => ?_⟩
  · rw [List.mem_singleton.mp hp]
    exact c.empty _ mem
  · rw [List.mem_singleton.mp hp]
    exact c.out _ mem
  · rw [List.mem_singleton.mp hp]
    exact PySem.W.codeHd_of_K KX (c.hd _ mem)
  · refine ⟨a, ns, rfl, h4, h1, h2, fun p hp => ?_, fun _ => rfl⟩
    rw [List.mem_singleton.mp hp]
    exact LamX.TabS.nil (h3 _ (List.mem_singleton.mpr rfl))
  · refine law_ok lk hcd S fun A outer s H E ns hr h1 h2 => hbody base hB hN _ (.ref cc) A outer s H E ns (by simp) ⟨cc, (He.cT K ("law", none)).2, ?_, rfl, List.mem_singleton.mpr rfl, fun p hp _ => by rw [List.mem_singleton.mp hp]; rfl⟩ hr h1 h2
    have z := hTB _ (List.mem_singleton.mpr rfl)
    have e1 : (He.cT K ("law", none)).1 = cc := ec
    rw [← e1]
    exact z
theorem cx_none {P : Program} {w : World} {H : Hp} {s : Shared} {e : Value} {s' : Shared} (h : L2N.CX P w [] H s (fun _ _ _ => False) e s') : False := by
  obtain ⟨_, _, _, _, _, _, _, _, _, _, _, _, z⟩ := h
  exact z.elim
theorem exc_of {K : PySem.W.Frag} {mg : Str → Option Value} {h : Heap} (KX : K.In h) (G : h.Ns mainGlobals mg) {x : Str} (c1 : (He.Fa.glo x).ok K = true) (c2 : (He.Fa.exc x).ok K = true) : ExcF K mg x (He.ga K x) := by
  obtain ⟨a, b, c, d⟩ := He.exc_ok c2
  exact ⟨a, He.glo_ok KX G c1, b, c, d⟩
theorem gld_int {K : PySem.W.Frag} {mg : Str → Option Value} {h : Heap} (KX : K.In h) (G : h.Ns mainGlobals mg) {x : Str} {i : Int} (c : (He.Fa.int x i).ok K = true) : GlD K mg x (.int i) := by
  obtain ⟨t, e⟩ := He.int_ok KX G c
  exact ⟨.int i, _, e, ⟨t, rfl⟩, fun _ => .int i⟩
end FP

namespace FP
open PySem PySem.Spec PyProof.Rows L2 HotX L2H
/-! ### while an exception is handled: a list is walked to its end -/
section
variable {prog : Program} {w : World} {A : Around} {E : Value → Shared → Prop} {s : Shared}
theorem next_end_hot {it l p : Addr} {i : Nat} {items : Array Value} {Q : Option Value → Shared → Prop} (hot : HotAt A p s.heap) (hp : p ≠ it) (hi : s.heap.IsListIter it l i) (hl : s.heap.IsList l items) (hx : items[i]? = none)
    (hQ : ∀ h', (∀ b o, b ≠ it → s.heap.get? b = some o → h'.get? b = some o) → Q none { s with heap := h' }) : wpAny (model prog w) A (pyNext (.ref it)) Q E s := by
  obtain ⟨oi, gi, ci, di⟩ := id hi
  obtain ⟨ol, gl, _, nl, dl⟩ := hl
  obtain ⟨hh, oe, ve, ge, de, ce⟩ := hot
  unfold pyNext
  refine wpAny_bind (wpAny_attempt (wpAny_callSpecial?_slot (name := Str.ofString "__next__") hi.typeIs slot_listiter_next (wpAny_call_entry slot_listiter_next hi.typeIs entry_listiter_next ?_ (args_listiter_next _))))
  show wpAny _ _ (field (.ref it) 0 >>= _) _ _ s
  refine wpAny_bind (wpAny_field gi di (x := .ref l) rfl ?_)
  show wpAny _ _ (if (Value.ref l == Value.none) = true then _ else _) _ _ s
  rw [if_neg (c := (Value.ref l == Value.none) = true) Bool.false_ne_true]
  show wpAny _ _ (field (.ref it) 1 >>= _) _ _ s
  refine wpAny_bind (wpAny_field gi di (x := .int i 0) rfl ?_)
  show wpAny _ _ (seqItems? (.ref l) >>= _) _ _ _
  refine wpAny_bind (wpAny_seqItems gl dl ?_)
  simp only [Int.toNat_natCast, hx]
  refine wpAny_bind (wpAny_rule (wpAny_bind (wpAny_setField gi di (by simp) ?_)))
  show wpAny _ _ (newExc (.type "StopIteration") [] >>= fun e => raiseNew e) _ _ _
  have ge1 : (s.heap.update it (Obj.mapFields (·.setIfInBounds 0 Value.none))).get? p = some oe := (Heap.get?_update_other _ _ (Ne.symm hp)).trans ge
  have old : ∀ b o, b ≠ it → s.heap.get? b = some o → (s.heap.update it (Obj.mapFields (·.setIfInBounds 0 Value.none))).get? b = some o := fun b o n z => (Heap.get?_update_other _ _ (Ne.symm n)).trans z
  refine wpAny_bind ?_
  simp only [newExc, newTuple]
  refine wpAny_bind (wpAny_newObj_type (wpAny_bind (m := firstArgMember _ _) (wpAny_of_eq (a := Value.none) (by first | rfl | (simp only [firstArgMember]; rfl)) (wpAny_newObj_type ?_ (by size_fits)))) (by size_fits))
  refine raiseNew_hot ⟨hh, oe, ve, Heap.get?_push_of_some _ (Heap.get?_push_of_some _ ge1), de, ce⟩ (Nat.ne_of_lt (Heap.lt_size (Heap.get?_push_of_some _ ge1))) (Heap.get?_push_size _ rfl) rfl (by first | (simp; done) | (simp; omega) | (simp only [Array.size_append]; simp; omega)) ?_
  refine wpAny_bind (wpAny_isInstance (T := "StopIteration") (b := true) ⟨_, Heap.get?_update_self _ (Heap.get?_push_size _ rfl) rfl, rfl⟩ isSubtype_stop (wpAny_pure (hQ _ fun b o n z => ?_)))
  rw [Heap.get?_update_other _ _ (Nat.ne_of_gt (Heap.lt_size (Heap.get?_push_of_some _ (old b o n z))))]
  exact Heap.get?_push_of_some _ (Heap.get?_push_of_some _ (old b o n z))
end
end FP

namespace FP
open PySem PySem.Spec PyProof.Rows L2 HotX L2H
/-- a list that is walked while p is handled -/
theorem walk_hot {prog : Program} {w : World} {A : Around} {it l p : Addr} {items : Array Value} (hl : l ≠ it) (hp : p ≠ it) :
    WalksS prog w A it [it, l, p] [it] (fun a b => b = a) items.size (fun i v => items[i]? = some v) (fun i s => s.heap.IsListIter it l i ∧ s.heap.IsList l items ∧ HotAt A p s.heap) where
  sub := fun b hb => by
    rw [List.mem_singleton.mp hb]
    exact List.mem_cons_self
  grefl := fun _ => rfl
  gtrans := fun _ _ _ a b => b.trans a
  frame := fun i s h' tk st _ k => by
    obtain ⟨s1, s2, hh, oe, ve, ge, de, ce⟩ := st
    exact ⟨s1.at fun o e => k it (by simp) o e, s2.at fun o e => k l (by simp) o e, hh, oe, ve, k p (by simp) _ ge, de, ce⟩
  item := fun i s Q E hi st q => by
    obtain ⟨s1, s2, hh, oe, ve, ge, de, ce⟩ := st
    refine wpAny_pyNext_list_item s1 s2 (x := items[i]) (by simp [hi]) fun h' t sb => q _ _ (by simp [hi]) ⟨t, s2.extBut sb.extBut hl, hh, oe, ve, (sb.2 p hp).trans ge, de, ce⟩ ⟨fun b o hb e => (sb.2 b fun z => hb (by simp [z])).trans e, rfl, rfl, rfl, Nat.le_refl _⟩
  done := fun s Q E st q => by
    obtain ⟨s1, s2, h⟩ := st
    exact next_end_hot h hp s1 s2 (by simp) fun h' k => q _ ⟨fun b o hb e => k b o (fun z => hb (by simp [z])) e, rfl, rfl, rfl, Nat.le_refl _⟩
  self := fun _ _ _ _ st h => wpAny_pyIter_listiter st.1 h
theorem preSum_take {f : Nat → Int} {ns : List Int} (h : ∀ i, i < ns.length → f i = ns.getD i 0) : ∀ j, j ≤ ns.length → preSum f j = (ns.take j).sum
  | 0, _ => by simp [preSum]
  | j + 1, hj => by
    have e : ns.take (j + 1) = ns.take j ++ [ns.getD j 0] := by
      rw [List.take_add_one]
      simp [List.getElem?_eq_getElem (show j < ns.length by omega)]
    rw [preSum, preSum_take h j (by omega), h j (by omega), e, List.sum_append]
    simp
/-- sum(xs) of a list of whole numbers, while an exception is handled -/
theorem cr_sumH {X : Cx} (hc : HotC X) : CallR X (.builtin "sum") (rSum X.K) := by
  intro pins s σ H vs us Q I r h
  obtain ⟨a, ns, rfl, hs, q⟩ := h
  obtain ⟨its, rv, hl, _⟩ := I.list hs
  obtain ⟨p, hh, oe, ve, ge, de, ce⟩ := hc.at I
  rw [Vals.ref1 r]
  have lt : a < s.heap.objs.size := by
    obtain ⟨_, e, _⟩ := hl.isList
    exact Heap.lt_size e
  have ltp : p < s.heap.objs.size := Heap.lt_size ge
  have len : its.length = ns.length := by
    rw [← rv.length, List.length_map]
  refine call_sum_walkAnyS (wpAny_pyIter_list hl.isList ?_)
  refine ⟨_, _, _, _, _, _, _, fun i => ns.getD i 0, rfl, walk_hot (l := a) (p := p) (items := its.toArray) (Nat.ne_of_lt lt) (Nat.ne_of_lt ltp), ⟨⟨_, Heap.get?_push_size _ rfl, rfl, rfl⟩, hl.isList.push _, hh, oe, ve, Heap.get?_push_of_some _ ge, de, ce⟩, fun b hb => ?_, fun i v hv => ?_, fun s' t' m => ?_⟩
  · rw [Heap.size_push]
    rcases List.mem_cons.mp hb with z | hb
    · rw [z]
      exact Nat.lt_succ_self _
    · rcases List.mem_cons.mp hb with z | hb
      · rw [z]
        exact Nat.lt_succ_of_lt lt
      · rw [List.mem_singleton.mp hb]
        exact Nat.lt_succ_of_lt ltp
  · have hi : i < ns.length := by
      have := (Array.getElem?_eq_some_iff.mp hv).1
      simp at this
      omega
    have e1 : (ns.map V.int)[i]? = some (V.int (ns.getD i 0)) := by
      rw [List.getElem?_map, List.getElem?_eq_getElem hi, List.getD_eq_getElem?_getD, List.getElem?_eq_getElem hi]
      rfl
    obtain ⟨u, hu, ru⟩ := rv.get e1
    have e2 : some v = some u := by
      rw [← hv, ← hu]
      simp
    cases e2
    exact ru
  · have e := preSum_take (f := fun i => ns.getD i 0) (ns := ns) (fun _ _ => rfl) ns.length (Nat.le_refl _)
    have e2 : its.toArray.size = ns.length := by simp [len]
    rw [e2, e, List.take_length]
    obtain ⟨m1, m2, m3, m4, m5⟩ := m
    obtain ⟨h', g', d', k', o'⟩ := s'
    cases m2
    cases m3
    cases m4
    exact ⟨.int _, H, I.kept (h' := h') (t' := k') fun b o z => m1 b o (fun n => by
      rw [List.mem_singleton.mp n] at z
      exact absurd (Heap.lt_size z) (Nat.lt_irrefl _)) (Heap.get?_push_of_some _ z), ⟨_, rfl⟩, q⟩
end FP

namespace FP
open PySem PySem.Spec PyProof.Rows L2 HotX L2H
/-- [elt for name in a list], while an exception is handled; what comes out lies on no heap -/
def tLh (K : PySem.W.Frag) (j : Nat) (tl te : TE) : TE := fun σ H Q => tl σ H fun v G => ∃ (a : Addr) (xs ys : List V), v = .ref a ∧ SqL K G a xs ∧ ys.length = xs.length ∧ xs.length ≤ 1000 ∧
  (∀ (i : Nat) (x y : V), xs[i]? = some x → ys[i]? = some y → ∀ G1, Same G G1 → ∀ R : VK, (∀ G2, Same G1 G2 → R y G2) → te (σ.set j (some x)) G1 R) ∧
  ∀ D G1, G D = none → Same G G1 → G1 D = some (.lst ys) → Q (.ref D) G1
section
variable {X : Cx}
theorem pe_lcH {elt l : Expr} {scope : Scope} {y : Str} {py pos : Pos} {j : Nat} {tl te : TE} (hc : HotC X) (hN : X.N.Nodup) (hl : PE X l tl) (ok : BlkOk X.N X.env.scope scope [(y, j)])
    (hg : ∀ (s : Shared) (H : Hp) (C : Addr) (cl : List (Str × Addr)) (fp : List Addr), PG (X.blk s H scope (compEnvC scope cl C X.env) fp) (.Name y py) (gName j))
    (he : ∀ (s : Shared) (H : Hp) (C : Addr) (cl : List (Str × Addr)) (fp : List Addr), PE (X.blk s H scope (compEnvC scope cl C X.env) fp) elt te)
    (hs : ∀ x, foldedSetIterable l X.env x = pure x := by intro _; rfl) : PE X (.ListComp elt [⟨.Name y py, l, [], 0⟩] scope pos) (tLh X.K j tl te) := by
  refine ⟨fun pins s0 σ H Q I h => ?_⟩
  have clo : ∀ z ∈ scope.names, z.2 = .free → ∃ c, X.env.cells.lookup z.1 = some c := fun z hz e => I.ok.has _ ((ok.free z hz e).elim .inl .inr)
  rw [eval_ListComp]
  refine wpAny_comprehension_free (use := none) rfl hs (closure_ok clo) ok.kind (fun z hz e => by rw [ok.uniq z hz, e]) (thn (hl.run pins s0 σ H _ I h) fun lv sa hx => ?_)
  obtain ⟨v, G, Ia, rv, a, xs, ys, ev, hsq, hlen, hsm, hstep, hend⟩ := hx
  subst ev
  obtain rfl : lv = Value.ref a := rv
  obtain ⟨its, rits, pl, _⟩ := Ia.list hsq
  obtain ⟨pp, hot1, hpn⟩ := hc
  have PP := Ia.pin pp (List.mem_append_left _ hpn)
  obtain ⟨hh, ve, de, ce⟩ := hot1
  -- the iterator, then the new list
  refine wpAny_pyIter_list pl.isList (wpAny_newObj_type (newEnv_comp ?_) (by show 0 ≤ sizeLine; decide))
  generalize eI : sa.heap.objs.size = it
  have fI : FpOk X pins G it := Ia.fpOk (Nat.le_of_eq eI) (Ia.hok.fresh (Nat.le_of_eq eI))
  generalize eb : ({ sa with heap := sa.heap.push { cls := .type "list_iterator", data := .fields #[.ref a, .int 0 0] } } : Shared) = sb
  have hb : sb.heap = sa.heap.push { cls := .type "list_iterator", data := .fields #[.ref a, .int 0 0] } := by rw [← eb]
  have Ib : Inv X pins σ G sb := by
    rw [← eb]
    exact Ia.kept (t' := sa.toks) fun b o e => Heap.get?_push_of_some _ e
  have turn0 : sb.heap.IsListIter it a 0 := by
    rw [hb, ← eI]
    exact ⟨_, Heap.get?_push_size _ rfl, rfl, rfl⟩
  have szI : it < sb.heap.objs.size := by
    obtain ⟨_, e, _⟩ := turn0
    exact Heap.lt_size e
  generalize eD : sb.heap.objs.size = D
  have nD : G D = none := Ib.hok.fresh (Nat.le_of_eq eD)
  have ItD : it ≠ D := by
    rw [← eD]
    exact Nat.ne_of_lt szI
  generalize ec : ({ sb with heap := sb.heap.push { cls := .type "list", data := .seq ([] : List Value).toArray } } : Shared) = sc
  have hcH : sc.heap = sb.heap.push { cls := .type "list", data := .seq ([] : List Value).toArray } := by rw [← ec]
  have Ic : Inv X pins σ (upd G D (.lst [])) sc := by
    rw [← ec]
    refine Ib.laid (t' := sb.toks) (fun b o e => Heap.get?_push_of_some _ e) (Nat.le_of_eq eD) ⟨Nat.zero_le _, [], 0, .nil, ?_⟩
    rw [← eD]
    exact Heap.get?_push_size _ rfl
  have fIc : FpOk X pins (upd G D (.lst [])) it := ⟨by rw [upd_ne ItD]; exact fI.1, fI.2⟩
  have szc : it < sc.heap.objs.size := by
    rw [hcH, Heap.size_push]
    exact Nat.lt_succ_of_lt szI
  have all1 : ∀ b ∈ [it], FpOk X pins (upd G D (.lst [])) b ∧ b < sc.heap.objs.size := fun b hb1 => by
    rw [List.mem_singleton.mp hb1]
    exact ⟨fIc, szc⟩
  have Id := block_start Ic ok hN all1
  have pg := hg sc (upd G D (.lst [])) sc.heap.objs.size (cellsFrom (sc.heap.objs.size + 1) scope.names (cloFrom X.env.cells scope.names [])) [it]
  have pe := he sc (upd G D (.lst [])) sc.heap.objs.size (cellsFrom (sc.heap.objs.size + 1) scope.names (cloFrom X.env.cells scope.names [])) [it]
  have PPc := Ic.pin pp (List.mem_append_left _ hpn)
  have nPit : pp.1 ≠ it := fI.2.2.2.2.2 pp (List.mem_append_left _ hpn)
  have nPstk : pp.1 ∉ frs X.stack := fun z => (List.mem_cons.mp (Ic.stkSub pp.1 z)).elim PPc.2.2.1 PPc.2.2.2.1
  show codeAny _ _ (.compStart (.ListComp elt [⟨.Name y py, l, [], 0⟩] scope pos) 0 (.ref it) (.ref D) (compEnvC scope (cellsFrom (sc.heap.objs.size + 1) scope.names (cloFrom X.env.cells scope.names [])) sc.heap.objs.size X.env)) (compPost (model X.prog X.w) X.A X.xe none _ (.ref D) sc.heap.objs.size) { sc with heap := pushCells (sc.heap.push { cls := .type "dict", data := .dict #[] }) scope.names }
  generalize eE : compEnvC scope (cellsFrom (sc.heap.objs.size + 1) scope.names (cloFrom X.env.cells scope.names [])) sc.heap.objs.size X.env = ce1 at Id pg pe ⊢
  have eL : ce1.locals = sc.heap.objs.size := by
    subst eE
    rfl
  generalize ed : ({ sc with heap := pushCells (sc.heap.push { cls := .type "dict", data := .dict #[] }) scope.names } : Shared) = sd at Id ⊢
  have turnD : sd.heap.IsListIter it a 0 := turn0.at fun o e => by
    rw [← ed]
    refine pushCells_keeps _ _ _ _ (Heap.get?_push_of_some _ ?_)
    rw [hcH]
    exact Heap.get?_push_of_some _ e
  -- what holds at the i-th turn
  have hotIn : ∀ {σ' : L2.St} {H' : Hp} {s' : Shared} {pins' : List (Addr × Obj)}, Inv (X.blk sc (upd G D (.lst [])) scope ce1 [it]) pins' σ' H' s' → HotAt X.A pp.1 s'.heap := fun {σ' H' s' pins'} J =>
    ⟨hh, pp.2, ve, J.base.keep pp.1 pp.2 PPc.1 PPc.2.1 nPstk (fun z => nPit (List.mem_singleton.mp z)), de, ce⟩
  have free1 : ∀ {σ' : L2.St} {H' : Hp} {s' : Shared}, Inv (X.blk sc (upd G D (.lst [])) scope ce1 [it]) [] σ' H' s' → H' it = none → FpOk (X.blk sc (upd G D (.lst [])) scope ce1 [it]) [] H' it := fun {σ' H' s'} J n =>
    ⟨n, (J.ok.exf it List.mem_cons_self).1, J.ok.exfs it List.mem_cons_self, .inl List.mem_cons_self, (J.ok.exf it List.mem_cons_self).2, fun q hq => nomatch (show q ∈ ([] : List (Addr × Obj)) from hq)⟩
  have sqIn : ∀ {H' : Hp}, (∀ b o, b ≠ D → G b = some o → H' b = some o) → SqL X.K H' a xs := fun {H'} k => by
    have s1 : Same G (upd H' D (.lst [])) := fun b o e => by
      by_cases z : b = D
      · rw [z, nD] at e
        cases e
      · rw [upd_ne z]
        exact k b o z e
    rcases hsq with (g | ⟨o, g⟩) | g
    · exact .inl (.inl (k a _ (fun z => by rw [z, nD] at g; cases g) g))
    · exact .inl (.inr ⟨o, k a _ (fun z => by rw [z, nD] at g; cases g) g⟩)
    · exact .inr g
  have loop : codeAny (model X.prog X.w) X.A (.compLoop (.ListComp elt [⟨.Name y py, l, [], 0⟩] scope pos) 0 (.ref it) (.ref D) ce1) (compPost (model X.prog X.w) X.A X.xe none (EP X pins σ Q) (.ref D) sc.heap.objs.size) sd := by
    refine compLoop_any (fun m s' => ∃ i H', m = xs.length - i ∧ i ≤ xs.length ∧ Inv (X.blk sc (upd G D (.lst [])) scope ce1 [it]) [] (wipe σ [j]) H' s' ∧ s'.heap.IsListIter it a i ∧ H' it = none ∧ H' D = some (.lst (ys.take i)) ∧ ∀ b o, b ≠ D → G b = some o → H' b = some o) ?_ xs.length
      ⟨0, _, by omega, Nat.zero_le _, Id, turnD, fIc.1, by rw [List.take_zero]; exact upd_same, fun b o n e => by rw [upd_ne n]; exact e⟩
    rintro m s5 ⟨i, H5, em, hi, I5, t5, n5, d5, k5⟩
    obtain ⟨its5, r5, pl5, _⟩ := I5.list (sqIn k5)
    have F5 := free1 I5 n5
    by_cases hlt : i < xs.length
    · have ex : xs[i]? = some xs[i] := List.getElem?_eq_getElem hlt
      have ey : ys[i]? = some ys[i] := List.getElem?_eq_getElem (by omega)
      obtain ⟨u, hu, ru⟩ := r5.get ex
      refine wpAny_pyNext_list_item t5 pl5.isList (x := u) (by simpa using hu) fun h6 t6 sb6 => ?_
      have I6 : Inv (X.blk sc (upd G D (.lst [])) scope ce1 [it]) [] (wipe σ [j]) H5 { s5 with heap := h6 } := I5.turned (t' := s5.toks) (fun b o n e => (sb6.2 b n).trans e) F5.1 F5.2.1 F5.2.2.2.1 F5.2.2.2.2.1 F5.2.2.2.2.2
      obtain ⟨o6, e6, c6, q6⟩ := id t6
      refine go_of (s := { s5 with heap := h6 }) e6 c6 q6 (by decide) ?_
      have I7 := I6.pinned (fp := [it]) (fun b hb1 => by rw [List.mem_singleton.mp hb1]; exact free1 I6 n5) (fun b hb1 => by
        rw [List.mem_singleton.mp hb1]
        exact ⟨o6, e6, fun v z => by rw [q6] at z; cases z⟩)
      refine thnF (pg.run _ _ _ H5 xs[i] u (fun σ8 H8 => σ8 = σ.set j (some xs[i]) ∧ H8 = H5) I7 ru ⟨by show ((σ.set j none).set j (some xs[i])) = _; rw [List.set_set], rfl⟩) fun _ s8 w8 => ?_
      obtain ⟨σ8, H8, I8, w8, w9⟩ := w8
      subst w8
      subst w9
      refine wpAny_tests_nil ?_
      simp only [if_true]
      -- the element; D hidden away
      have s1 : ∃ G1, Same G G1 ∧ True := ⟨G, Same.refl G, trivial⟩
      refine thnF (pe.run _ s8 _ H8 (fun z H9 => z = ys[i] ∧ H9 D = some (.lst (ys.take i)) ∧ ∀ b o, H8 b = some o → H9 b = some o) I8 ?_) fun uz s9 w => ?_
      · refine hstep i xs[i] ys[i] ex ey H8 (fun b o e => k5 b o (fun z => by rw [z, nD] at e; cases e) e) _ fun G2 s2 => ⟨rfl, s2 D _ d5, fun b o e => s2 b o e⟩
      · obtain ⟨z, H9, I9, r9, z9, d9, k9⟩ := w
        subst z9
        refine app_ok (X := X.blk sc (upd G D (.lst [])) scope ce1 [it]) I9 d9 (by rw [List.length_take]; exact Nat.lt_of_le_of_lt (Nat.min_le_left _ _) (Nat.lt_of_lt_of_le hlt (Nat.le_trans hsm (by rw [sizeLine_eq]; decide)))) r9 fun s11 I11 => ?_
        have P11 := I11.pin (it, o6) (List.mem_append_right _ (List.mem_append_right _ (mem_pinsAt List.mem_cons_self e6)))
        refine ⟨xs.length - (i + 1), by omega, i + 1, _, rfl, hlt, (I11.unpinned (pins := [])).weak (by show (σ.set j none).length = (σ.set j (some xs[i])).length; rw [List.length_set, List.length_set]) (fun q v e => ?_), ⟨o6, P11.1, c6, q6⟩, P11.2.1, ?_, fun b o n e => ?_⟩
        · have e : (σ.set j none)[q]? = some (some v) := e
          by_cases hq : j = q
          · subst hq
            by_cases hz : j < σ.length
            · rw [List.getElem?_set_self hz] at e
              cases e
            · rw [List.getElem?_eq_none (by rw [List.length_set]; omega)] at e
              cases e
          · rw [List.getElem?_set_ne hq] at e ⊢
            exact e
        · rw [upd_same, List.take_add_one, ey]
          rfl
        · rw [upd_ne n]
          exact k9 b o (k5 b o n e)
    · have ei : i = xs.length := by omega
      subst ei
      refine next_end_hot (hotIn I5) nPit t5 pl5.isList (by have := r5.length; simp; omega) fun h6 k6 => ?_
      have I6 : Inv (X.blk sc (upd G D (.lst [])) scope ce1 [it]) [] (wipe σ [j]) H5 { s5 with heap := h6 } := I5.turned (t' := s5.toks) (fun b o n e => k6 b o n e) F5.1 F5.2.1 F5.2.2.2.1 F5.2.2.2.2.1 F5.2.2.2.2.2
      have I7 : Inv X pins σ H5 { s5 with heap := h6 } := Ic.call' (ch := [it]) I6.os I6.base I6.hok I6.bare fun b hb1 => by
        rw [List.mem_singleton.mp hb1]
        exact ⟨fIc.2.2.2.1, fIc.2.1, fIc.2.2.2.2.1, fIc.2.2.2.2.2⟩
      have nC : H5 sc.heap.objs.size = none := by
        have z : H5 ce1.locals = none := I6.free
        rw [eL] at z
        exact z
      obtain ⟨mm, hn, _⟩ := I6.loc
      have hn : ({ s5 with heap := h6 } : Shared).heap.Ns ce1.locals mm := hn
      rw [eL] at hn
      obtain ⟨f0, f1, f2, f3, f4, f5⟩ := Ic.fpOk (H' := H5) (Nat.le_refl sc.heap.objs.size) nC
      refine ⟨mm, hn, fun h'' sb2 => ⟨.ref D, H5, I7.turned (t' := s5.toks) (fun b o n e => (sb2.2 b n).trans e) f0 f1 f3 f4 f5, rfl, ?_⟩⟩
      rw [← hlen, List.take_length] at d5
      exact hend D H5 nD (fun b o e => k5 b o (fun z => by rw [z, nD] at e; cases e) e) d5
  exact codeAny_compStart_list loop (wpAny_pyIter_listiter turnD loop)
end
end FP

namespace FP
open PySem PySem.Spec PyProof.Rows L2 HotX L2H
/-! ### isinstance of the exception that is handled -/
theorem call_isP {X : Cx} {q : Addr × Obj} {D : Addr} (hq : q ∈ X.pn) (C : ExcC X.K D) (z1 : q.2.cls = .ref D) (z2 : q.2.dict = none) (hf : ∃ vs, q.2.data = .fields vs) : CallR X (.builtin "isinstance") (rIsE X.K D q.1) := by
  intro pins s σ H xs us Q I r h
  obtain ⟨c, cv, b, rfl, hcv, e, k⟩ := h
  cases r with
  | cons r1 r2 =>
    cases r2 with
    | cons r3 r4 =>
      cases r4
      cases r1
      have e3 := hcv _ r3
      subst e3
      have got := (I.pin q (List.mem_append_left _ hq)).1
      obtain ⟨vs, hv⟩ := hf
      have J : PySem.W.InstAt s.heap q.1 q.2 D none := by
        obtain ⟨qa, oc, od, oda, osl⟩ := q
        dsimp only at z1 z2 hv got ⊢
        subst z1 z2 hv
        exact ⟨got, rfl, rfl, trivial⟩
      exact PySem.W.kia_one (PySem.W.handS_kitx_exc C.hg C.hk C.hs C.hd C.ha C.hn C.ht C.hm) I.kIn J e (fun z => nomatch z) fun t => ⟨.bl b, H, I.kept (t' := t) fun _ _ z => z, rfl, k⟩
/-- what the head says of a class whose instances are asked -/
def excB (K : PySem.W.Frag) (D : Addr) : Bool :=
  He.eqO (PySem.W.findIn K (.ref D) "__getattribute__") (some (some (.builtin "BaseException.__getattribute__"))) && (He.eqO (PySem.W.findIn K (.ref D) "__getattr__") (some none) && (decide (PySem.W.subIn K (.ref D) (.type "BaseException") = some true) && (PySem.W.hasDictIn K D &&
  (He.eqO (PySem.W.findIn K (.ref D) "__class__") (some (some (.builtin "object.__class__"))) && (He.eqO (PySem.W.specialIn K (.builtin "object.__class__") "__get__") (some (some (.builtin "getset_descriptor.__get__"))) && (decide (PySem.W.takesIn K (.builtin "object.__class__") = some true) && decide (PySem.W.mroIn K D (.type "object") = some true)))))))
theorem excB_ok {K : PySem.W.Frag} {D : Addr} (h : excB K D = true) : ExcC K D := by
  obtain ⟨h1, h⟩ := He.ba h
  obtain ⟨h2, h⟩ := He.ba h
  obtain ⟨h3, h⟩ := He.ba h
  obtain ⟨h4, h⟩ := He.ba h
  obtain ⟨h5, h⟩ := He.ba h
  obtain ⟨h6, h⟩ := He.ba h
  obtain ⟨h7, h⟩ := He.ba h
  exact ⟨He.eqO_ok h1, He.eqO_ok h2, of_decide_eq_true h3, h4, He.eqO_ok h5, He.eqO_ok h6, of_decide_eq_true h7, of_decide_eq_true h⟩
/-- what a word about exceptions of class D finds: the classes asked, the answers -/
def wordB (K : PySem.W.Frag) (D : Str) (cs : List (Str × Bool)) : Bool :=
  excB K (He.ga K D) && (cs.all (fun c => decide (PySem.W.kitOne K (.ref (He.ga K D)) (.ref (He.ga K c.1)) = some c.2)) && decide (PySem.W.kitOne K (.ref (He.ga K D)) (.type "ValueError") = some true))
theorem wordB_ok {K : PySem.W.Frag} {D : Str} {cs : List (Str × Bool)} (h : wordB K D cs = true) : ExcC K (He.ga K D) ∧ (∀ c ∈ cs, PySem.W.kitOne K (.ref (He.ga K D)) (.ref (He.ga K c.1)) = some c.2) ∧ PySem.W.kitOne K (.ref (He.ga K D)) (.type "ValueError") = some true := by
  obtain ⟨h1, h⟩ := He.ba h
  obtain ⟨h2, h3⟩ := He.ba h
  exact ⟨excB_ok h1, fun c hc => of_decide_eq_true (List.all_eq_true.mp h2 c hc), of_decide_eq_true h3⟩
/-- the pinned exception of class D -/
structure Pin (X : Cx) (q : Addr × Obj) (D : Addr) : Prop where
  m : q ∈ X.pn
  C : ExcC X.K D
  z1 : q.2.cls = .ref D
  z2 : q.2.dict = none
  hf : ∃ vs, q.2.data = .fields vs
section
variable {X : Cx} {δ : De} {ω : Om} {a b c e : Expr} {es : List Expr} {d : PyData} {ds : List PyData} {pos p p1 p2 : Pos} {q : Addr × Obj} {D : Addr} {k : Bool}
theorem pd_isP (i : Nat) {y x : Str} {cv : V} {u : Value} (Z : Pin X q D) (hn : PE X (.Name x p2) (tC cv)) (hu : ∀ v, RelV cv v → v = u) (hk : PySem.W.kitOne X.K (.ref D) u = some k) (hm : X.mg "isinstance" = none) (hd : δ[i]? = some (some (.ad q.1)) := by rfl) (hN : X.N[i]? = some y := by rfl)
    (hv : Vis X.env.scope y := by first | exact Or.inl rfl | exact Or.inr (Or.inl rfl) | exact Or.inr (Or.inr rfl)) (h1 : (y == ("__debug__" : Str)) = false := by decide) (h2 : (y == ("__classdict__" : Str)) = false := by decide) (hg : Gl X "isinstance" := by rfl)
    (he : starEach [.Name y p1, .Name x p2] X.env = (false, eval (.Name y p1) X.env) :: starEach [.Name x p2] X.env := by rfl) (he2 : starEach [.Name x p2] X.env = (false, eval (.Name x p2) X.env) :: starEach [] X.env := by rfl) (hpl : (backTo pos (starEach [.Name x p2] X.env)).any (·.1) = false := by rfl) :
    PD X δ ω (.Call (.Name "isinstance" p) [.Name y p1, .Name x p2] [] pos) (.bool k) := fun σ H rl Q r => by
  obtain ⟨v, e1, e2⟩ := rl.sl i _ hd
  have e2 : v = .ref q.1 := e2
  subst e2
  exact we (pe_callB (call_isP Z.m Z.C Z.z1 Z.z2 Z.hf) hg hm (by decide +kernel) (pa_cons (pe_var hN hv h1 h2) (pa_cons hn pa_nil he2) he) (he := he) (hpl := hpl)) ⟨_, e1, cv, u, k, rfl, hu, hk, r _ H (Same.refl H) (.bl _)⟩
theorem pd_intB (hm : X.mg "int" = none) (ha : PD X δ ω a (.bool k)) (hg : Gl X "int" := by rfl) (he : starEach [a] X.env = (false, eval a X.env) :: starEach [] X.env := by rfl) : PD X δ ω (.Call (.Name "int" p) [a] [] pos) (.int (if k then 1 else 0)) :=
  pd_callTy call_int1 (fun ps vs H _ h Q r => by
    cases h with
    | cons h1 h2 =>
      cases h2
      cases h1
      exact .inr ⟨k, rfl, r _ H (Same.refl H) (.int _)⟩) hm (by decide +kernel) (pds_cons ha pds_nil he) hg (by decide) (by decide) he (by rfl)
/-- sum([elt for y in l]), of truths, while an exception is handled -/
theorem pd_sumH {elt l : Expr} {scope : Scope} {y : Str} {py lpos : Pos} {j : Nat} {bs : List Bool} (hc : HotC X) (hN : X.N.Nodup) (hl : PL X δ ω l (bs.map .bool)) (hz : bs.length ≤ 1000) (ok : BlkOk X.N X.env.scope scope [(y, j)])
    (hg : ∀ (s : Shared) (H : Hp) (C : Addr) (cl : List (Str × Addr)) (fp : List Addr), PG (X.blk s H scope (compEnvC scope cl C X.env) fp) (.Name y py) (gName j))
    (he : ∀ (b : Bool) (s : Shared) (H : Hp) (C : Addr) (cl : List (Str × Addr)) (fp : List Addr), PD (X.blk s H scope (compEnvC scope cl C X.env) fp) (δ.set j (some (.im (.bool b)))) ω elt (.int (if b then 1 else 0)))
    (hm : X.mg "sum" = none) (hgs : Gl X "sum" := by rfl) (hs : ∀ x, foldedSetIterable l X.env x = pure x := by intro _; rfl)
    (hst : starEach [.ListComp elt [⟨.Name y py, l, [], 0⟩] scope lpos] X.env = (false, eval (.ListComp elt [⟨.Name y py, l, [], 0⟩] scope lpos) X.env) :: starEach [] X.env := by rfl) :
    PD X δ ω (.Call (.Name "sum" p) [.ListComp elt [⟨.Name y py, l, [], 0⟩] scope lpos] [] pos) (.int (bs.map fun b => if b then 1 else 0).sum) := fun σ H rl Q r =>
  we (pe_callB (cr_sumH hc) hgs hm boot_sum (pa_cons (pe_lcH (j := j) hc hN pe_w ok hg (fun s H0 C cl fp => pe_blk s H0 C cl fp) hs) pa_nil hst) (he := hst)) (hl σ H rl _ fun a vs G s1 h1 h2 => by
    have ev : vs = bs.map V.bl := dpa_bl h2
    subst ev
    refine ⟨a, _, bs.map fun b => V.int (if b then 1 else 0), rfl, h1, by simp, by simpa using hz, fun i x y ex ey G1 s2 R kk s H0 C cl fp => ?_, fun D G1 nD s2 hD => ?_⟩
    · obtain ⟨b, eb, rfl⟩ : ∃ b, bs[i]? = some b ∧ x = V.bl b := by
        rw [List.getElem?_map] at ex
        cases e : bs[i]? with
        | none =>
          rw [e] at ex
          cases ex
        | some b =>
          rw [e] at ex
          cases ex
          exact ⟨b, rfl, rfl⟩
      rw [List.getElem?_map, eb] at ey
      cases ey
      refine he b s H0 C cl fp _ G1 (((rl.mono s1).mono s2).set (x := .im (.bool b)) (.bl b)) R fun v G2 s3 dv => ?_
      cases dv
      exact kk G2 s3
    · refine ⟨D, bs.map fun b => if b then 1 else 0, rfl, SqL.of ?_, r _ G1 (s1.trans s2) (.int _)⟩
      rw [List.map_map]
      exact hD)
/-- l.index(True) of a list of truths -/
theorem pd_idxT {l : Expr} {apos : Pos} {bs : List Bool} {j m : Nat} (hl : PL X δ ω l (bs.map .bool)) (hj : bs[j]? = some true) (hn : ∀ i, i < j → bs[i]? = some false)
    (hbase : attributeBase l "index" X.env (eval l X.env) = eval l X.env := by rfl)
    (hfew : ((backTo pos (starEach [.Constant (.bool true) m p1] X.env)).all (fun x => !x.1) && (backToKw pos (keywordEach [] X.env)).all (fun x => x.1.isSome)
      && decide (([.Constant (.bool true) m p1] : List Expr).length + ([] : List Keyword).length + (if ([] : List Keyword).isEmpty then 0 else 1) < 30)) = true := by rfl)
    (hline : (apos.endLine == pos.line) = true := by rfl) (hs : starEach [.Constant (.bool true) m p1] X.env = (false, eval (.Constant (.bool true) m p1) X.env) :: starEach [] X.env := by rfl) :
    PD X δ ω (.Call (.Attribute l "index" apos) [.Constant (.bool true) m p1] [] pos) (.int (j : Nat)) := fun σ H rl Q r =>
  we (pe_bm PySem.F.plainAttrs_list PySem.F.slot_list_index (by first | rfl | kernel_rfl | decide +kernel) mt_index pe_w (pa_cons pe_bl pa_nil hs) hbase hfew hline hs) (hl σ H rl _ fun a vs G s1 h1 h2 => by
    have ev : vs = bs.map V.bl := dpa_bl h2
    subst ev
    refine ⟨.inl ⟨rfl, _, h1⟩, a, _, _, j, .bl true, rfl, rfl, h1, rfl, ?_, ?_, rfl, fun m z lt e => ?_, r _ G s1 (.int _)⟩
    · rw [List.all_map]
      exact List.all_eq_true.mpr fun _ _ => rfl
    · rw [List.getElem?_map, hj]
      rfl
    · rw [List.getElem?_map, hn m lt] at e
      cases e
      rfl)
end
end FP

namespace FP
open PySem PySem.Spec PyProof.Rows L2 HotX L2H
/-! ### a word about the exception that is handled -/
structure WordOk (P : Program) (w : World) (K : PySem.W.Frag) (mg : Str → Option Value) (base : Heap) (k : Nat) (wd : Str) (fw : Addr → PyData → Prop) : Prop where
  ex : ∃ g, mg wd = some (.ref g) ∧ PySem.W.keepIn K (.ref g) = true ∧ ∀ (A : Around) (outer : List Env) (s : Shared) (H : Hp) (q : Addr × Obj) (C : Addr) (d : PyData) (ps : List Addr) (Q : VK), fw C d → RoomH k A → Hot1 A q → PinOk outer H s q → q.2.cls = .ref C → q.2.dict = none →
    Env0 P w K mg base A outer s H → (∀ a ∈ ps, H a ≠ none) → (∀ v H', Same H H' → Dp K (hid ps H') v d → Q v H') → codeAny (model P w) A (.call (.ref g) ⟨[.ref q.1], []⟩) (CR C8.CX0 outer P w H s Q C8.E0) s
theorem start1 {K : PySem.W.Frag} {H : Hp} {ps : List Addr} {N : List Str} {a : Addr} {n : Nat} (hn : N.length = n + 1) (hp : ∀ a ∈ ps, H a ≠ none) : Rl K H (L2.start N [.ref a]) (some (.ad a) :: List.replicate n none) ⟨ps, []⟩ := by
  refine ⟨?_, fun i r h => ?_, Ro.nil hp⟩
  · unfold L2.start
    simp [hn]
  · cases i with
    | zero =>
      cases h
      exact ⟨.ref a, rfl, rfl⟩
    | succ i =>
      rw [List.getElem?_cons_succ, List.getElem?_replicate] at h
      split at h
      · cases h
      · cases h
/-- such a def, by its body -/
theorem word_ok {P : Program} {w : World} {K : PySem.W.Frag} {mg : Str → Option Value} {base : Heap} {x : Str} {params : Arguments} {body : List Stmt} {scope : Scope} {kws : List (Str × V)} {f : Addr} {fd : FuncData} {N : List Str} {y : Str} {k n : Nat} {fw : Addr → PyData → Prop}
    (F : FunD K x x params body scope [] kws f fd) (hm : mg x = some (.ref f)) (S : FnScope N [y] scope) (hn : N.length = n + 1)
    (hb : ∀ (kV doc pm : Value) (an : Option Addr) (cdv ct : Value) (us : List Value), us.length = [y].length → bindArgs (PySem.W.fnOf x x params body scope .none kV doc pm an cdv ct) ⟨us, []⟩ = pure ([y].zip us))
    (hbody : ∀ (cdv : Value) (A : Around) (outer : List Env) (s : Shared) (H : Hp) (q : Addr × Obj) (C : Addr) (d : PyData) (ps : List Addr), fw C d → Hot1 A q → q.2.cls = .ref C → q.2.dict = none → RoomH k (A.deeper (envOfC x scope s.heap.objs.size f cdv)) →
      SD (cxH C8.CX0 P w K mg base N x scope f cdv A outer s H C8.E0 q) (fun _ _ _ _ => False) [] body (some (.ad q.1) :: List.replicate n none) ⟨ps, []⟩ (Fin (.ok d))) : WordOk P w K mg base (k + 1) x fw := by
  have hbs := FunD.bindsN (ps := [y]) F hb
  have kp := F.kp
  obtain ⟨oc, od, dV, kV, doc, pm, an, cdv, ct, osl, rfl, lk, hcd, hD, hK⟩ := F.ex
  refine ⟨f, hm, kp, fun A outer s H q C d ps Q hf hr hot pin c1 c2 e0 hp hQ => ?_⟩
  have old : ∀ b o, base.get? b = some o → s.heap.get? b = some o := fun b o e => (e0.bs b o e).1
  have inK : K.In s.heap := e0.mod.kin.keeps old
  have bnd := hbs s [.ref q.1] inK rfl
  refine codeAny_call_function hr.depth (inK _ _ lk) rfl S.co S.gen rfl (PySem.W.codeRec_of inK hcd) (bnd _ _ _ _ (wpAny_newFunctionEnv_cells S.kind (fun z hz => ?_) fun env he s1 x1 => ?_))
  · rcases S.par z.1 (List.of_mem_zip hz).1 with t | t
    · exact .inl t
    · exact .inr ⟨t, PySem.W.cellsFrom_some _ _ _ (.inl t)⟩
  subst he
  refine ⟨(e0.mod.nolimit.keeps old).keeps x1.toInCall.keep, codeAny_func ?_⟩
  have I : Inv (cxH C8.CX0 P w K mg base N x scope f cdv A outer s H C8.E0 q) [] (L2.start N [.ref q.1]) H s1 := inv_startH (us := [.ref q.1]) S pin e0 rfl (.cons rfl .nil) x1
  have go := hbody cdv A outer s H q C d ps hf hot c1 c2 (hr.deeper _) (L2.start N [.ref q.1]) H { nx := fun _ H' => Q .non H', rt := Q } (start1 hn hp) (fun _ z => nomatch z) ?_
  · refine wpAny_mono (pss_w.run [] s1 _ H _ I go) (fun fl s2 hs => ?_) fun _ _ z => z
    cases fl with
    | ret u =>
      obtain ⟨v, σ', H', J, rv, z⟩ := hs
      exact ⟨v, H', J.os, J.bare, J.base, J.hok, rv, z⟩
    | next =>
      obtain ⟨σ', H', J, z⟩ := hs
      exact ⟨.non, H', J.os, J.bare, J.base, J.hok, rfl, z⟩
    | brk =>
      obtain ⟨_, _, _, z⟩ := hs
      exact z.elim
    | cont =>
      obtain ⟨_, _, _, z⟩ := hs
      exact z.elim
  · have same : ∀ {ω' : Om} {H' : Hp}, Stp [] ⟨ps, []⟩ ω' H H' → Same H H' := fun st b o e => st.keep b o e (fun z => nomatch z) (.inl rfl)
    refine ⟨fun δ' ω' σ' H' z st l => ?_, fun r' ω' v H' z st l dv => ?_, fun _ _ _ _ z => (nomatch z), fun _ _ _ _ z => False.elim z, fun _ _ _ _ z => False.elim z⟩
    · cases z
      exact hQ .non H' (same st) .non
    · cases r' with
      | im d' =>
        cases z
        exact hQ v H' (same st) (dpm (hid_more fun b hb => List.mem_append_left _ (by rw [st.ps]; exact hb)) dv)
      | ad a => exact False.elim z
/-- the word is called, in the suite -/
theorem pe_word {X : Cx} {q : Addr × Obj} {k i : Nat} {wd n : Str} {fw : Addr → PyData → Prop} {C : Addr} {d : PyData} {p5 p6 p7 : Pos} (G : WordOk X.prog X.w X.K X.mg X.base k wd fw) (hr : RoomH k X.A) (hot : Hot1 X.A q) (hq : q ∈ X.pn) (c1 : q.2.cls = .ref C) (c2 : q.2.dict = none) (hf : fw C d)
    (hg : Gl X wd) (hN : X.N[i]? = some n) (hv : Vis X.env.scope n) (hdb : (wd == ("__debug__" : Str)) = false := by decide) (h1 : (n == ("__debug__" : Str)) = false := by decide) (h2 : (n == ("__classdict__" : Str)) = false := by decide)
    (he : starEach [.Name n p6] X.env = (false, eval (.Name n p6) X.env) :: starEach [] X.env := by rfl) :
    PE X (.Call (.Name wd p5) [.Name n p6] [] p7) (fun σ H Q => σ[i]? = some (some (.ref q.1)) ∧ ∃ ps, (∀ a ∈ ps, H a ≠ none) ∧ ∀ v H', Same H H' → Dp X.K (hid ps H') v d → Q v H') := by
  obtain ⟨g, m, kp, run⟩ := G.ex
  refine ⟨fun pins s σ H Q I h => ?_⟩
  obtain ⟨hs, ps, hp, hQ⟩ := h
  have ha : PA X [.Name n p6] (tCons (fun σ H Q => ∃ v, σ[i]? = some (some v) ∧ Q v H) tNil) := pa_cons (pe_var hN hv h1 h2) pa_nil he
  refine wpAny_Call_Name_kw (ld_glob I hg m (PySem.W.callWith_K (h₀ := X.base) I.ok.mod.kin kp (thn (ha.run p7 pins s σ H (fun vs H1 => vs = [V.ref q.1] ∧ H1 = H) I ⟨_, hs, rfl, rfl⟩) fun us s1 w => ?_) he (by rfl)) hdb)
  obtain ⟨vs, H1, J, rv, ev, eH⟩ := w
  subst ev
  subst eH
  refine ⟨J.kIn, ?_⟩
  rw [Vals.ref1 rv]
  have P1 := J.pin q (List.mem_append_left _ hq)
  have pin : PinOk X.stack H1 s1 q := ⟨P1.1, P1.2.1, fun z => (List.mem_cons.mp (J.stkSub q.1 z)).elim P1.2.2.1 P1.2.2.2.1, P1.2.2.2.2⟩
  refine wpAny_call (codeAny_mono (run X.A X.stack s1 H1 q C d ps Q hf hr hot pin c1 c2 J.env0 hp hQ) fun r s2 z => ?_)
  cases r with
  | error e => exact False.elim z
  | ok fl =>
    cases fl with
    | ret u => exact J.after z
    | next => exact False.elim z
    | brk => exact False.elim z
    | cont => exact False.elim z
end FP

namespace FP
open PySem PySem.Spec PyProof.Rows L2 HotX L2H
/-! ### an expression that answers or raises -/
def PR (X : Cx) (W : WX) (δ : De) (ω : Om) (e : Expr) (r : Rs) : Prop := ∀ σ H, Rl X.K H σ δ ω → ∀ Q : VK, RsQ X.K (ads ω) H Q (fun cls d H' => W cls d σ H') r → wpe X e σ H Q
section
variable {X : Cx} {W : WX} {δ : De} {ω : Om} {a e : Expr} {es : List Expr} {d : PyData} {ds : List PyData} {pos p : Pos} {k : Nat} {x : Str}
theorem PD.pr (h : PD X δ ω e d) : PR X W δ ω e (.ok d) := fun σ H rl Q q => h σ H rl Q q
theorem pr_call {fr : List PyData → Rs → Prop} {rr : Rs} (G : DefOk X.prog X.w X.K X.mg X.base k x fr) (hr : Room k X.A) (tk : L2N.Takes X W) (ha : PDs X δ ω (a :: es) ds) (hf : fr ds rr) (hg : Gl X x := by rfl)
    (hdb : (x == ("__debug__" : Str)) = false := by decide) (he : starEach (a :: es) X.env = (false, eval a X.env) :: starEach es X.env := by rfl) (hpl : (backTo pos (starEach es X.env)).any (·.1) = false := by rfl) : PR X W δ ω (.Call (.Name x p) (a :: es) [] pos) rr := fun σ H rl Q q => by
  obtain ⟨f, fd, ps, F, m, kp, b⟩ := G.ex
  refine we (pe_callS (E := WE W) F hr hg m kp b (fun σ => L2N.passAt tk σ) pa_w hdb he hpl) (ha σ H rl _ fun vs H1 s1 d1 => ⟨ads ω, ds, rr, there_mono rl.ro.there s1, d1, hf, ?_⟩)
  cases rr with
  | ok d => exact fun v H' s' d' => q v H' (s1.trans s') d'
  | er C => exact fun H' s' => q H' (s1.trans s')
end
/-! ### a lambda whose exceptions have no context -/
abbrev lamN (X : Cx) (A : Around) (outer : List Env) (s : Shared) (H : Hp) (E : XK) (scope : Scope) (f c' : Addr) : Cx :=
  (LamX.lamCx X A outer s H E scope f c').tr [] (fun e t => wpAny (model X.prog X.w) (A.deeper (LamX.lamEnv X scope s.heap.objs.size f c')) (leaving (LamX.lamEnv X scope s.heap.objs.size f c') e) (fun _ t' => L2N.CX X.prog X.w outer H s E e t') (fun e' t' => L2N.CX X.prog X.w outer H s E e' t') t)
theorem lamN_takes {X : Cx} {A : Around} {outer : List Env} {s : Shared} {H : Hp} {E : XK} {scope : Scope} {f c' : Addr} : L2N.Takes (lamN X A outer s H E scope f c') (WOf E) := L2N.takes_of rfl rfl rfl rfl
/-- it is called, where what it lets out is taken -/
theorem pe_lamN {X Z : Cx} {pins : List (Addr × Obj)} {σ : L2.St} {H : Hp} {s : Shared} {f c' : Addr} {pm ctv : Value} {params : Arguments} {body : Expr} {scope : Scope} {k i : Nat} {a : Str} {W : WX} {p1 p2 : Pos}
    (hP : Z.prog = X.prog) (hw : Z.w = X.w) (hK : Z.K = X.K) (hm : Z.mg = X.mg) (hB : Z.base = X.base) (h0 : Z.s_0 = s) (hH : Z.H_0 = H) (hex : Z.ex = []) (hfs : Z.fs = frs X.stack)
    (I : Inv X pins σ H s) (L : LamX.LamS X.env.scope scope) (hf : s.heap.get? f = some (PySem.W.kla_obj "<lambda>" (X.env.qual ++ "<lambda>") params body scope (cloFrom X.env.cells scope.names []) pm c' ctv)) (hfn : H f = none) (hfr : f ∉ frs X.stack)
    (hbind : bindArgs (PySem.W.kla_fn "<lambda>" (X.env.qual ++ "<lambda>") params body scope (cloFrom X.env.cells scope.names []) pm (.ref c') ctv) ⟨[], []⟩ = pure []) (tk : L2N.Takes Z W) (hr : Room (k + 1) Z.A)
    (hN : Z.N[i]? = some a) (hv : Vis Z.env.scope a) (hd : (a == ("__debug__" : Str)) = false := by decide) (hcd : (a == ("__classdict__" : Str)) = false := by decide) :
    PE Z (.Call (.Name a p1) [] [] p2) (fun τ G Q => τ[i]? = some (some (.ref f)) ∧ G c' = some (LamX.CodeO c' (X.env.qual ++ "<lambda>")) ∧
      ∀ (A : Around) (outer : List Env) (t : Shared), Room k (A.deeper (LamX.lamEnv X scope t.heap.objs.size f c')) → wpe (lamN X A outer t G (WE W τ) scope f c') body σ G Q) := by
  obtain ⟨zp, zw, zk, zmg, zb, zA, zN, zs, zh, zenv, zo, zst, zex, zfn, zc, zpn, zxe⟩ := Z
  dsimp only at hP hw hK hm hB h0 hH hex
  subst hP hw hK hm hB h0 hH hex
  refine ⟨fun pinsZ sZ τ G Q IZ h => ?_⟩
  obtain ⟨t1, t2, t3⟩ := h
  refine wpAny_Call_Name_kw (thn ((pe_var (pos := p1) (i := i) hN hv hd hcd).run pinsZ sZ τ G (fun v G1 => v = .ref f ∧ G1 = G) IZ ⟨.ref f, t1, rfl, rfl⟩) fun u s1 w => ?_)
  obtain ⟨v, G1, J, rv, ev, eG⟩ := w
  subst ev
  subst eG
  obtain rfl : u = Value.ref f := rv
  have un : Un (frs X.stack) [] zh G1 zs.heap s1.heap := by
    rw [← hfs]
    exact J.base
  have gf := un.keep f _ hf hfn hfr (fun z => nomatch z)
  have rc : codeAny (model X.prog X.w) zA (.call (.ref f) ⟨[], []⟩) (CR (L2N.CX X.prog X.w) zst X.prog X.w G1 s1 Q (WE W τ)) s1 := by
    obtain ⟨⟨oc, vs, tt, g1, g2, g3⟩, _, _⟩ := J.hok c' _ t2
    refine PySem.W.kla_callFunE hr.depth gf rfl L.co L.gen rfl ⟨c', oc, vs, tt, rfl, g1, g2, g3⟩ ?_
    rw [hbind]
    refine wpAny_pure (wpAny_newFunctionEnv (fun y hy => (L.own y hy).2) (fun y hy => (nomatch hy)) (fun h2 n2 b2 => ⟨J.nolimit.fresh _ b2, ?_⟩) L.kind)
    show codeAny _ _ (.expr body (LamX.lamEnv X scope s1.heap.objs.size f c')) _ _
    have J2 := (LamX.lam_start2 (E := WE W τ) (scope := scope) (f := f) (c' := c') (tk := s1.toks + ([] : List (Str × Value)).length) I L J.env0 hr.hd un n2 (fun b o e => b2.extBut b o (Nat.ne_of_lt (Heap.lt_size e)) (Heap.get?_push_of_some _ e))).toTry (fun e t => wpAny (model X.prog X.w) (zA.deeper (LamX.lamEnv X scope s1.heap.objs.size f c')) (leaving (LamX.lamEnv X scope s1.heap.objs.size f c') e) (fun _ t' => L2N.CX X.prog X.w zst G1 s1 (WE W τ) e t') (fun e' t' => L2N.CX X.prog X.w zst G1 s1 (WE W τ) e' t') t)
    refine PySem.W.kla_codeExpr (wpAny_mono (pe_w.run [] _ σ G1 Q J2 (t3 zA zst s1 (hr.deeper _))) (fun v s3 z => ?_) fun e s3 z => z)
    obtain ⟨v1, G3, J3, r3, q3⟩ := z
    exact ⟨v1, G3, J3.os, J3.bare, J3.base, J3.hok, r3, q3⟩
  refine PySem.W.callWith_F0 ⟨_, _, _, _, gf⟩ (wpAny_call (codeAny_mono rc fun r s2 z => ?_))
  · cases r with
    | error e => exact L2N.passAt tk τ pinsZ G1 s1 e s2 J z
    | ok fl =>
      cases fl with
      | ret u => exact J.after z
      | next => exact False.elim z
      | brk => exact False.elim z
      | cont => exact False.elim z
end FP

namespace FP
open PySem PySem.Spec PyProof.Rows L2 HotX L2H
theorem takesF {X : Cx} : L2N.Takes X (fun _ _ _ _ => False) := fun _ _ x => by
  obtain ⟨_, _, _, _, _, _, _, _, _, _, _, _, _, _, _, _, z⟩ := x
  cases z
/-- told: what the lambda answers, or the word about what it raised -/
def ToldD (K : PySem.W.Frag) (CS : Addr) (fw : Addr → PyData → Prop) (d : PyData) : Rs → Prop
  | .ok d' => d' = d
  | .er C => fw C d ∧ PySem.W.exmOne K (.ref C) (.ref CS) = some true
section
variable {X : Cx} {T : List (Addr × Str)} {δ : De} {ω : Om} {d : PyData} {pos p : Pos} {k : Nat}
theorem px_told {x a e n wd : Str} {st : Stmt} {Ng : List Str} {CS : Addr} {fw : Addr → PyData → Prop} {r : Rs} {p1 p2 p3 p4 p5 p6 p7 p8 p9 p10 lpos : Pos} {params : Arguments} {body : Expr} {scope : Scope} (G : Told X.K X.mg x st) (L : LamT X T) (hT : T ≠ []) (hps : ω.ps = []) (hr : Room (k + 2) X.A)
    (WK : WordOk X.prog X.w X.K X.mg X.base (k + 1) wd fw)
    (hst : defBody st = [.Try [.Return (some (.Call (.Name a p1) [] [] p2)) p3] [.ExceptHandler (some (.Name e p4)) (some n) [.Return (some (.Call (.Name wd p5) [.Name n p6] [] p7)) p8] p9] [] [] p10]) (S : FnScope Ng [a] (defScope st)) (hNd : Ng.Nodup) (hNg : Ng[0]? = some a) (hva : Vis (defScope st) a)
    (hN1 : Ng[1]? = some n) (hkn : (defScope st).names.lookup n = some .local) (hge : (defScope st).names.lookup e = some .globalImplicit) (hgw : (defScope st).names.lookup wd = some .globalImplicit) (hme : X.mg e = some (.ref CS))
    (hbn : ∀ (kV doc pm : Value) (an : Option Addr) (cdv ct : Value) (us : List Value), us.length = [a].length → bindArgs (PySem.W.fnOf x x (defArgs st) (defBody st) (defScope st) .none kV doc pm an cdv ct) ⟨us, []⟩ = pure ([a].zip us))
    (hb : ∀ (A : Around) (outer : List Env) (s : Shared) (H : Hp) (E : XK) (f c' : Addr), Room k (A.deeper (LamX.lamEnv X scope s.heap.objs.size f c')) → PR (lamN X A outer s H E scope f c') (WOf E) δ ω body r)
    (hd : ToldD X.K CS fw d r) (hL : LamX.LamS X.env.scope scope) (hdef : defaultsOf params X.env = ([], []) := by rfl) (hbind : ∀ (q : Str) (cl : List (Str × Addr)) (pm cv ctv : Value), bindArgs (PySem.W.kla_fn "<lambda>" q params body scope cl pm cv ctv) ⟨[], []⟩ = pure [] := by intros; rfl)
    (hg : Gl X x := by rfl) (hdb : (x == ("__debug__" : Str)) = false := by decide) (hd1 : (a == ("__debug__" : Str)) = false := by decide) (hcd1 : (a == ("__classdict__" : Str)) = false := by decide) (hde : (e == ("__debug__" : Str)) = false := by decide) (hdw : (wd == ("__debug__" : Str)) = false := by decide)
    (hdn : (n == ("__debug__" : Str)) = false := by decide) (hcn : (n == ("__classdict__" : Str)) = false := by decide) : PX X T δ ω (.Call (.Name x p) [.Lambda params body scope lpos] [] pos) d := fun σ H rl tb Q q => by
  obtain ⟨g, fd, F, hm⟩ := G.ex
  obtain ⟨c, P, TB, hcode, hmT, hu⟩ := L.ex
  have hbs := FunD.bindsN (ps := [a]) F hbn
  have kp := F.kp
  obtain ⟨oc, od, dV, kV, doc, pm, an, cdv, ct, osl, rfl, lk, hcd, hD, hK⟩ := F.ex
  unfold wpe
  intro pins s I
  refine wpAny_Call_Name_kw (ld_glob I hg hm ?_ hdb)
  refine PySem.W.callWith_K (h₀ := X.base) I.ok.mod.kin kp ?_ (by rfl) (by rfl)
  show wpAny _ _ (spliced ((false, eval (.Lambda params body scope lpos) X.env) :: backTo pos (starEach [] X.env))) _ _ s
  refine Calls.spliced_cons (LamX.lam_make2 I TB hcode hmT hu tb hdef (hL.has I.ok) fun f c' pm' ctv H1 s' I1 eN T1 hf hfn hfr hco => Calls.spliced_nil ⟨I1.kIn, ?_⟩)
  have rl1 : Rl X.K H1 σ δ ω := rl_ext (T := T) eN hps rl
  have done : ∀ v H2, Same H1 H2 → Dp X.K (hid (ads ω) H2) v d → Q v H2 := fun v H2 s2 d2 => q v H2 ⟨fun b o h _ p => s2 b o (eN b o h (p.resolve_left hT)), fun a h => .inl h, rfl, fun _ => T1.ext s2⟩ (rl1.mono s2) d2
  refine wpAny_call (codeAny_mono (R := CR C8.CX0 X.stack X.prog X.w H1 s' Q C8.E0) (LamX.run_ofS (N := Ng) (ps := [a]) (us := [.ref f]) (vs := [.ref f]) lk hcd S hr I1.env0 (hbs s' [.ref f] I1.kIn rfl) (.cons rfl .nil) rfl fun hr' => ?_) fun rr s2 z => ?_)
  · rw [hst]
    -- the def's own context
    have tryW := L2N.ps_try_as (X := (cxOf C8.CX0 X.prog X.w X.K X.mg X.base Ng x (defScope st) g cdv X.A X.stack s' H1 C8.E0).nox) (x := e) (n := n) (c := .ref CS) (i := 1) (np := p4) (pos := p10) (pos' := p9) (b₀ := .Return (some (.Call (.Name wd p5) [.Name n p6] [] p7)) p8) (suite := [])
      (body := [.Return (some (.Call (.Name a p1) [] [] p2)) p3]) (Wout := fun _ _ _ _ => False)
      (tb := fun W D τ G => τ[0]? = some (some (.ref f)) ∧ G c' = some (LamX.CodeO c' (X.env.qual ++ "<lambda>")) ∧ ∀ (A : Around) (outer : List Env) (t : Shared), Room k (A.deeper (LamX.lamEnv X scope t.heap.objs.size f c')) → wpe (lamN X A outer t G (WE W τ) scope f c') body σ G D.rt)
      (ts := fun b cls dd D τ G => ∃ C, cls = .ref C ∧ dd = none ∧ fw C d ∧ τ[1]? = some (some (.ref b)) ∧ (∀ a ∈ ads ω, G a ≠ none) ∧ ∀ v G', Same G G' → Dp X.K (hid (ads ω) G') v d → D.rt v G')
      rfl rfl hNd hN1 hkn ⟨hge, hde, .inl hme⟩ takesF
      (fun W pn xe tk _ => pss_one (ps_ret (pe_lamN (X := X) (Z := ((cxOf C8.CX0 X.prog X.w X.K X.mg X.base Ng x (defScope st) g cdv X.A X.stack s' H1 C8.E0).nox).tr pn xe) rfl rfl rfl rfl rfl rfl rfl rfl rfl I1 hL hf hfn hfr (hbind _ _ _ _ _) tk hr' hNg hva hd1 hcd1)))
      (fun b oe cls dd pn hz hfd => ⟨fun pins2 s2 τ G D J h => ?_⟩)
    · refine ⟨_, (pss_one tryW).nox, ?_⟩
      refine ⟨rfl, hco, fun A outer t hr2 => ?_⟩
      refine hb A outer t H1 _ f c' hr2 σ H1 rl1 Q ?_
      cases r with
      | ok d' =>
        cases hd
        exact done
      | er C =>
        intro H2 s2
        exact ⟨true, hd.2, fun _ b nb => ⟨C, rfl, rfl, hd.1, by
          rw [List.getElem?_set_self]
          unfold L2.start
          have := (List.getElem?_eq_some_iff.mp hN1).1
          simp
          omega, there_mono rl1.ro.there s2, fun v G' s3 dv => done v G' (s2.trans s3) dv⟩, fun z => by cases z⟩
    · obtain ⟨C, rfl, rfl, hfw, h1, h2, h3⟩ := h
      obtain ⟨vs, hv⟩ := hfd
      have pw := pe_word (X := ((cxOf C8.CX0 X.prog X.w X.K X.mg X.base Ng x (defScope st) g cdv X.A X.stack s' H1 C8.E0).nox).suite b ((b, oe) :: pn)) (q := (b, oe)) (i := 1) (p5 := p5) (p6 := p6) (p7 := p7) WK ⟨(roomH_of hr').dp, (roomH_of hr').un⟩ ⟨rfl, vs, hv, hz.2.2 vs hv⟩ List.mem_cons_self hz.1 hz.2.1 hfw hgw hN1 (.inl hkn) hdw hdn hcn
      exact (pss_one (ps_ret (pos := p8) pw)).run pins2 s2 τ G D J ⟨h1, ads ω, h2, h3⟩
  · cases rr with
    | error e => exact False.elim z
    | ok fl =>
      cases fl with
      | ret u => exact I1.after z
      | next => exact False.elim z
      | brk => exact False.elim z
      | cont => exact False.elim z
end
end FP

namespace FP
open PySem PySem.Spec PyProof.Rows L2
section
variable {X : Cx} {W : WX} {T : List (Addr × Str)} {δ : De} {ω : Om} {a b c e : Expr} {es : List Expr} {d da db dz : PyData} {ds dt : List PyData} {pos p : Pos} {k : Bool} {x : Str} {R : Out → Prop} {ss : List Stmt}
theorem pd_neg {i : Int} (ha : PD X δ ω a (.int i)) : PD X δ ω (.UnaryOp .USub a pos) (.int (-i)) := fun σ H rl Q q =>
  we (pe_un un_neg pe_w) (ha σ H rl _ fun v H1 s1 d1 => by
    cases d1
    exact ⟨i, rfl, q _ H1 s1 (.int _)⟩)
/-- list of a tuple -/
theorem pn_listT (hm : X.mg "list" = none) (ha : PD X δ ω a (.tuple ds)) (hg : Gl X "list" := by rfl) (he : starEach [a] X.env = (false, eval a X.env) :: starEach [] X.env := by rfl) : PN X δ ω (.Call (.Name "list" p) [a] [] pos) ds := fun σ H rl Q k =>
  we (pe_callTy call_list_of hg hm (by decide +kernel) (pa_cons pe_w pa_nil he) (he := he)) (ha σ H rl _ fun v H1 s1 d1 => by
    cases d1 with
    | tup h1 h2 => exact ⟨_, _, rfl, .inr (same_sqt hid_sub h1), fun l hl => k l _ _ (s1.trans (same_new hl)) (s1.free hl) upd_same (dpam (hid_new hl (same_new hl)) h2)⟩)
/-- is not None -/
theorem rd_notN {K : PySem.W.Frag} (hd : da ≠ .none) : RD K (fun x y H Q => y = .non ∧ Q (.bl (!decide (x = .non))) H) da .none (.bool true) := fun ps x y H _ hx hy Q q => by
  cases hy
  refine ⟨rfl, ?_⟩
  have e : decide (x = .non) = false := decide_eq_false fun z => by
    subst z
    cases hx
    exact hd rfl
  rw [e]
  exact q _ H (Same.refl H) (.bl _)
theorem rd_notN0 {K : PySem.W.Frag} : RD K (fun x y H Q => y = .non ∧ Q (.bl (!decide (x = .non))) H) .none .none (.bool false) := fun ps x y H _ hx hy Q q => by
  cases hx
  cases hy
  exact ⟨rfl, q _ H (Same.refl H) (.bl _)⟩
/-- a list of one's own that is compared -/
theorem pt_neL (hu : X.A.units + 64 < cLine) (h1 : SeqAt.shaped (.list ds) = true) (h2 : SeqAt.shaped db = true) (ha : PL X δ ω a ds) (hb : PD X δ ω b db) : PTd X δ ω (.Compare a [.NotEq] [b] pos) (!PyData.eqv (.list ds) db) := fun σ H rl Q q =>
  wt (pt_cmpR (op_neD hu) pe_w pe_w (nomark _)) (ha σ H rl _ fun p vs H1 s1 h3 d1 => hb σ H1 (rl.mono s1) _ fun y H2 s2 d2 =>
    ⟨.list ds, db, .lst (s2.seq h3) (dpam hid_sub (dpam (hid_same s2) d1)), dpm hid_sub d2, h1, h2, _, rfl, q H2 (s1.trans s2)⟩)
/-- the two lists that were made last, the other way round -/
theorem ads_swap {ps : List Addr} {o1 o2 : Addr × Od} {os : List (Addr × Od)} {H : Hp} : hid (ads ⟨ps, o1 :: o2 :: os⟩) H = hid (ads ⟨ps, o2 :: o1 :: os⟩) H := by
  funext z
  have e : (z ∈ ads ⟨ps, o1 :: o2 :: os⟩) ↔ (z ∈ ads ⟨ps, o2 :: o1 :: os⟩) := by
    show z ∈ ps ++ o1.1 :: o2.1 :: os.map (·.1) ↔ z ∈ ps ++ o2.1 :: o1.1 :: os.map (·.1)
    simp only [List.mem_append, List.mem_cons]
    constructor <;> (rintro (h | h | h | h) <;> simp [h])
  unfold hid
  by_cases h : z ∈ ads ⟨ps, o1 :: o2 :: os⟩
  · rw [if_pos h, if_pos (e.mp h)]
  · rw [if_neg h, if_neg (fun g => h (e.mpr g))]
theorem sd_swap {ps : List Addr} {o1 o2 : Addr × Od} {os : List (Addr × Od)} (h : SD X W T ss δ ⟨ps, o2 :: o1 :: os⟩ R) : SD X W T ss δ ⟨ps, o1 :: o2 :: os⟩ R := fun σ H D rl t k => by
  have mem : ∀ z : Addr, z ∈ osA ⟨ps, o2 :: o1 :: os⟩ → z ∈ osA ⟨ps, o1 :: o2 :: os⟩ := fun z hz => by
    have hz : z ∈ o2.1 :: o1.1 :: os.map (·.1) := hz
    show z ∈ o1.1 :: o2.1 :: os.map (·.1)
    simp only [List.mem_cons] at hz ⊢
    rcases hz with h | h | h <;> simp [h]
  have mem2 : ∀ z : Addr, z ∈ osA ⟨ps, o1 :: o2 :: os⟩ → z ∈ osA ⟨ps, o2 :: o1 :: os⟩ := fun z hz => by
    have hz : z ∈ o1.1 :: o2.1 :: os.map (·.1) := hz
    show z ∈ o2.1 :: o1.1 :: os.map (·.1)
    simp only [List.mem_cons] at hz ⊢
    rcases hz with h | h | h <;> simp [h]
  have st0 : Stp T ⟨ps, o1 :: o2 :: os⟩ ⟨ps, o2 :: o1 :: os⟩ H H := ⟨fun b o e _ _ => e, fun z hz => .inl (mem z hz), rfl, fun t => t⟩
  refine h σ H D ⟨rl.len, fun i r hi => ?_, fun z o hz => ?_, ?_, rl.ro.th⟩ t (k.step st0)
  · obtain ⟨v, h1, h2⟩ := rl.sl i r hi
    rw [ads_swap] at h2
    exact ⟨v, h1, h2⟩
  · have g := rl.ro.ob z o (by
      have hz : (z, o) ∈ o2 :: o1 :: os := hz
      show (z, o) ∈ o1 :: o2 :: os
      simp only [List.mem_cons] at hz ⊢
      rcases hz with h | h | h <;> simp [h])
    rw [ads_swap] at g
    exact g
  · have nd : (o1.1 :: o2.1 :: os.map (·.1)).Nodup := rl.ro.nd
    show (o2.1 :: o1.1 :: os.map (·.1)).Nodup
    exact (List.Perm.swap o2.1 o1.1 _).nodup nd
/-! ### lists of what is told -/
theorem app_step {K : PySem.W.Frag} {H : Hp} {σ : L2.St} {D : Addr} {xs : List PyData} {vs : List V} {y : V} (rl : Rl K H σ δ (omD ω D (.lst (xs.map .im)))) (e3 : H D = some (.lst vs)) (e4 : Paired (SdV K (hid (ads (omD ω D (.lst (xs.map .im)))) H)) (xs.map .im) vs)
    (d1 : Dp K (hid (ads (omD ω D (.lst (xs.map .im)))) H) y d) : Stp T (omD ω D (.lst (xs.map .im))) (omD ω D (.lst ((xs ++ [d]).map .im))) H (upd H D (.lst (vs ++ [y]))) ∧ Rl K (upd H D (.lst (vs ++ [y]))) σ δ (omD ω D (.lst ((xs ++ [d]).map .im))) := by
  have hh : Same (hid (ads (omD ω D (.lst (xs.map .im)))) H) (hid (ads (omD ω D (.lst ((xs ++ [d]).map .im)))) (upd H D (.lst (vs ++ [y])))) := hid_upd
  refine ⟨⟨fun b o h n _ => ?_, fun a h => .inl h, rfl, fun t => ?_⟩, ⟨rl.len, fun j r h => ?_, fun z o h => ?_, rl.ro.nd, fun z h hz => ?_⟩⟩
  · have nb : b ≠ D := fun z => n (by rw [z]; exact List.mem_cons_self)
    rw [upd_ne nb]
    exact h
  · intro q hq
    obtain ⟨ps, a1, a2, a3⟩ := t q hq
    refine ⟨ps, by rw [upd_ne (ne_of a1 e3 (by intro z; cases z))]; exact a1, a2, fun p' cv hc => ?_⟩
    obtain ⟨c0, b1, b2⟩ := a3 p' cv hc
    exact ⟨c0, b1, by rw [upd_ne (ne_of b2 e3 (by intro z; unfold LamX.CodeO at z; cases z))]; exact b2⟩
  · obtain ⟨v, h1, h2⟩ := rl.sl j r h
    exact ⟨v, h1, sdv_mono hh h2⟩
  · rcases List.mem_cons.mp h with q | q
    · cases q
      exact ⟨vs ++ [y], upd_same, im_dpa (dpa_app (dpam hh (dpa_im e4)) (.cons (dpm hh d1) .nil))⟩
    · have nd2 : (D :: ω.os.map (·.1)).Nodup := rl.ro.nd
      have na : z ≠ D := fun zz => (List.nodup_cons.mp nd2).1 (List.mem_map.mpr ⟨(z, o), q, zz⟩)
      have g := rl.ro.ob z o (List.mem_cons_of_mem _ q)
      cases o with
      | lst zs =>
        obtain ⟨us, g1, g2⟩ := g
        exact ⟨us, by rw [upd_ne na]; exact g1, L2.Paired.mapP g2 fun _ _ w => sdv_mono hh w⟩
      | ins C fs =>
        obtain ⟨dx, us, g1, g2⟩ := g
        exact ⟨dx, us, by rw [upd_ne na]; exact g1, L2.Paired.mapP g2 fun _ _ w => ⟨w.1, sdv_mono hh w.2⟩⟩
  · have hn := rl.ro.th z h
    by_cases za : z = D
    · rw [za, upd_same] at hz
      cases hz
    · rw [upd_ne za] at hz
      exact hn hz
theorem sd_appx (i : Nat) {p1 apos cpos : Pos} {D : Addr} {xs : List PyData} (he : PX X T δ (omD ω D (.lst (xs.map .im))) e d) (hk : SD X W T ss δ (omD ω D (.lst ((xs ++ [d]).map .im))) R) (hz : xs.length < 10000)
    (hd : δ[i]? = some (some (.ad D)) := by rfl) (hN : X.N[i]? = some x := by rfl) (hv : Vis X.env.scope x := by first | exact Or.inl rfl | exact Or.inr (Or.inl rfl) | exact Or.inr (Or.inr rfl))
    (h1 : (x == ("__debug__" : Str)) = false := by decide) (h2 : (x == ("__classdict__" : Str)) = false := by decide)
    (hs : swapsWith (.Call (.Attribute (.Name x p1) "append" apos) [e] [] cpos) none pos.line X.env = pure false := by rfl)
    (hbase : attributeBase (.Name x p1) "append" X.env (eval (.Name x p1) X.env) = eval (.Name x p1) X.env := by rfl)
    (hfew : ((backTo cpos (starEach [e] X.env)).all (fun x => !x.1) && (backToKw cpos (keywordEach [] X.env)).all (fun x => x.1.isSome)
      && decide (([e] : List Expr).length + ([] : List Keyword).length + (if ([] : List Keyword).isEmpty then 0 else 1) < 30)) = true := by rfl)
    (hline : (apos.endLine == cpos.line) = true := by rfl) (hst : starEach [e] X.env = (false, eval e X.env) :: starEach [] X.env := by rfl) :
    SD X W T (.Expr (.Call (.Attribute (.Name x p1) "append" apos) [e] [] cpos) pos :: ss) δ (omD ω D (.lst (xs.map .im))) R :=
  sd_cons fun σ H Dd rl t k => by
    obtain ⟨v, e1, e2⟩ := rl.sl i _ hd
    have e2 : v = .ref D := e2
    subst e2
    obtain ⟨vs, e3, e4⟩ := rl.ro.ob D _ List.mem_cons_self
    refine ws (ps_expr (pe_bm PySem.F.plainAttrs_list PySem.F.slot_list_append PySem.F.type_list_append mt_append (pe_var hN hv h1 h2) (pa_cons pe_w pa_nil hst) hbase hfew hline hst) hs) ⟨_, e1, .inl ⟨rfl, vs, SqL.of e3⟩, he σ H rl t _ fun y H1 s1 l1 d1 => ?_⟩
    obtain ⟨us, f3, f4⟩ := l1.ro.ob D _ List.mem_cons_self
    obtain ⟨g1, g2⟩ := app_step (T := T) l1 f3 f4 d1
    exact ⟨D, us, y, rfl, rfl, f3, by rw [dpa_len (dpa_im f4)]; exact Nat.lt_of_lt_of_le hz (by rw [sizeLine_eq]; decide), k.nx δ _ σ _ hk (s1.trans g1) g2⟩
/-- x = [..], a new list of what is told -/
theorem sd_ownx (i : Nat) {pos' lpos : Pos} (he : PXs X T δ ω es ds) (hk : ∀ D, SD X W T ss (δ.set i (some (.ad D))) (omD ω D (.lst (ds.map .im))) R) (hz : ds.length ≤ 1000) (hN : X.N.Nodup) (hi : X.N[i]? = some x := by rfl) (hx : Loc X.env.scope x := by first | exact Or.inl rfl | exact Or.inr rfl)
    (hs : swapsWith (.List es lpos) (some (.Name x pos')) pos.line X.env = pure false := by rfl) (hf : X.fn x = true ∨ X.env.scope.names.lookup x = some .local := by first | exact .inl rfl | exact .inr rfl | assumption) : SD X W T (.Assign [.Name x pos'] (.List es lpos) pos :: ss) δ ω R :=
  sd_cons fun σ H D rl t k => ws (ps_set hN hi hx (pe_lst pa_w) hs hf) (he σ H rl t _ fun vs H1 s1 l1 d1 => ⟨Nat.le_of_lt (small1000 (by rw [dpa_len d1]; exact hz)), fun q hq => by
    have l2 : Rl X.K (upd H1 q (.lst vs)) σ δ (omD ω q (.lst (ds.map .im))) := l1.omD hq (same_new hq) upd_same (dpam (hid_in hq (same_new hq)) d1)
    refine k.nx _ _ _ _ (hk q) (s1.trans ⟨fun b o h _ _ => same_new hq b o h, fun z h => ?_, rfl, fun t => t.ext (same_new hq)⟩) (l2.set (x := .ad q) (v := .ref q) rfl)
    rcases List.mem_cons.mp (show z ∈ q :: ω.os.map (·.1) from h) with w | w
    · exact .inr fun o ho => by
        rw [w, hq] at ho
        cases ho
    · exact .inl w⟩)
end
end FP

namespace FP
open PySem PySem.Spec PyProof.Rows L2
section
variable {X : Cx} {W : WX} {T : List (Addr × Str)} {δ : De} {ω : Om} {iter : Expr} {pos : Pos} {R : Out → Prop} {ss sa : List Stmt}
/-- for a, b, .. in ..: tuples -/
theorem sd_forU (is : List Nat) {n kk : Nat} {ts : List Expr} {p' : Pos} {items : List (List PyData)} (inv : Nat → De → Om → Prop) (hw : PWk X δ ω (.Tuple ts kk p') iter (items.map .tuple)) (h0 : inv 0 δ ω)
    (hb : ∀ i ds δ' ω', items[i]? = some ds → inv i δ' ω' → SD X W T sa (setAll δ' is ds) ω' (Turn1 inv i (Nxt X W T ss R) R))
    (hd : ∀ δ' ω', inv items.length δ' ω' → SD X W T ss δ' ω' R) (hn : ∀ ds ∈ items, ds.length = n) (hi : is.length = n) (hg : PG X (.Tuple ts kk p') (gTup X.K n (gAll is))) (hp : PassesOwn (model X.prog X.w) X.A X.env X.xe) (hc : X.calm = true) (hs : ∀ x, foldedSetIterable iter X.env x = pure x := by intro _; rfl) : SD X W T (.For (.Tuple ts kk p') iter sa [] pos :: ss) δ ω R := by
  obtain ⟨wi, h1, h2⟩ := hw
  refine sd_cons fun σ H D rl t k => ws (ps_for hp hc h1 hg pss_w hs) (h2 σ H rl _ fun J H1 s1 w => ?_)
  refine ⟨fun i m σ' H' => ∃ δ' ω', m = items.length - i ∧ i ≤ items.length ∧ inv i δ' ω' ∧ Stp T ω ω' H1 H' ∧ Rl X.K H' σ' δ' ω', ⟨items.length, δ, ω, by omega, Nat.zero_le _, h0, .refl, rl.mono s1⟩, ?_⟩
  rintro i m σ' H' ⟨δ', ω', em, hi2, iv, st, rl'⟩
  obtain ⟨go, stop, yld⟩ := w T H' (fun b o z p => (hid_out (st.seen b o z p)).2)
  rw [List.length_map] at go stop yld
  have k1 := k.step (Stp.of s1 : Stp T ω ω H H1)
  by_cases hlt : i < items.length
  · refine .inr ⟨go i hlt, fun σ2 H2 => ∃ δ2 ω2, inv (i + 1) δ2 ω2 ∧ Stp T ω ω2 H1 H2 ∧ Rl X.K H2 σ2 δ2 ω2, fun σ2 H2 ⟨δ2, ω2, a1, a2, a3⟩ => ⟨items.length - (i + 1), by omega, δ2, ω2, rfl, hlt, a1, a2, a3⟩, fun x H2 hy => ?_⟩
    obtain ⟨e2, d, ed, dx⟩ := yld i x H2 hlt hy
    subst e2
    have eds : items[i]? = some items[i] := List.getElem?_eq_getElem hlt
    rw [List.getElem?_map, eds] at ed
    cases ed
    have dx2 := dp_ke st.seen _ x dx
    have k2 := k1.step st
    cases dx2 with
    | tup g1 g2 =>
      refine ⟨_, _, rfl, same_sqt hid_sub g1, by rw [dpa_len g2]; exact hn _ (List.getElem_mem hlt), gAll_ok rl' g2 (hi.trans (hn _ (List.getElem_mem hlt)).symm) fun σ3 l3 => ?_⟩
      refine hb i _ δ' ω' eds iv _ _ _ l3 (st.tab (t.ext s1)) ?_
      exact ⟨fun δ2 ω2 σ2 H2 z q l => ⟨δ2, ω2, z, st.trans q, l⟩, fun r ω2 v H2 z q l dv => k2.rt r ω2 v H2 z q l dv, fun C ω2 σ2 H2 z q l => k2.ex C ω2 σ2 H2 z q l, fun δ2 ω2 σ2 H2 z q l => k2.nx δ2 ω2 σ2 H2 z q l, fun δ2 ω2 σ2 H2 z q l => ⟨δ2, ω2, z, st.trans q, l⟩⟩
  · have e : i = items.length := by omega
    subst e
    exact .inl ⟨stop, (k1.step st).nx δ' ω' σ' H' (hd δ' ω' iv) .refl rl'⟩
end
end FP

namespace K10
open PySem PySem.Spec PyProof.Rows L2 FP
/-! ### the text -/
def top (i : Nat) : Stmt := PySem.Challenge.pw_farpanes_k10_faces.main.body.getD i (.Pass ⟨0, 0, 0, 0⟩)
abbrev s_is_whole : Stmt := top 9
abbrev s_is_within : Stmt := top 10
abbrev s_is_tuple_of : Stmt := top 11
abbrev s_are_signs : Stmt := top 12
abbrev s_is_sign : Stmt := top 13
abbrev s_need_face : Stmt := top 19
abbrev s_need_rows : Stmt := top 20
abbrev s_is_cell : Stmt := top 21
abbrev s_need_size : Stmt := top 22
abbrev s_blank_cells : Stmt := top 23
abbrev s_blank : Stmt := top 24
abbrev s_fitted : Stmt := top 25
abbrev s_fitted_cells : Stmt := top 26
abbrev s_shown : Stmt := top 27
abbrev s__law_cell : Stmt := top 29
abbrev s__law_drawn : Stmt := top 30
abbrev s__law_word : Stmt := top 31
abbrev s__law_told : Stmt := top 32
abbrev s__law_cell_of : Stmt := top 33
abbrev s__law_face : Stmt := top 34
abbrev s__law_size : Stmt := top 35
abbrev s__law_none : Stmt := top 36
abbrev s_law : Stmt := top 37
abbrev dOf (x : Str) (st : Stmt) : He.DefD := ⟨(x, none), x, x, defArgs st, defBody st, defScope st, [], []⟩
def fn : List He.DefD := [dOf "is_whole" s_is_whole, dOf "is_within" s_is_within, dOf "is_tuple_of" s_is_tuple_of, dOf "are_signs" s_are_signs, dOf "is_sign" s_is_sign, dOf "need_face" s_need_face, dOf "need_rows" s_need_rows, dOf "is_cell" s_is_cell, dOf "need_size" s_need_size, dOf "blank_cells" s_blank_cells, dOf "blank" s_blank, dOf "fitted" s_fitted, dOf "fitted_cells" s_fitted_cells, dOf "shown" s_shown, dOf "_law_cell" s__law_cell, dOf "_law_drawn" s__law_drawn, dOf "_law_word" s__law_word, dOf "_law_told" s__law_told, dOf "_law_cell_of" s__law_cell_of, dOf "_law_face" s__law_face, dOf "_law_size" s__law_size, dOf "_law_none" s__law_none, dOf "law" s_law]
def fa : List He.Fa := [.glo "is_whole", .glo "is_within", .glo "is_tuple_of", .glo "are_signs", .glo "is_sign", .glo "need_face", .glo "need_rows", .glo "is_cell", .glo "need_size", .glo "blank_cells", .glo "blank", .glo "fitted", .glo "fitted_cells", .glo "shown", .glo "_law_cell", .glo "_law_drawn", .glo "_law_word", .glo "_law_told", .glo "_law_cell_of", .glo "_law_face", .glo "_law_size", .glo "_law_none", .glo "law", .glo "ScreenError", .glo "BadFace", .glo "BadDeed", .glo "BadTalk", .glo "BadChange", .glo "BadPacket", .free "all", .free "bool", .free "int", .free "isinstance", .free "len", .free "list", .free "max", .free "min", .free "ord", .free "range", .free "str", .free "sum", .free "tuple", .int "PERCENT" 37, .int "MOST_ROWS" 10, .int "MOST_COLUMNS" 20, .int "MOST_INK" 7, .glo "BLANK", .exc "BadFace", .exm "BadFace" "ScreenError" true, .free "ValueError"]
def ex (K : PySem.W.Frag) : Bool := He.tupB K "BLANK" [.str " ", .int 0] && wordB K "BadFace" [("BadChange", false), ("BadDeed", false), ("BadFace", true), ("BadPacket", false), ("BadTalk", false)]
def tf : List He.Defn := [("law", none)]
abbrev R : PySem.W.OpenRow := PySem.W.OpenLaw.row PySem.Challenge.rw_farpanes_k10_faces
abbrev hk : PySem.W.Hook := He.hookX 6 fa fn [] tf ex
def ob (s : PySem.W.SharedT) : He.AlX := He.obsX 6 fa fn [] tf ex (HandSHeadRun.getT s)
theorem ob_eq (s : PySem.W.SharedT) : ob s = hk.obs s.abs := He.obsX_eq (HandSHeadRun.getT_eq s)
def loose0 : List Str := ["ScreenError", "BadFace", "BadDeed", "BadTalk", "BadChange", "BadPacket", "PERCENT", "is_whole", "is_within", "is_tuple_of", "are_signs", "is_sign", "MOST_ROWS", "MOST_COLUMNS", "MOST_INK", "BLANK", "need_face", "need_rows", "is_cell", "need_size", "blank_cells", "blank", "fitted", "fitted_cells", "shown", "_law_cell", "_law_drawn", "_law_word", "_law_told", "_law_cell_of"]
def loose1 : List Str := ["_law_face", "_law_size", "_law_none"]
def loose : List Str := loose0 ++ loose1
set_option maxHeartbeats 0 in
theorem run (w : World) : HandSHeadRun.RunEq R (PySem.W.view R.prog [37]) hk ob 8000 loose w := by
  intro os
  kernel_rfl
end K10

namespace K10
open PySem PySem.Spec PyProof.Rows L2 FP
/-! ### what the top leaves -/
structure Bl (mg : Str → Option Value) : Prop where
  len : mg "len" = none
  range : mg "range" = none
  isi : mg "isinstance" = none
  int : mg "int" = none
  bool : mg "bool" = none
  str : mg "str" = none
  tuple : mg "tuple" = none
  all : mg "all" = none
  ord : mg "ord" = none
  min : mg "min" = none
  max : mg "max" = none
/-! ### mirrors -/
def isWhole : PyData → Bool
  | .int _ => true
  | _ => false
def isWithin (d : PyData) (lo hi : Int) : Bool := match d with
  | .int i => decide (lo ≤ i) && decide (i ≤ hi)
  | _ => false
def isTupleOf (d : PyData) (n : Int) : Bool := match d with
  | .tuple ds => decide ((ds.length : Int) = n)
  | _ => false
def okSign (c : Nat) : Bool := (decide (32 ≤ c) && decide (c ≤ 126)) && !decide (c = 37)
def areSigns (d : PyData) : Bool := match d with
  | .str z => z.cps.toList.all okSign
  | _ => false
def isSign (d : PyData) : Bool := match d with
  | .str z => z.cps.toList.all okSign && decide (z.length = 1)
  | _ => false
def isCell (d : PyData) : Bool := match d with
  | .tuple [a, b] => isSign a && isWithin b 0 7
  | _ => false
def isI : PyData → Bool
  | .int _ => true
  | .bool _ => true
  | _ => false
def isB : PyData → Bool
  | .bool _ => true
  | _ => false
def isS : PyData → Bool
  | .str _ => true
  | _ => false
def isT : PyData → Bool
  | .tuple _ => true
  | _ => false
def isL : PyData → Bool
  | .list _ => true
  | _ => false
theorem k_int : ∀ d : PyData, kitB (kindD d) "int" = some (isI d)
  | .none => (by decide +kernel : kitB "NoneType" "int" = some false)
  | .bool _ => (by decide +kernel : kitB "bool" "int" = some true)
  | .int _ => (by decide +kernel : kitB "int" "int" = some true)
  | .str _ => (by decide +kernel : kitB "str" "int" = some false)
  | .list _ => (by decide +kernel : kitB "list" "int" = some false)
  | .tuple _ => (by decide +kernel : kitB "tuple" "int" = some false)
  | .dict _ => (by decide +kernel : kitB "dict" "int" = some false)
theorem k_bool : ∀ d : PyData, kitB (kindD d) "bool" = some (isB d)
  | .none => (by decide +kernel : kitB "NoneType" "bool" = some false)
  | .bool _ => (by decide +kernel : kitB "bool" "bool" = some true)
  | .int _ => (by decide +kernel : kitB "int" "bool" = some false)
  | .str _ => (by decide +kernel : kitB "str" "bool" = some false)
  | .list _ => (by decide +kernel : kitB "list" "bool" = some false)
  | .tuple _ => (by decide +kernel : kitB "tuple" "bool" = some false)
  | .dict _ => (by decide +kernel : kitB "dict" "bool" = some false)
theorem k_str : ∀ d : PyData, kitB (kindD d) "str" = some (isS d)
  | .none => (by decide +kernel : kitB "NoneType" "str" = some false)
  | .bool _ => (by decide +kernel : kitB "bool" "str" = some false)
  | .int _ => (by decide +kernel : kitB "int" "str" = some false)
  | .str _ => (by decide +kernel : kitB "str" "str" = some true)
  | .list _ => (by decide +kernel : kitB "list" "str" = some false)
  | .tuple _ => (by decide +kernel : kitB "tuple" "str" = some false)
  | .dict _ => (by decide +kernel : kitB "dict" "str" = some false)
theorem k_tuple : ∀ d : PyData, kitB (kindD d) "tuple" = some (isT d)
  | .none => (by decide +kernel : kitB "NoneType" "tuple" = some false)
  | .bool _ => (by decide +kernel : kitB "bool" "tuple" = some false)
  | .int _ => (by decide +kernel : kitB "int" "tuple" = some false)
  | .str _ => (by decide +kernel : kitB "str" "tuple" = some false)
  | .list _ => (by decide +kernel : kitB "list" "tuple" = some false)
  | .tuple _ => (by decide +kernel : kitB "tuple" "tuple" = some true)
  | .dict _ => (by decide +kernel : kitB "dict" "tuple" = some false)
theorem k_list : ∀ d : PyData, kitB (kindD d) "list" = some (isL d)
  | .none => (by decide +kernel : kitB "NoneType" "list" = some false)
  | .bool _ => (by decide +kernel : kitB "bool" "list" = some false)
  | .int _ => (by decide +kernel : kitB "int" "list" = some false)
  | .str _ => (by decide +kernel : kitB "str" "list" = some false)
  | .list _ => (by decide +kernel : kitB "list" "list" = some true)
  | .tuple _ => (by decide +kernel : kitB "tuple" "list" = some false)
  | .dict _ => (by decide +kernel : kitB "dict" "list" = some false)
theorem bb_int : bootBuiltins "int" = some (.type "int") := by decide +kernel
theorem bb_bool : bootBuiltins "bool" = some (.type "bool") := by decide +kernel
theorem bb_str : bootBuiltins "str" = some (.type "str") := by decide +kernel
theorem bb_tuple : bootBuiltins "tuple" = some (.type "tuple") := by decide +kernel
theorem bb_list : bootBuiltins "list" = some (.type "list") := by decide +kernel
section
variable {P : Program} {w : World} {K : PySem.W.Frag} {mg : Str → Option Value} {base : Heap} {f : Addr} {fd : FuncData}
abbrev Df (K : PySem.W.Frag) (x : Str) (st : Stmt) (f : Addr) (fd : FuncData) : Prop := FunD K x x (defArgs st) (defBody st) (defScope st) [] [] f fd
def frWhole : List PyData → Rs → Prop := fun ds r => ∃ d, ds = [d] ∧ r = .ok (.bool (isWhole d))
theorem sc_whole : FnScope ["value"] ["value"] (defScope s_is_whole) := ⟨rfl, rfl, rfl, by decide +kernel, rfl, by decide +kernel, by decide +kernel⟩
theorem ok_whole (F : Df K "is_whole" s_is_whole f fd) (hm : mg "is_whole" = some (.ref f)) (B : Bl mg) : DefOk P w K mg base 1 "is_whole" frWhole := by
  refine def_ok F hm sc_whole (fun _ _ _ _ _ _ us hl => match us, hl with | [_], _ => rfl) (fun ds r h => by obtain ⟨d, rfl, _⟩ := h; rfl) (fun cdv A outer s H E qs ds r hr h => ?_)
  obtain ⟨d, rfl, rfl⟩ := h
  refine sd_ret (pd_and (pd_isi B.isi B.int bb_int (pd_var 0) (k_int d)) (fun _ => pd_one (pd_not (pd_isi B.isi B.bool bb_bool (pd_var 0) (k_bool d))))) ?_
  cases d <;> rfl
def frWithin : List PyData → Rs → Prop := fun ds r => ∃ d lo hi, ds = [d, .int lo, .int hi] ∧ r = .ok (.bool (isWithin d lo hi))
theorem sc_within : FnScope ["value", "least", "most"] ["value", "least", "most"] (defScope s_is_within) := ⟨rfl, rfl, rfl, by decide +kernel, rfl, by decide +kernel, by decide +kernel⟩
theorem ok_within (F : Df K "is_within" s_is_within f fd) (hm : mg "is_within" = some (.ref f)) (G1 : DefOk P w K mg base 1 "is_whole" frWhole) : DefOk P w K mg base 2 "is_within" frWithin := by
  refine def_ok F hm sc_within (fun _ _ _ _ _ _ us hl => match us, hl with | [_, _, _], _ => rfl) (fun ds r h => by obtain ⟨d, lo, hi, rfl, _⟩ := h; rfl) (fun cdv A outer s H E qs ds r hr h => ?_)
  obtain ⟨d, lo, hi, rfl, rfl⟩ := h
  cases hd : isWhole d with
  | false =>
    refine sd_ret (pd_andF (pd_call G1 hr (pds_cons (pd_var 0) pds_nil) ⟨d, rfl, by rw [hd]⟩)) ?_
    cases d <;> first | exact rfl | cases hd
  | true =>
    obtain ⟨i, rfl⟩ : ∃ i, d = .int i := by
      cases d <;> first | exact ⟨_, rfl⟩ | cases hd
    refine sd_ret (pd_and (pd_call G1 hr (pds_cons (pd_var 0) pds_nil) ⟨_, rfl, rfl⟩) (fun _ => pd_one (pd_chain op_le op_le rd_B0 (fun _ => rd_B0) (pd_var 1) (pd_var 0) (fun _ => pd_var 2)))) ?_
    exact rfl
def frTupleOf : List PyData → Rs → Prop := fun ds r => ∃ d n, ds = [d, .int n] ∧ r = .ok (.bool (isTupleOf d n))
theorem sc_tupleof : FnScope ["value", "many"] ["value", "many"] (defScope s_is_tuple_of) := ⟨rfl, rfl, rfl, by decide +kernel, rfl, by decide +kernel, by decide +kernel⟩
theorem ok_tupleof (F : Df K "is_tuple_of" s_is_tuple_of f fd) (hm : mg "is_tuple_of" = some (.ref f)) (B : Bl mg) : DefOk P w K mg base 1 "is_tuple_of" frTupleOf := by
  refine def_ok F hm sc_tupleof (fun _ _ _ _ _ _ us hl => match us, hl with | [_, _], _ => rfl) (fun ds r h => by obtain ⟨d, n, rfl, _⟩ := h; rfl) (fun cdv A outer s H E qs ds r hr h => ?_)
  obtain ⟨d, n, rfl, rfl⟩ := h
  by_cases hd : ∃ ds, d = .tuple ds
  · obtain ⟨ds, rfl⟩ := hd
    refine sd_ret (pd_and (pd_isi B.isi B.tuple bb_tuple (pd_var 0) (k_tuple _)) (fun _ => pd_one (pd_eqI (pd_lenT B.len (pd_var 0)) (pd_var 1)))) ?_
    exact rfl
  · have hk : kitB (kindD d) "tuple" = some false := by
      rw [k_tuple]
      cases d <;> first | rfl | exact absurd ⟨_, rfl⟩ hd
    refine sd_ret (pd_andF (pd_isi B.isi B.tuple bb_tuple (pd_var 0) hk)) ?_
    cases d <;> first | exact rfl | exact absurd ⟨_, rfl⟩ hd
def frSigns : List PyData → Rs → Prop := fun ds r => ∃ d, ds = [d] ∧ r = .ok (.bool (areSigns d)) ∧ ∀ z, d = .str z → z.length ≤ 1000
theorem sc_signs : FnScope ["value", "sign"] ["value"] (defScope s_are_signs) := ⟨rfl, rfl, rfl, by decide +kernel, rfl, by decide +kernel, by decide +kernel⟩
theorem rd_leS {K : PySem.W.Frag} {y z : Str} : RD K (fun x y H Q => ∃ i j, x = .str i ∧ y = .str j ∧ Q (.bl (!decide (j.cps.toList < i.cps.toList))) H) (.str y) (.str z) (.bool (!decide (z.cps.toList < y.cps.toList))) := fun ps x w H t hx hy Q q => by
  cases hx
  cases hy
  exact ⟨y, z, rfl, rfl, q _ H (Same.refl H) (.bl _)⟩
theorem le_one (a b : Nat) : (!decide (([b] : List Nat) < [a])) = decide (a ≤ b) := by
  by_cases h : a ≤ b
  · rw [decide_eq_true h, decide_eq_false]
    · rfl
    · intro z
      simp only [List.cons_lt_cons_iff] at z
      rcases z with z | ⟨_, z⟩
      · omega
      · exact absurd z (by simp)
  · rw [decide_eq_false h, decide_eq_true]
    · rfl
    · simp only [List.cons_lt_cons_iff]
      left
      omega
theorem ok_signs (F : Df K "are_signs" s_are_signs f fd) (hm : mg "are_signs" = some (.ref f)) (B : Bl mg) (hp : GlD K mg "PERCENT" (.int 37)) : DefOk P w K mg base 1 "are_signs" frSigns := by
  refine def_ok F hm sc_signs (fun _ _ _ _ _ _ us hl => match us, hl with | [_], _ => rfl) (fun ds r h => by obtain ⟨d, rfl, _⟩ := h; rfl) (fun cdv A outer s H E qs ds r hr h => ?_)
  obtain ⟨d, rfl, rfl, hz⟩ := h
  by_cases hd : ∃ z, d = .str z
  · obtain ⟨z, rfl⟩ := hd
    refine sd_ifF (pt_notd (k := true) (pt_bool (pd_isi B.isi B.str bb_str (pd_var 0) (k_str _)))) ?_
    have hl : (signsD z).length = z.length := by
      unfold signsD
      rw [List.length_map, Array.length_toList]
      rfl
    refine sd_ret (d := .bool ((z.cps.toList.map okSign).all id)) (pd_all rfl B.all (PN.pl (pn_lc (y := "sign") (j := 1) (items := signsD z) rfl sc_signs.nd (PWk.ws (wk_str (pd_var 0))) ?_ (blkOk_by (N := ["value", "sign"]) (sc := defScope s_are_signs) (by decide +kernel)) (fun _ _ _ _ _ => pg_name sc_signs.nd rfl (Or.inl rfl)) ?_ (by rw [hl]; exact Nat.le_trans (hz z rfl) (by decide))))) ?_
    · unfold signsD
      rw [List.length_map, List.length_map, List.length_map]
    · intro i d y hd hy D o s H C cl fp
      unfold signsD at hd
      rw [List.getElem?_map] at hd
      rw [List.getElem?_map, List.getElem?_map] at hy
      cases hc : z.cps.toList[i]? with
      | none =>
        rw [hc] at hd
        cases hd
      | some c =>
        rw [hc] at hd hy
        cases hd
        cases hy
        refine PD.eq (pd_and (pd_chain op_le_str op_le_str rd_leS (fun _ => rd_leS) pd_str (pd_var 1) (fun _ => pd_str)) (fun _ => pd_one (pd_neI (pd_ord B.ord (pd_var 1) rfl rfl) (pd_glob hp)))) ?_
        show PyData.bool ((!decide (([c] : List Nat) < [32]) && !decide (([126] : List Nat) < [c])) && !decide (((c : Nat) : Int) = 37)) = PyData.bool (okSign c)
        rw [le_one, le_one]
        unfold okSign
        have e : decide (((c : Nat) : Int) = 37) = decide (c = 37) := by
          by_cases h : c = 37
          · rw [decide_eq_true h, decide_eq_true (by omega)]
          · rw [decide_eq_false h, decide_eq_false (by omega)]
        rw [e]
    · show Rs.ok (.bool (z.cps.toList.all okSign)) = Rs.ok (.bool _)
      rw [List.all_map]
      rfl
  · have hk : kitB (kindD d) "str" = some false := by
      rw [k_str]
      cases d <;> first | rfl | exact absurd ⟨_, rfl⟩ hd
    refine sd_ifT (pt_notd (k := false) (pt_bool (pd_isi B.isi B.str bb_str (pd_var 0) hk))) (sd_ret pd_bl ?_)
    cases d <;> first | exact rfl | exact absurd ⟨_, rfl⟩ hd
end
end K10

namespace K10
open PySem PySem.Spec PyProof.Rows L2 FP
/-! ### smallness -/
def smS (d : PyData) : Prop := ∀ z, d = .str z → z.length ≤ 1000
def smC (d : PyData) : Prop := ∀ ds, d = .tuple ds → ∀ x ∈ ds, smS x
def smR (d : PyData) : Prop := ∀ ds, d = .tuple ds → ds.length ≤ 1000 ∧ ∀ x ∈ ds, smC x
def smRs (d : PyData) : Prop := ∀ ds, d = .tuple ds → ds.length ≤ 1000 ∧ ∀ x ∈ ds, smR x
def smF (d : PyData) : Prop := ∀ ds, d = .tuple ds → ∀ x ∈ ds, smRs x
/-! ### mirrors -/
def lenT : PyData → Nat
  | .tuple ds => ds.length
  | _ => 0
def itemsT : PyData → List PyData
  | .tuple ds => ds
  | _ => []
def okSize (h w : PyData) : Bool := isWithin h 1 10 && isWithin w 1 20
def okRow (n : Nat) (c : PyData) : Bool := decide (lenT c = n) && (itemsT c).all isCell
def isRows (d : PyData) : Bool := match d with
  | .tuple (r0 :: rs) => (r0 :: rs).all isT && (okSize (.int (rs.length + 1 : Nat)) (.int (lenT r0 : Nat)) && (r0 :: rs).all (okRow (lenT r0)))
  | _ => false
def isFace (d : PyData) : Bool := match d with
  | .tuple [rows, row, col] => isRows rows && (isWithin row 0 ((lenT rows : Int) - 1) && isWithin col 0 ((lenT ((itemsT rows).headD .none) : Int) - 1))
  | _ => false
section
variable {P : Program} {w : World} {K : PySem.W.Frag} {mg : Str → Option Value} {base : Heap} {f C : Addr} {fd : FuncData}
def frSign : List PyData → Rs → Prop := fun ds r => ∃ d, ds = [d] ∧ r = .ok (.bool (isSign d)) ∧ smS d
theorem sc_sign : FnScope ["value"] ["value"] (defScope s_is_sign) := ⟨rfl, rfl, rfl, by decide +kernel, rfl, by decide +kernel, by decide +kernel⟩
theorem ok_sign (F : Df K "is_sign" s_is_sign f fd) (hm : mg "is_sign" = some (.ref f)) (B : Bl mg) (G1 : DefOk P w K mg base 1 "are_signs" frSigns) : DefOk P w K mg base 2 "is_sign" frSign := by
  refine def_ok F hm sc_sign (fun _ _ _ _ _ _ us hl => match us, hl with | [_], _ => rfl) (fun ds r h => by obtain ⟨d, rfl, _⟩ := h; rfl) (fun cdv A outer s H E qs ds r hr h => ?_)
  obtain ⟨d, rfl, rfl, hz⟩ := h
  by_cases hd : ∃ z, d = .str z
  · obtain ⟨z, rfl⟩ := hd
    refine sd_ret (pd_and (pd_call G1 hr (pds_cons (pd_var 0) pds_nil) ⟨_, rfl, rfl, hz⟩) (fun _ => pd_one (pd_eqI (pd_lenS B.len (pd_var 0) (Nat.le_trans (hz z rfl) (by decide))) pd_int))) ?_
    show Rs.ok (.bool (z.cps.toList.all okSign && decide (z.length = 1))) = Rs.ok (.bool (z.cps.toList.all okSign && decide (((z.length : Nat) : Int) = 1)))
    have e : decide (((z.length : Nat) : Int) = 1) = decide (z.length = 1) := by
      by_cases h : z.length = 1
      · rw [decide_eq_true h, decide_eq_true (by omega)]
      · rw [decide_eq_false h, decide_eq_false (by omega)]
    rw [e]
  · have e1 : areSigns d = false := by cases d <;> first | rfl | exact absurd ⟨_, rfl⟩ hd
    refine sd_ret (pd_andF (pd_call G1 hr (pds_cons (pd_var 0) pds_nil) ⟨_, rfl, by rw [e1], hz⟩)) ?_
    cases d <;> first | exact rfl | exact absurd ⟨_, rfl⟩ hd
def frCell : List PyData → Rs → Prop := fun ds r => ∃ d, ds = [d] ∧ r = .ok (.bool (isCell d)) ∧ smC d
theorem sc_cell : FnScope ["cell"] ["cell"] (defScope s_is_cell) := ⟨rfl, rfl, rfl, by decide +kernel, rfl, by decide +kernel, by decide +kernel⟩
theorem two_of {d : PyData} (h : isTupleOf d 2 = true) : ∃ a b, d = .tuple [a, b] := by
  cases d with
  | tuple ds =>
    have e : (ds.length : Int) = 2 := of_decide_eq_true h
    match ds, e with
    | [a, b], _ => exact ⟨a, b, rfl⟩
    | [], e => exact absurd e (by simp)
    | [_], e => exact absurd e (by simp)
    | _ :: _ :: _ :: r, e => exact absurd e (by simp only [List.length_cons]; omega)
  | _ => cases h
theorem ok_cell (F : Df K "is_cell" s_is_cell f fd) (hm : mg "is_cell" = some (.ref f)) (G1 : DefOk P w K mg base 1 "is_tuple_of" frTupleOf) (G2 : DefOk P w K mg base 2 "is_sign" frSign) (G3 : DefOk P w K mg base 2 "is_within" frWithin) (gi : GlD K mg "MOST_INK" (.int 7)) :
    DefOk P w K mg base 3 "is_cell" frCell := by
  refine def_ok F hm sc_cell (fun _ _ _ _ _ _ us hl => match us, hl with | [_], _ => rfl) (fun ds r h => by obtain ⟨d, rfl, _⟩ := h; rfl) (fun cdv A outer s H E qs ds r hr h => ?_)
  obtain ⟨d, rfl, rfl, hz⟩ := h
  cases ht : isTupleOf d 2 with
  | false =>
    refine sd_ret (pd_andF (pd_call (G1.mono (by decide)) hr (pds_cons (pd_var 0) (pds_cons pd_int pds_nil)) ⟨_, _, rfl, by rw [ht]⟩)) ?_
    have e : isCell d = false := by
      cases d with
      | tuple ds => match ds, ht with
        | [a, b], ht => cases ht
        | [], _ => rfl
        | [_], _ => rfl
        | _ :: _ :: _ :: _, _ => rfl
      | _ => rfl
    show Rs.ok (.bool (isCell d)) = _
    rw [e]
  | true =>
    obtain ⟨a, b, rfl⟩ := two_of ht
    refine sd_ret (pd_and (pd_call (G1.mono (by decide)) hr (pds_cons (pd_var 0) (pds_cons pd_int pds_nil)) ⟨_, _, rfl, rfl⟩) (fun _ =>
      pd_and (pd_call G2 hr (pds_cons (pd_ixT (d := a) (pd_var 0) pd_int rfl) pds_nil) ⟨_, rfl, rfl, hz _ rfl a (by simp)⟩) (fun _ =>
      pd_one (pd_call G3 hr (pds_cons (pd_ixT (d := b) (pd_var 0) pd_int rfl) (pds_cons pd_int (pds_cons (pd_glob gi) pds_nil))) ⟨_, _, _, rfl, rfl⟩)))) ?_
    exact rfl
def frSize (C : Addr) : List PyData → Rs → Prop := fun ds r => ∃ h w, ds = [h, w] ∧ r = if okSize h w then .ok .none else .er C
theorem sc_size : FnScope ["height", "width"] ["height", "width"] (defScope s_need_size) := ⟨rfl, rfl, rfl, by decide +kernel, rfl, by decide +kernel, by decide +kernel⟩
theorem ok_size (F : Df K "need_size" s_need_size f fd) (hm : mg "need_size" = some (.ref f)) (X1 : ExcF K mg "BadFace" C) (G1 : DefOk P w K mg base 2 "is_within" frWithin) (g1 : GlD K mg "MOST_ROWS" (.int 10)) (g2 : GlD K mg "MOST_COLUMNS" (.int 20)) :
    DefOk P w K mg base 3 "need_size" (frSize C) := by
  refine def_ok F hm sc_size (fun _ _ _ _ _ _ us hl => match us, hl with | [_, _], _ => rfl) (fun ds r h => by obtain ⟨_, _, rfl, _⟩ := h; rfl) (fun cdv A outer s H E qs ds r hr h => ?_)
  obtain ⟨a, b, rfl, rfl⟩ := h
  cases h1 : isWithin a 1 10 with
  | false =>
    refine sd_ifT (pt_notd (k := false) (pt_bool (pd_call G1 hr (pds_cons (pd_var 0) (pds_cons pd_int (pds_cons (pd_glob g1) pds_nil))) ⟨_, _, _, rfl, by rw [h1]⟩))) (sd_raise X1 (L2N.takes_of rfl rfl rfl rfl) ?_ rfl)
    show (if okSize a b = true then Rs.ok .none else Rs.er C) = Rs.er C
    unfold okSize
    rw [h1]
    rfl
  | true =>
    refine sd_ifF (pt_notd (k := true) (pt_bool (pd_call G1 hr (pds_cons (pd_var 0) (pds_cons pd_int (pds_cons (pd_glob g1) pds_nil))) ⟨_, _, _, rfl, by rw [h1]⟩))) ?_
    cases h2 : isWithin b 1 20 with
    | false =>
      refine sd_ifT (pt_notd (k := false) (pt_bool (pd_call G1 hr (pds_cons (pd_var 1) (pds_cons pd_int (pds_cons (pd_glob g2) pds_nil))) ⟨_, _, _, rfl, by rw [h2]⟩))) (sd_raise X1 (L2N.takes_of rfl rfl rfl rfl) ?_ rfl)
      show (if okSize a b = true then Rs.ok .none else Rs.er C) = Rs.er C
      unfold okSize
      rw [h1, h2]
      rfl
    | true =>
      refine sd_ifF (pt_notd (k := true) (pt_bool (pd_call G1 hr (pds_cons (pd_var 1) (pds_cons pd_int (pds_cons (pd_glob g2) pds_nil))) ⟨_, _, _, rfl, by rw [h2]⟩))) (sd_nil ?_)
      show (if okSize a b = true then Rs.ok .none else Rs.er C) = Rs.ok .none
      unfold okSize
      rw [h1, h2]
      rfl
def frRows (C : Addr) : List PyData → Rs → Prop := fun ds r => ∃ d, ds = [d] ∧ (r = if isRows d then .ok .none else .er C) ∧ smRs d
theorem sc_rows : FnScope ["rows", "cells", "cell"] ["rows"] (defScope s_need_rows) := ⟨rfl, rfl, rfl, by decide +kernel, rfl, by decide +kernel, by decide +kernel⟩
theorem isT_of {d : PyData} (h : isT d = true) : ∃ ds, d = .tuple ds := by
  cases d with
  | tuple ds => exact ⟨ds, rfl⟩
  | _ => cases h
theorem ok_rows (F : Df K "need_rows" s_need_rows f fd) (hm : mg "need_rows" = some (.ref f)) (B : Bl mg) (X1 : ExcF K mg "BadFace" C) (G1 : DefOk P w K mg base 3 "need_size" (frSize C)) (G2 : DefOk P w K mg base 3 "is_cell" frCell) :
    DefOk P w K mg base 4 "need_rows" (frRows C) := by
  refine def_ok F hm sc_rows (fun _ _ _ _ _ _ us hl => match us, hl with | [_], _ => rfl) (fun ds r h => by obtain ⟨_, rfl, _⟩ := h; rfl) (fun cdv A outer s H E qs ds r hr h => ?_)
  obtain ⟨d, rfl, er, hz⟩ := h
  have tk : L2N.Takes (cxOf (L2N.CX P w) P w K mg base ["rows", "cells", "cell"] "need_rows" (defScope s_need_rows) f cdv A outer s H E) (WOf E) := L2N.takes_of rfl rfl rfl rfl
  by_cases hd : ∃ rs, d = .tuple rs
  · obtain ⟨rs, rfl⟩ := hd
    obtain ⟨hz1, hz2⟩ := hz rs rfl
    have eall : (rs.map isT).all id = rs.all isT := by rw [List.all_map]; rfl
    refine sd_if (PWd.pt (pw_ord (pt_notd (pt_bool (pd_isi B.isi B.tuple bb_tuple (pd_var 0) (k_tuple _)))) (fun _ => pw_or1d (pt_notd (pt_bool (pd_all (bs := rs.map isT) rfl B.all
      (PN.pl (pn_lc (y := "cells") (j := 1) (items := rs) rfl sc_rows.nd (PWk.ws (wk_tup (pd_var 0))) (by rw [List.length_map, List.length_map]) (blkOk_by (N := ["rows", "cells", "cell"]) (sc := defScope s_need_rows) (by decide +kernel)) (fun _ _ _ _ _ => pg_name sc_rows.nd rfl (Or.inl rfl)) ?el (Nat.le_trans hz1 (by decide)))))))))) (fun hk => ?raise) (fun hk => sd_nil ?rest)
    case el =>
      intro i d y hd hy D o s H C cl fp
      rw [List.getElem?_map, List.getElem?_map, hd] at hy
      cases hy
      exact pd_isi B.isi B.tuple bb_tuple (pd_var 1) (k_tuple d)
    case raise =>
      rw [eall] at hk
      have hk2 : rs.all isT = false := by
        have : (false || !rs.all isT) = true := hk
        cases h : rs.all isT with
        | false => rfl
        | true => rw [h] at this; cases this
      refine sd_raise X1 tk ?_ rfl
      show r = Rs.er C
      rw [er]
      have e : isRows (.tuple rs) = false := by
        cases rs with
        | nil => rfl
        | cons r0 rs =>
          show ((r0 :: rs).all isT && _) = false
          rw [hk2]
          rfl
      rw [e]
      rfl
    case rest =>
      rw [eall] at hk
      have hk2 : rs.all isT = true := by
        have : (false || !rs.all isT) = false := hk
        cases h : rs.all isT with
        | true => rfl
        | false => rw [h] at this; cases this
      cases rs with
      | nil =>
        refine sd_ifT (pt_notd (k := false) (pt_truT (pd_var 0) rfl)) (sd_raise X1 tk ?_ rfl)
        show r = Rs.er C
        rw [er]
        rfl
      | cons r0 rs =>
        have ht0 : isT r0 = true := by
          rw [List.all_cons, Bool.and_eq_true] at hk2
          exact hk2.1
        obtain ⟨c0, rfl⟩ := isT_of ht0
        refine sd_ifF (pt_notd (k := true) (pt_truT (pd_var 0) rfl)) ?_
        refine sd_callX G1 hr tk (pds_cons (pd_lenT B.len (pd_var 0)) (pds_cons (pd_lenT B.len (pd_ixT (d := .tuple c0) (pd_var 0) pd_int atI0)) pds_nil)) ⟨_, _, rfl, rfl⟩ (fun d0 h0 => ?_) (fun C' h0 => ?_)
        · have hs : okSize (.int (((PyData.tuple c0 :: rs).length : Nat) : Int)) (.int ((c0.length : Nat) : Int)) = true := by
            cases h : okSize (.int (((PyData.tuple c0 :: rs).length : Nat) : Int)) (.int ((c0.length : Nat) : Int)) with
            | true => rfl
            | false => rw [h] at h0; cases h0
          have eR : isRows (.tuple (.tuple c0 :: rs)) = (PyData.tuple c0 :: rs).all (okRow c0.length) := by
            show ((PyData.tuple c0 :: rs).all isT && (okSize (.int (((PyData.tuple c0 :: rs).length : Nat) : Int)) (.int ((c0.length : Nat) : Int)) && (PyData.tuple c0 :: rs).all (okRow c0.length))) = _
            rw [hk2, hs]
            rfl
          rw [eR] at er
          generalize hrs : PyData.tuple c0 :: rs = all at *
          have hget0 : ∀ i d, all[i]? = some d → isT d = true := fun i d h => List.all_eq_true.mp hk2 d (List.mem_of_getElem? h)
          refine sd_for 1 (items := all) (fun i δ' ω' => ω' = ⟨qs, []⟩ ∧ δ'[0]? = some (some (.im (.tuple all))) ∧ δ'.length = 3 ∧ (all.take i).all (okRow c0.length) = true) (wk_tup (pd_var 0)) ⟨rfl, rfl, rfl, rfl⟩ (fun i d δ' ω' hi hv => ?_) (fun δ' ω' hv => sd_nil ?_) (pg_name sc_rows.nd rfl (Or.inl rfl)) (passes_of rfl) rfl
          · obtain ⟨rfl, h0', hl, hv⟩ := hv
            obtain ⟨cs, rfl⟩ := isT_of (hget0 i d hi)
            match δ', hl, h0' with
            | [_, y1, y2], _, h0' =>
              cases h0'
              have hi1 : (all.take (i + 1)).all (okRow c0.length) = okRow c0.length (.tuple cs) := by
                rw [List.take_add_one, hi, List.all_append, hv]
                simp
              have hat : atI all 0 = some (.tuple c0) := by
                rw [← hrs]
                exact atI0
              have bad : okRow c0.length (.tuple cs) = false → r = Rs.er C := fun z => by
                rw [er]
                have e : all.all (okRow c0.length) = false := by
                  cases h : all.all (okRow c0.length) with
                  | false => rfl
                  | true =>
                    rw [List.all_eq_true.mp h _ (List.mem_of_getElem? hi)] at z
                    cases z
                rw [e]
                rfl
              obtain ⟨hz3, hz4⟩ := hz2 _ (List.mem_of_getElem? hi) cs rfl
              refine sd_if (pt_cmpd op_ne rd_neI (pd_lenT B.len (pd_var 1)) (pd_lenT B.len (pd_ixT (d := .tuple c0) (pd_var 0) pd_int hat)) (nomark _)) (fun hk => ?_) (fun hk => sd_nil ?_)
              · refine sd_raise X1 tk (bad ?_) rfl
                have hne : ¬ cs.length = c0.length := fun z => by
                  rw [z] at hk
                  simp at hk
                show (decide (cs.length = c0.length) && _) = false
                rw [decide_eq_false hne]
                rfl
              · have heq : cs.length = c0.length := by
                  by_cases z : cs.length = c0.length
                  · exact z
                  · rw [decide_eq_false (by omega)] at hk
                    cases hk
                refine sd_if (pt_notd (pt_bool (pd_all (bs := cs.map isCell) rfl B.all (PN.pl (pn_lc (y := "cell") (j := 2) (items := cs) rfl sc_rows.nd (PWk.ws (wk_tup (pd_var 1))) (by rw [List.length_map, List.length_map]) (blkOk_by (N := ["rows", "cells", "cell"]) (sc := defScope s_need_rows) (by decide +kernel)) (fun _ _ _ _ _ => pg_name sc_rows.nd rfl (Or.inl rfl)) ?_ (Nat.le_trans hz3 (by decide))))))) (fun hk => ?_) (fun hk => sd_nil (sd_nil ?_))
                · intro i d y hd hy D o s H C cl fp
                  rw [List.getElem?_map, List.getElem?_map, hd] at hy
                  cases hy
                  exact pd_call G2 hr (pds_cons (pd_var 2) pds_nil) ⟨_, rfl, rfl, hz4 d (List.mem_of_getElem? hd)⟩
                · refine sd_raise X1 tk (bad ?_) rfl
                  have e : cs.all isCell = false := by
                    rw [List.all_map] at hk
                    have h2 : (!cs.all isCell) = true := hk
                    cases h : cs.all isCell with
                    | false => rfl
                    | true => rw [h] at h2; cases h2
                  show (_ && cs.all isCell) = false
                  rw [e, Bool.and_false]
                · refine ⟨rfl, rfl, rfl, ?_⟩
                  rw [hi1]
                  have e : cs.all isCell = true := by
                    rw [List.all_map] at hk
                    have h2 : (!cs.all isCell) = false := hk
                    cases h : cs.all isCell with
                    | true => rfl
                    | false => rw [h] at h2; cases h2
                  show (decide (cs.length = c0.length) && cs.all isCell) = true
                  rw [e, decide_eq_true heq]
                  rfl
          · obtain ⟨_, _, _, hv⟩ := hv
            rw [List.take_length] at hv
            show r = Rs.ok .none
            rw [er, hv]
            rfl
        · show r = Rs.er C'
          have hs : okSize (.int (((PyData.tuple c0 :: rs).length : Nat) : Int)) (.int ((c0.length : Nat) : Int)) = false := by
            cases h : okSize (.int (((PyData.tuple c0 :: rs).length : Nat) : Int)) (.int ((c0.length : Nat) : Int)) with
            | false => rfl
            | true => rw [h] at h0; cases h0
          rw [hs] at h0
          cases h0
          rw [er]
          have e : isRows (.tuple (.tuple c0 :: rs)) = false := by
            show ((PyData.tuple c0 :: rs).all isT && (okSize (.int (((PyData.tuple c0 :: rs).length : Nat) : Int)) (.int ((c0.length : Nat) : Int)) && _)) = false
            rw [hs, Bool.false_and, Bool.and_false]
          rw [e]
          rfl
  · have hk : kitB (kindD d) "tuple" = some false := by
      rw [k_tuple]
      cases d <;> first | rfl | exact absurd ⟨_, rfl⟩ hd
    refine sd_ifT (PWd.pt (pw_orT (pt_notd (k := false) (pt_bool (pd_isi B.isi B.tuple bb_tuple (pd_var 0) hk))))) (sd_raise X1 tk ?_ rfl)
    show r = Rs.er C
    rw [er]
    cases d <;> first | rfl | exact absurd ⟨_, rfl⟩ hd
end
end K10

namespace K10
open PySem PySem.Spec PyProof.Rows L2 FP
section
variable {P : Program} {w : World} {K : PySem.W.Frag} {mg : Str → Option Value} {base : Heap} {f C : Addr} {fd : FuncData}
def frFace (C : Addr) : List PyData → Rs → Prop := fun ds r => ∃ d, ds = [d] ∧ (r = if isFace d then .ok .none else .er C) ∧ smF d
theorem sc_face : FnScope ["face", "rows", "row", "column"] ["face"] (defScope s_need_face) := ⟨rfl, rfl, rfl, by decide +kernel, rfl, by decide +kernel, by decide +kernel⟩
theorem three_of {d : PyData} (h : isTupleOf d 3 = true) : ∃ a b c, d = .tuple [a, b, c] := by
  cases d with
  | tuple ds =>
    have e : (ds.length : Int) = 3 := of_decide_eq_true h
    match ds, e with
    | [a, b, c], _ => exact ⟨a, b, c, rfl⟩
    | [], e => exact absurd e (by simp)
    | [_], e => exact absurd e (by simp)
    | [_, _], e => exact absurd e (by simp)
    | _ :: _ :: _ :: _ :: r, e => exact absurd e (by simp only [List.length_cons]; omega)
  | _ => cases h
theorem rows_of {d : PyData} (h : isRows d = true) : ∃ c0 rs, d = .tuple (.tuple c0 :: rs) := by
  cases d with
  | tuple ds =>
    cases ds with
    | nil => cases h
    | cons r0 rs =>
      have h1 : ((r0 :: rs).all isT && _) = true := h
      rw [Bool.and_eq_true] at h1
      have h2 := h1.1
      rw [List.all_cons, Bool.and_eq_true] at h2
      obtain ⟨c0, rfl⟩ := isT_of h2.1
      exact ⟨c0, rs, rfl⟩
  | _ => cases h
theorem ok_face (F : Df K "need_face" s_need_face f fd) (hm : mg "need_face" = some (.ref f)) (B : Bl mg) (X1 : ExcF K mg "BadFace" C) (G1 : DefOk P w K mg base 1 "is_tuple_of" frTupleOf) (G2 : DefOk P w K mg base 4 "need_rows" (frRows C)) (G3 : DefOk P w K mg base 2 "is_within" frWithin) :
    DefOk P w K mg base 5 "need_face" (frFace C) := by
  refine def_ok F hm sc_face (fun _ _ _ _ _ _ us hl => match us, hl with | [_], _ => rfl) (fun ds r h => by obtain ⟨_, rfl, _⟩ := h; rfl) (fun cdv A outer s H E qs ds r hr h => ?_)
  obtain ⟨d, rfl, er, hz⟩ := h
  have tk : L2N.Takes (cxOf (L2N.CX P w) P w K mg base ["face", "rows", "row", "column"] "need_face" (defScope s_need_face) f cdv A outer s H E) (WOf E) := L2N.takes_of rfl rfl rfl rfl
  refine sd_if (pt_notd (pt_bool (pd_call (G1.mono (by decide)) hr (pds_cons (pd_var 0) (pds_cons pd_int pds_nil)) ⟨_, _, rfl, rfl⟩))) (fun hk => sd_raise X1 tk ?_ rfl) (fun hk => sd_nil ?_)
  · show r = Rs.er C
    rw [er]
    have e : isFace d = false := by
      cases d with
      | tuple ds => match ds, hk with
        | [], _ => rfl
        | [_], _ => rfl
        | [_, _], _ => rfl
        | [_, _, _], hk => cases hk
        | _ :: _ :: _ :: _ :: _, _ => rfl
      | _ => rfl
    rw [e]
    rfl
  · have ht : isTupleOf d 3 = true := by
      cases h : isTupleOf d 3 with
      | true => rfl
      | false => rw [h] at hk; cases hk
    obtain ⟨rows, row, col, rfl⟩ := three_of ht
    have hzr : smRs rows := hz _ rfl rows (by simp)
    refine sd_unp [1, 2, 3] (pd_var 0) (pg_tup rfl (pgs_cons (pg_name sc_face.nd rfl (.inl rfl)) (pgs_cons (pg_name sc_face.nd rfl (.inl rfl)) (pgs_cons (pg_name sc_face.nd rfl (.inl rfl)) pgs_nil)))) rfl rfl ?_
    refine sd_callX G2 hr tk (pds_cons (pd_var 1) pds_nil) ⟨_, rfl, rfl, hzr⟩ (fun d0 h0 => ?_) (fun C' h0 => ?_)
    · have hR : isRows rows = true := by
        cases h : isRows rows with
        | true => rfl
        | false => rw [h] at h0; cases h0
      obtain ⟨c0, rs, rfl⟩ := rows_of hR
      have eF : isFace (.tuple [.tuple (.tuple c0 :: rs), row, col]) = (isWithin row 0 ((((PyData.tuple c0 :: rs).length : Nat) : Int) - 1) && isWithin col 0 (((c0.length : Nat) : Int) - 1)) := by
        show (isRows _ && _) = _
        rw [hR]
        rfl
      rw [eF] at er
      refine sd_if (pt_notd (pt_bool (pd_call (G3.mono (by decide)) hr (pds_cons (pd_var 2) (pds_cons pd_int (pds_cons (pd_sub (pd_lenT B.len (pd_var 1)) pd_int) pds_nil))) ⟨_, _, _, rfl, rfl⟩))) (fun hk => sd_raise X1 tk ?_ rfl) (fun hk => sd_nil ?_)
      · show r = Rs.er C
        rw [er]
        have e : isWithin row 0 ((((PyData.tuple c0 :: rs).length : Nat) : Int) - 1) = false := by
          cases h : isWithin row 0 ((((PyData.tuple c0 :: rs).length : Nat) : Int) - 1) with
          | false => rfl
          | true => rw [h] at hk; cases hk
        rw [e]
        rfl
      · have e : isWithin row 0 ((((PyData.tuple c0 :: rs).length : Nat) : Int) - 1) = true := by
          cases h : isWithin row 0 ((((PyData.tuple c0 :: rs).length : Nat) : Int) - 1) with
          | true => rfl
          | false => rw [h] at hk; cases hk
        rw [e] at er
        refine sd_if (pt_notd (pt_bool (pd_call (G3.mono (by decide)) hr (pds_cons (pd_var 3) (pds_cons pd_int (pds_cons (pd_sub (pd_lenT B.len (pd_ixT (d := .tuple c0) (pd_var 1) pd_int atI0)) pd_int) pds_nil))) ⟨_, _, _, rfl, rfl⟩))) (fun hk => sd_raise X1 tk ?_ rfl) (fun hk => sd_nil (sd_nil ?_))
        · show r = Rs.er C
          rw [er]
          cases h : isWithin col 0 (((c0.length : Nat) : Int) - 1) with
          | false => rfl
          | true => rw [h] at hk; cases hk
        · show r = Rs.ok .none
          rw [er]
          cases h : isWithin col 0 (((c0.length : Nat) : Int) - 1) with
          | true => rfl
          | false => rw [h] at hk; cases hk
    · show r = Rs.er C'
      have e : isRows rows = false := by
        cases h : isRows rows with
        | false => rfl
        | true => rw [h] at h0; cases h0
      rw [e] at h0
      cases h0
      rw [er]
      have e2 : isFace (.tuple [rows, row, col]) = false := by
        show (isRows _ && _) = false
        rw [e]
        rfl
      rw [e2]
      rfl
/-! ### faces made -/
def blankC : PyData := .tuple [.str (Str.ofString " "), .int 0]
def frBlankCells : List PyData → Rs → Prop := fun ds r => ∃ n : Int, ds = [.int n] ∧ -1000 ≤ n ∧ n ≤ 1000 ∧ r = .ok (.tuple (List.replicate n.toNat blankC))
theorem sc_bcells : FnScope ["width"] ["width"] (defScope s_blank_cells) := ⟨rfl, rfl, rfl, by decide +kernel, rfl, by decide +kernel, by decide +kernel⟩
theorem ok_bcells (F : Df K "blank_cells" s_blank_cells f fd) (hm : mg "blank_cells" = some (.ref f)) (g : GlD K mg "BLANK" blankC) : DefOk P w K mg base 1 "blank_cells" frBlankCells := by
  refine def_ok F hm sc_bcells (fun _ _ _ _ _ _ us hl => match us, hl with | [_], _ => rfl) (fun ds r h => by obtain ⟨_, rfl, _⟩ := h; rfl) (fun cdv A outer s H E qs ds r hr h => ?_)
  obtain ⟨n, rfl, h1, h2, rfl⟩ := h
  refine sd_ret (pd_rep1 (pd_tup (pds_cons (pd_glob g) pds_nil)) (pd_var 0) h1 h2) ?_
  exact rfl
def blankF (h w : Nat) : PyData := .tuple [.tuple (List.replicate h (.tuple (List.replicate w blankC))), .int 0, .int 0]
def frBlank (C : Addr) : List PyData → Rs → Prop := fun ds r => ∃ h w : Int, ds = [.int h, .int w] ∧ r = if okSize (.int h) (.int w) then .ok (blankF h.toNat w.toNat) else .er C
theorem sc_blank : FnScope ["height", "width"] ["height", "width"] (defScope s_blank) := ⟨rfl, rfl, rfl, by decide +kernel, rfl, by decide +kernel, by decide +kernel⟩
theorem size_b {h w : Int} (e : okSize (.int h) (.int w) = true) : 1 ≤ h ∧ h ≤ 10 ∧ 1 ≤ w ∧ w ≤ 20 := by
  have e1 : ((decide (1 ≤ h) && decide (h ≤ 10)) && (decide (1 ≤ w) && decide (w ≤ 20))) = true := e
  simp only [Bool.and_eq_true, decide_eq_true_eq] at e1
  omega
theorem ok_blank (F : Df K "blank" s_blank f fd) (hm : mg "blank" = some (.ref f)) (G1 : DefOk P w K mg base 3 "need_size" (frSize C)) (G2 : DefOk P w K mg base 1 "blank_cells" frBlankCells) : DefOk P w K mg base 4 "blank" (frBlank C) := by
  refine def_ok F hm sc_blank (fun _ _ _ _ _ _ us hl => match us, hl with | [_, _], _ => rfl) (fun ds r h => by obtain ⟨_, _, rfl, _⟩ := h; rfl) (fun cdv A outer s H E qs ds r hr h => ?_)
  obtain ⟨h, w, rfl, er⟩ := h
  refine sd_callX G1 hr (L2N.takes_of rfl rfl rfl rfl) (pds_cons (pd_var 0) (pds_cons (pd_var 1) pds_nil)) ⟨_, _, rfl, rfl⟩ (fun d0 h0 => ?_) (fun C' h0 => ?_)
  · have hs : okSize (.int h) (.int w) = true := by
      cases z : okSize (.int h) (.int w) with
      | true => rfl
      | false => rw [z] at h0; cases h0
    obtain ⟨b1, b2, b3, b4⟩ := size_b hs
    rw [hs] at er
    refine sd_ret (pd_tup (pds_cons (pd_rep1 (pd_tup (pds_cons (pd_call (G2.mono (by decide)) hr (pds_cons (pd_var 1) pds_nil) ⟨_, rfl, by omega, by omega, rfl⟩) pds_nil)) (pd_var 0) (by omega) (by omega)) (pds_cons pd_int (pds_cons pd_int pds_nil)))) ?_
    exact er
  · show r = Rs.er C'
    have hs : okSize (.int h) (.int w) = false := by
      cases z : okSize (.int h) (.int w) with
      | false => rfl
      | true => rw [z] at h0; cases h0
    rw [hs] at h0 er
    cases h0
    exact er
/-! ### fitted -/
def fitRow (cs : List PyData) (w : Nat) : List PyData := cs.take w ++ List.replicate (w - cs.length) blankC
def frFitCells : List PyData → Rs → Prop := fun ds r => ∃ (cs : List PyData) (w : Nat), ds = [.tuple cs, .int (w : Int)] ∧ cs.length ≤ 1000 ∧ w ≤ 1000 ∧ r = .ok (.tuple (fitRow cs w))
theorem sc_fcells : FnScope ["cells", "width", "kept"] ["cells", "width"] (defScope s_fitted_cells) := ⟨rfl, rfl, rfl, by decide +kernel, rfl, by decide +kernel, by decide +kernel⟩
theorem cut_to (ds : List PyData) (n : Nat) : FP.cutD ds none (some (n : Int)) = ds.take n := by
  unfold FP.cutD
  rw [HT.sIx_none, HT.sIx_nat, List.drop_zero, Nat.sub_zero]
  rcases Nat.le_total n ds.length with h | h
  · rw [Nat.min_eq_left h]
  · rw [Nat.min_eq_right h, List.take_length, List.take_of_length_le h]
theorem cut_from (ds : List PyData) (n : Nat) : FP.cutD ds (some (n : Int)) none = ds.drop n := by
  unfold FP.cutD
  rw [HT.sIx_none, HT.sIx_nat]
  rcases Nat.le_total n ds.length with h | h
  · rw [Nat.min_eq_left h, List.take_of_length_le (by rw [List.length_drop]; exact Nat.le_refl _)]
  · rw [Nat.min_eq_right h, List.drop_length, List.drop_of_length_le h, List.take_nil]
theorem ok_fcells (F : Df K "fitted_cells" s_fitted_cells f fd) (hm : mg "fitted_cells" = some (.ref f)) (B : Bl mg) (G2 : DefOk P w K mg base 1 "blank_cells" frBlankCells) : DefOk P w K mg base 2 "fitted_cells" frFitCells := by
  refine def_ok F hm sc_fcells (fun _ _ _ _ _ _ us hl => match us, hl with | [_, _], _ => rfl) (fun ds r h => by obtain ⟨_, _, rfl, _⟩ := h; rfl) (fun cdv A outer s H E qs ds r hr h => ?_)
  obtain ⟨cs, n, rfl, h1, h2, rfl⟩ := h
  refine sd_set 2 (PD.eq (pd_slT (j := some (n : Int)) (pd_var 0) rfl ⟨_, rfl, pd_var 1⟩) (by rw [cut_to])) ?_ sc_fcells.nd
  have hl : (cs.take n).length = min n cs.length := List.length_take
  refine sd_ret (pd_catT (pd_var 2) (pd_call G2 hr (pds_cons (pd_sub (pd_var 1) (pd_lenT B.len (pd_var 2))) pds_nil) ⟨_, rfl, by omega, by omega, rfl⟩) (by rw [List.length_replicate]; omega)) ?_
  show Rs.ok (.tuple (fitRow cs n)) = Rs.ok (.tuple (cs.take n ++ List.replicate ((n : Int) - ((cs.take n).length : Int)).toNat blankC))
  have e : ((n : Int) - ((cs.take n).length : Int)).toNat = n - cs.length := by omega
  rw [e]
  rfl
end
end K10

namespace K10
open PySem PySem.Spec PyProof.Rows L2 FP
section
variable {P : Program} {w : World} {K : PySem.W.Frag} {mg : Str → Option Value} {base : Heap} {f C : Addr} {fd : FuncData}
def fitRows (rs : List PyData) (h w : Nat) : List PyData := (rs.take h).map (fun x => .tuple (fitRow (itemsT x) w)) ++ List.replicate (h - rs.length) (.tuple (List.replicate w blankC))
def fitD (d : PyData) (h w : Nat) : PyData := match d with
  | .tuple [.tuple rs, .int r, .int c] => .tuple [.tuple (fitRows rs h w), .int (if (h : Int) - 1 < r then (h : Int) - 1 else r), .int (if (w : Int) - 1 < c then (w : Int) - 1 else c)]
  | _ => .none
def frFit (C : Addr) : List PyData → Rs → Prop := fun ds r => ∃ d h w, ds = [d, .int h, .int w] ∧ smF d ∧ r = if isFace d then (if okSize (.int h) (.int w) then .ok (fitD d h.toNat w.toNat) else .er C) else .er C
theorem sc_fit : FnScope ["face", "height", "width", "rows", "row", "column", "kept", "added", "cells"] ["face", "height", "width"] (defScope s_fitted) := ⟨rfl, rfl, rfl, by decide +kernel, rfl, by decide +kernel, by decide +kernel⟩
theorem face_of {d : PyData} (h : isFace d = true) : ∃ rs r c, d = .tuple [.tuple rs, .int r, .int c] ∧ isRows (.tuple rs) = true ∧ 0 ≤ r ∧ r < rs.length ∧ 0 ≤ c ∧ c < lenT (rs.headD .none) := by
  cases d with
  | tuple ds => match ds, h with
    | [], h => cases h
    | [_], h => cases h
    | [_, _], h => cases h
    | _ :: _ :: _ :: _ :: _, h => cases h
    | [rows, row, col], h =>
      have h1 : (isRows rows && (isWithin row 0 ((lenT rows : Int) - 1) && isWithin col 0 ((lenT ((itemsT rows).headD .none) : Int) - 1))) = true := h
      rw [Bool.and_eq_true, Bool.and_eq_true] at h1
      obtain ⟨h1, h2, h3⟩ := h1
      obtain ⟨c0, rs, rfl⟩ := rows_of h1
      cases row with
      | int r =>
        cases col with
        | int c =>
          have h2 : (decide (0 ≤ r) && decide (r ≤ _)) = true := h2
          have h3 : (decide (0 ≤ c) && decide (c ≤ _)) = true := h3
          rw [Bool.and_eq_true, decide_eq_true_eq, decide_eq_true_eq] at h2 h3
          refine ⟨_, r, c, rfl, h1, h2.1, ?_, h3.1, ?_⟩
          · have := h2.2
            have e : ((lenT (.tuple (.tuple c0 :: rs)) : Nat) : Int) = (((PyData.tuple c0 :: rs).length : Nat) : Int) := rfl
            omega
          · have := h3.2
            have e : ((lenT ((itemsT (.tuple (.tuple c0 :: rs))).headD .none) : Nat) : Int) = ((lenT ((PyData.tuple c0 :: rs).headD .none) : Nat) : Int) := rfl
            omega
        | _ => cases h3
      | _ => cases h2
  | _ => cases h
theorem rows_len {rs : List PyData} (h : isRows (.tuple rs) = true) : rs.length ≤ 10 ∧ rs ≠ [] ∧ ∀ x ∈ rs, ∃ cs, x = .tuple cs ∧ cs.length = lenT (rs.headD .none) ∧ cs.length ≤ 20 ∧ 1 ≤ cs.length ∧ cs.all isCell = true := by
  cases rs with
  | nil => cases h
  | cons r0 rs =>
    have h1 : ((r0 :: rs).all isT && (okSize (.int (rs.length + 1 : Nat)) (.int (lenT r0 : Nat)) && (r0 :: rs).all (okRow (lenT r0)))) = true := h
    rw [Bool.and_eq_true, Bool.and_eq_true] at h1
    obtain ⟨h1, h2, h3⟩ := h1
    obtain ⟨b1, b2, b3, b4⟩ := size_b h2
    refine ⟨by rw [List.length_cons]; omega, by simp, fun x hx => ?_⟩
    obtain ⟨cs, rfl⟩ := isT_of (List.all_eq_true.mp h1 x hx)
    have h4 : (decide (cs.length = lenT r0) && cs.all isCell) = true := List.all_eq_true.mp h3 _ hx
    rw [Bool.and_eq_true, decide_eq_true_eq] at h4
    refine ⟨cs, rfl, h4.1, ?_, ?_, h4.2⟩ <;> omega
theorem ok_fit (F : Df K "fitted" s_fitted f fd) (hm : mg "fitted" = some (.ref f)) (B : Bl mg) (G1 : DefOk P w K mg base 5 "need_face" (frFace C)) (G2 : DefOk P w K mg base 3 "need_size" (frSize C)) (G3 : DefOk P w K mg base 2 "fitted_cells" frFitCells) (G4 : DefOk P w K mg base 1 "blank_cells" frBlankCells) :
    DefOk P w K mg base 6 "fitted" (frFit C) := by
  refine def_ok F hm sc_fit (fun _ _ _ _ _ _ us hl => match us, hl with | [_, _, _], _ => rfl) (fun ds r h => by obtain ⟨_, _, _, rfl, _⟩ := h; rfl) (fun cdv A outer s H E qs ds r hr h => ?_)
  obtain ⟨d, h, wd, rfl, hz, er⟩ := h
  have tk : L2N.Takes (cxOf (L2N.CX P w) P w K mg base ["face", "height", "width", "rows", "row", "column", "kept", "added", "cells"] "fitted" (defScope s_fitted) f cdv A outer s H E) (WOf E) := L2N.takes_of rfl rfl rfl rfl
  refine sd_callX G1 hr tk (pds_cons (pd_var 0) pds_nil) ⟨_, rfl, rfl, hz⟩ (fun d0 h0 => ?_) (fun C' h0 => ?_)
  · have hF : isFace d = true := by
      cases z : isFace d with
      | true => rfl
      | false => rw [z] at h0; cases h0
    rw [hF] at er
    refine sd_callX (G2.mono (by decide)) hr tk (pds_cons (pd_var 1) (pds_cons (pd_var 2) pds_nil)) ⟨_, _, rfl, rfl⟩ (fun d1 h1 => ?_) (fun C' h1 => ?_)
    · have hs : okSize (.int h) (.int wd) = true := by
        cases z : okSize (.int h) (.int wd) with
        | true => rfl
        | false => rw [z] at h1; cases h1
      obtain ⟨b1, b2, b3, b4⟩ := size_b hs
      rw [hs] at er
      obtain ⟨rs, r0, c0, rfl, hR, _⟩ := face_of hF
      obtain ⟨hl, hne, hrow⟩ := rows_len hR
      obtain ⟨h, rfl⟩ : ∃ n : Nat, h = (n : Int) := ⟨h.toNat, by omega⟩
      obtain ⟨wd, rfl⟩ : ∃ n : Nat, wd = (n : Int) := ⟨wd.toNat, by omega⟩
      refine sd_unp [3, 4, 5] (pd_var 0) (pg_tup rfl (pgs_cons (pg_name sc_fit.nd rfl (.inl rfl)) (pgs_cons (pg_name sc_fit.nd rfl (.inl rfl)) (pgs_cons (pg_name sc_fit.nd rfl (.inl rfl)) pgs_nil)))) rfl rfl ?_
      refine sd_set 6 (pd_tupleL B.tuple (PN.pl (pn_lc (y := "cells") (j := 8) (items := rs.take h) (ys := (rs.take h).map (fun x => .tuple (fitRow (itemsT x) wd))) rfl sc_fit.nd
        (PWk.ws (wk_tup (PD.eq (pd_slT (j := some (h : Int)) (pd_var 3) rfl ⟨_, rfl, pd_var 1⟩) (by rw [cut_to])))) (by rw [List.length_map]) (blkOk_by (N := ["face", "height", "width", "rows", "row", "column", "kept", "added", "cells"]) (sc := defScope s_fitted) (by decide +kernel))
        (fun _ _ _ _ _ => pg_name sc_fit.nd rfl (Or.inl rfl)) ?_ (by rw [List.length_take]; omega)))) ?_ sc_fit.nd
      · intro i d y hd hy D o s H C cl fp
        rw [List.getElem?_map, hd] at hy
        cases hy
        obtain ⟨cs, rfl, _, h20, _⟩ := hrow d (List.mem_of_mem_take (List.mem_of_getElem? hd))
        exact pd_call (G3.mono (by decide)) hr (pds_cons (pd_var 8) (pds_cons (pd_var 2) pds_nil)) ⟨cs, wd, rfl, by omega, by omega, rfl⟩
      refine sd_set 7 (pd_rep1 (pd_tup (pds_cons (pd_call (G4.mono (by decide)) hr (pds_cons (pd_var 2) pds_nil) ⟨_, rfl, by omega, by omega, rfl⟩) pds_nil)) (pd_sub (pd_var 1) (pd_lenT B.len (pd_var 6))) (by rw [List.length_map, List.length_take]; omega) (by omega)) ?_ sc_fit.nd
      refine sd_ret (pd_tup (pds_cons (pd_catT (pd_var 6) (pd_var 7) (by rw [List.length_map, List.length_take, List.length_replicate]; omega)) (pds_cons (pd_min rfl B.min (pd_var 4) (pd_sub (pd_var 1) pd_int)) (pds_cons (pd_min rfl B.min (pd_var 5) (pd_sub (pd_var 2) pd_int)) pds_nil)))) ?_
      show r = _
      rw [er]
      show Rs.ok (.tuple [.tuple (fitRows rs (h : Int).toNat (wd : Int).toNat), _, _]) = _
      have e1 : (((h : Int)) - (((rs.take h).map (fun x => PyData.tuple (fitRow (itemsT x) wd))).length : Int)).toNat = h - rs.length := by
        rw [List.length_map, List.length_take]
        omega
      rw [e1]
      rfl
    · show r = Rs.er C'
      have hs : okSize (.int h) (.int wd) = false := by
        cases z : okSize (.int h) (.int wd) with
        | false => rfl
        | true => rw [z] at h1; cases h1
      rw [hs] at h1 er
      cases h1
      exact er
  · show r = Rs.er C'
    have hF : isFace d = false := by
      cases z : isFace d with
      | false => rfl
      | true => rw [z] at h0; cases h0
    rw [hF] at h0 er
    cases h0
    exact er
/-! ### shown -/
def signOf : PyData → Str
  | .tuple (.str z :: _) => z
  | _ => Str.empty
def rowText (x : PyData) : Str := Txt.join (Str.ofString "") ((itemsT x).map signOf)
def shownD (d : PyData) : List PyData := match d with
  | .tuple [.tuple rs, _, _] => rs.map fun x => .str (rowText x)
  | _ => []
def frShown (C : Addr) : List PyData → Rs → Prop := fun ds r => ∃ d, ds = [d] ∧ smF d ∧ r = if isFace d then .ok (.list (shownD d)) else .er C
theorem sc_shown : FnScope ["face", "cells", "cell"] ["face"] (defScope s_shown) := ⟨rfl, rfl, rfl, by decide +kernel, rfl, by decide +kernel, by decide +kernel⟩
theorem cell_of {d : PyData} (h : isCell d = true) : ∃ (c : Nat) (i : Int), d = .tuple [.str ⟨#[c]⟩, .int i] ∧ okSign c = true ∧ 0 ≤ i ∧ i ≤ 7 := by
  cases d with
  | tuple ds => match ds, h with
    | [], h => cases h
    | [_], h => cases h
    | _ :: _ :: _ :: _, h => cases h
    | [a, b], h =>
      have h1 : (isSign a && isWithin b 0 7) = true := h
      rw [Bool.and_eq_true] at h1
      obtain ⟨h1, h2⟩ := h1
      cases a with
      | str z =>
        cases b with
        | int i =>
          have h1 : (z.cps.toList.all okSign && decide (z.length = 1)) = true := h1
          have h2 : (decide (0 ≤ i) && decide (i ≤ 7)) = true := h2
          rw [Bool.and_eq_true, decide_eq_true_eq] at h1
          rw [Bool.and_eq_true, decide_eq_true_eq, decide_eq_true_eq] at h2
          obtain ⟨c⟩ := z
          have hs : c.toList.length = 1 := by rw [Array.length_toList]; exact h1.2
          match hc : c.toList, hs with
          | [k], _ =>
            have e : c = #[k] := Array.toList_inj.mp (by rw [hc])
            subst e
            have h3 := h1.1
            have h4 : ([k].all okSign) = true := h3
            rw [List.all_cons, Bool.and_eq_true] at h4
            exact ⟨k, i, rfl, h4.1, h2.1, h2.2⟩
        | _ => cases h2
      | _ => cases h1
  | _ => cases h
theorem signs_sum : ∀ cs : List PyData, cs.all isCell = true → ((cs.map signOf).map (·.length)).sum ≤ cs.length
  | [], _ => Nat.le_refl _
  | x :: xs, hc => by
    rw [List.all_cons, Bool.and_eq_true] at hc
    obtain ⟨k, i, rfl, _⟩ := cell_of hc.1
    rw [List.map_cons, List.map_cons, List.sum_cons, List.length_cons]
    have := signs_sum xs hc.2
    have e : (signOf (.tuple [.str ⟨#[k]⟩, .int i])).length = 1 := rfl
    omega
theorem ok_shown (F : Df K "shown" s_shown f fd) (hm : mg "shown" = some (.ref f)) (G1 : DefOk P w K mg base 5 "need_face" (frFace C)) : DefOk P w K mg base 6 "shown" (frShown C) := by
  refine def_ok F hm sc_shown (fun _ _ _ _ _ _ us hl => match us, hl with | [_], _ => rfl) (fun ds r h => by obtain ⟨_, rfl, _⟩ := h; rfl) (fun cdv A outer s H E qs ds r hr h => ?_)
  obtain ⟨d, rfl, hz, er⟩ := h
  refine sd_callX G1 hr (L2N.takes_of rfl rfl rfl rfl) (pds_cons (pd_var 0) pds_nil) ⟨_, rfl, rfl, hz⟩ (fun d0 h0 => ?_) (fun C' h0 => ?_)
  · have hF : isFace d = true := by
      cases z : isFace d with
      | true => rfl
      | false => rw [z] at h0; cases h0
    rw [hF] at er
    obtain ⟨rs, r0, c0, rfl, hR, _⟩ := face_of hF
    obtain ⟨hl, hne, hrow⟩ := rows_len hR
    refine sd_ret (PN.pd (pn_lc (y := "cells") (j := 1) (items := rs) (ys := rs.map fun x => .str (rowText x)) rfl sc_shown.nd (PWk.ws (wk_tup (pd_ixT (d := .tuple rs) (pd_var 0) pd_int rfl))) (by rw [List.length_map])
      (blkOk_by (N := ["face", "cells", "cell"]) (sc := defScope s_shown) (by decide +kernel)) (fun _ _ _ _ _ => pg_name sc_shown.nd rfl (Or.inl rfl)) ?_ (by omega))) er
    intro i d y hd hy D o s H C cl fp
    rw [List.getElem?_map, hd] at hy
    cases hy
    obtain ⟨cs, rfl, _, h20, _, hc⟩ := hrow d (List.mem_of_getElem? hd)
    refine pd_join (ys := cs.map signOf) pd_str (PN.pl (pn_lc (y := "cell") (j := 2) (items := cs) rfl sc_shown.nd (PWk.ws (wk_tup (pd_var 1))) (by rw [List.length_map, List.length_map])
      (blkOk_by (N := ["face", "cells", "cell"]) (sc := { kind := .function, names := [(".0", .local), ("cells", .local)], isGenerator := false, isCoroutine := false, more := [] }) (by decide +kernel)) (fun _ _ _ _ _ => pg_name sc_shown.nd rfl (Or.inl rfl)) ?_ (by omega))) ?_
    · intro i d y hd hy D o s H C cl fp
      rw [List.getElem?_map, List.getElem?_map, hd] at hy
      cases hy
      obtain ⟨k, i, rfl, _⟩ := cell_of (List.all_eq_true.mp hc d (List.mem_of_getElem? hd))
      exact pd_ixT (pd_var 2) pd_int rfl
    · have hb := signs_sum cs hc
      have e0 : (Str.ofString "").length = 0 := by decide +kernel
      rw [e0]
      omega
  · show r = Rs.er C'
    have hF : isFace d = false := by
      cases z : isFace d with
      | false => rfl
      | true => rw [z] at h0; cases h0
    rw [hF] at h0 er
    cases h0
    exact er
end
end K10

namespace K10
open PySem PySem.Spec PyProof.Rows L2 FP
section
variable {P : Program} {w : World} {K : PySem.W.Frag} {mg : Str → Option Value} {base : Heap} {f C : Addr} {fd : FuncData}
/-! ### the law's draws -/
def cellAt (ns : List Int) (k : Nat) : Int := if ns = [] then (k : Int) * 7919 else ns.getD (k % ns.length) 0 + ((k / ns.length : Nat) : Int) * 104729
def bitsOk (z : Int) : Prop := z.natAbs < 2 ^ 1048577
def frLCell : List PyData → Rs → Prop := fun ds r => ∃ (ns : List Int) (k : Nat), ds = [.list (ns.map .int), .int (k : Int)] ∧ ns.length ≤ 63 ∧ k ≤ 63 ∧ r = .ok (.int (cellAt ns k))
theorem sc_lcell : FnScope ["_law_script", "_law_k"] ["_law_script", "_law_k"] (defScope s__law_cell) := ⟨rfl, rfl, rfl, by decide +kernel, rfl, by decide +kernel, by decide +kernel⟩
theorem shp_ints (ns : List Int) : Shp 1 (.list (ns.map PyData.int)) := Shp.lst fun x h => by
  obtain ⟨n, _, rfl⟩ := List.mem_map.mp h
  exact .int n
theorem cmul_small {i j : Int} (h : -(2 ^ 64) < j ∧ j < 2 ^ 64) : CMul i j := .inr h
theorem ok_lcell (F : Df K "_law_cell" s__law_cell f fd) (hm : mg "_law_cell" = some (.ref f)) (B : Bl mg) : DefOk P w K mg base 1 "_law_cell" frLCell := by
  refine def_ok F hm sc_lcell (fun _ _ _ _ _ _ us hl => match us, hl with | [_, _], _ => rfl) (fun ds r h => by obtain ⟨_, _, rfl, _⟩ := h; rfl) (fun cdv A outer s H E qs ds r hr h => ?_)
  obtain ⟨ns, k, rfl, h1, h2, rfl⟩ := h
  refine sd_if (pt_cmpd (op_eqD hr.units) (rd_eqD (shp_ints ns).ok rfl) (pd_var 0) (PN.pd (pn_lst pds_nil)) (nomark _)) (fun hk => ?_) (fun hk => sd_nil ?_)
  · have e : ns = [] := by
      cases ns with
      | nil => rfl
      | cons n ns => cases hk
    subst e
    refine sd_ret (pd_mulS (cmul_small (by decide)) (pd_var 1) pd_int) ?_
    exact rfl
  · have hne : ns ≠ [] := fun e => by
      subst e
      cases hk
    have hl : 0 < ns.length := List.length_pos_iff.mpr hne
    have hlt : k % ns.length < ns.length := Nat.mod_lt _ hl
    have e1 : ((k : Int) % ((ns.map PyData.int).length : Nat) : Int) = ((k % ns.length : Nat) : Int) := by
      rw [List.length_map]
      omega
    have hat : atI (ns.map PyData.int) ((k : Int) % ((ns.map PyData.int).length : Nat) : Int) = some (.int (ns.getD (k % ns.length) 0)) := by
      rw [e1]
      refine atI_nat ?_
      rw [List.getElem?_map, List.getD_eq_getElem?_getD, List.getElem?_eq_getElem hlt]
      rfl
    have hL : (0 : Int) < (((ns.map PyData.int).length : Nat) : Int) := by rw [List.length_map]; omega
    refine sd_ret (pd_add (pd_ixL (PD.pl (pd_var 0)) (pd_mod hL (pd_var 1) (pd_lenL B.len (PD.pl (pd_var 0)))) hat) (pd_mulS (cmul_small (by decide)) (pd_fdiv (wide_div (b := 20) hL ?_ (by decide) (by decide)) (pd_var 1) (pd_lenL B.len (PD.pl (pd_var 0)))) pd_int)) ?_
    · rw [List.length_map]
      have : (2 : Nat) ^ 20 = 1048576 := by decide
      omega
    · show Rs.ok (.int (cellAt ns k)) = _
      unfold cellAt
      rw [if_neg hne]
      have e2 : ((k : Int) / (((ns.map PyData.int).length : Nat) : Int)) = ((k / ns.length : Nat) : Int) := by
        rw [List.length_map]
        omega
      rw [e2]
/-! drawn -/
def M1 : Int := 340282366920938463463374607431768211507
def M2 : Int := 340282366920938463463374607431768211297
def M3 : Int := 18446744073709551557
def drawn (c k : Int) : Int :=
  let a := (c * 6364136223846793005 + (k + 1) * 1442695040888963407) % M1
  let b := a * a % M2
  ((b % M3 + 1) * (b / M3 + 1) * b) % M1
theorem M1p : (0 : Int) < M1 := by decide
theorem M2p : (0 : Int) < M2 := by decide
theorem M3p : (0 : Int) < M3 := by decide
theorem drawn_b (c k : Int) : 0 ≤ drawn c k ∧ drawn c k < M1 := ⟨Int.emod_nonneg _ (by decide), Int.emod_lt_of_pos _ M1p⟩
def frDrawn : List PyData → Rs → Prop := fun ds r => ∃ c k : Int, ds = [.int c, .int k] ∧ r = .ok (.int (drawn c k))
theorem sc_drawn : FnScope ["_law_cell_here", "_law_k", "_law_more"] ["_law_cell_here", "_law_k"] (defScope s__law_drawn) := ⟨rfl, rfl, rfl, by decide +kernel, rfl, by decide +kernel, by decide +kernel⟩
theorem abs_lt {a : Int} {n : Nat} (h0 : 0 ≤ a) (h : a < ((2 ^ n : Nat) : Int)) : a.natAbs < 2 ^ n := by omega
theorem mod_abs (a : Int) {m : Int} (h : 0 < m) {n : Nat} (hm : m ≤ ((2 ^ n : Nat) : Int)) : (a % m).natAbs < 2 ^ n := abs_lt (Int.emod_nonneg _ (by omega)) (Int.lt_of_lt_of_le (Int.emod_lt_of_pos _ h) hm)
theorem ok_drawn (F : Df K "_law_drawn" s__law_drawn f fd) (hm : mg "_law_drawn" = some (.ref f)) : DefOk P w K mg base 1 "_law_drawn" frDrawn := by
  refine def_ok F hm sc_drawn (fun _ _ _ _ _ _ us hl => match us, hl with | [_, _], _ => rfl) (fun ds r h => by obtain ⟨_, _, rfl, _⟩ := h; rfl) (fun cdv A outer s H E qs ds r hr h => ?_)
  obtain ⟨c, k, rfl, rfl⟩ := h
  show SD _ _ _ _ _ _ (FP.Fin (.ok (.int (drawn c k))))
  refine sd_set 2 (pd_mod M1p (pd_add (pd_mulS (cmul_small (by decide)) (pd_var 0) pd_int) (pd_mulS (cmul_small (by decide)) (pd_add (pd_var 1) pd_int) pd_int)) pd_int) ?_ sc_drawn.nd
  have ha : ((c * 6364136223846793005 + (k + 1) * 1442695040888963407) % M1).natAbs < 2 ^ 129 := mod_abs _ M1p (by decide)
  have ed : drawn c k = (((((c * 6364136223846793005 + (k + 1) * 1442695040888963407) % M1) * ((c * 6364136223846793005 + (k + 1) * 1442695040888963407) % M1) % M2) % M3 + 1) * ((((c * 6364136223846793005 + (k + 1) * 1442695040888963407) % M1) * ((c * 6364136223846793005 + (k + 1) * 1442695040888963407) % M1) % M2) / M3 + 1) * (((c * 6364136223846793005 + (k + 1) * 1442695040888963407) % M1) * ((c * 6364136223846793005 + (k + 1) * 1442695040888963407) % M1) % M2)) % M1 := rfl
  rw [ed]
  generalize (c * 6364136223846793005 + (k + 1) * 1442695040888963407) % M1 = a at *
  refine sd_set 2 (pd_mod M2p (pd_mul (wide_mul ha ha (by decide) (by decide) (by decide)) (pd_var 2) (pd_var 2)) pd_int) ?_ sc_drawn.nd
  have hb : (a * a % M2).natAbs < 2 ^ 129 := mod_abs _ M2p (by decide)
  have hb0 : 0 ≤ a * a % M2 := Int.emod_nonneg _ (by decide)
  generalize a * a % M2 = b at *
  have h1 : (b % M3 + 1).natAbs < 2 ^ 65 := by
    have x1 := Int.emod_nonneg b (show M3 ≠ 0 by decide)
    have x2 := Int.emod_lt_of_pos b M3p
    have x3 : M3 + 1 < ((2 ^ 65 : Nat) : Int) := by decide
    exact abs_lt (by omega) (by omega)
  have h2 : (b / M3 + 1).natAbs < 2 ^ 130 := by
    have x1 : 0 ≤ b / M3 := Int.ediv_nonneg hb0 (by decide)
    have x2 : b / M3 ≤ b := Int.ediv_le_self _ hb0
    have x3 : b < ((2 ^ 129 : Nat) : Int) := by omega
    have x4 : ((2 ^ 129 : Nat) : Int) + 1 < ((2 ^ 130 : Nat) : Int) := by decide
    exact abs_lt (by omega) (by omega)
  have h3 : ((b % M3 + 1) * (b / M3 + 1)).natAbs < 2 ^ 195 := by
    rw [Int.natAbs_mul]
    calc (b % M3 + 1).natAbs * (b / M3 + 1).natAbs < 2 ^ 65 * 2 ^ 130 := Nat.mul_lt_mul'' h1 h2
      _ = 2 ^ 195 := by decide
  refine sd_set 2 (pd_mul (wide_mul h3 hb (by decide) (by decide) (by decide)) (pd_mul (wide_mul h1 h2 (by decide) (by decide) (by decide)) (pd_add (pd_mod M3p (pd_var 2) pd_int) pd_int) (pd_add (pd_fdiv (wide_div (b := 65) M3p (by decide) (by decide) (by decide)) (pd_var 2) pd_int) pd_int)) (pd_var 2)) ?_ sc_drawn.nd
  refine sd_ret (pd_mod M1p (pd_var 2) pd_int) ?_
  exact rfl
/-! ### cells, sizes, faces -/
def sgs : List Nat := [32, 32, 97, 98, 126, 94]
def iks : List Int := [0, 0, 0, 1, 7]
def cellD (c : Nat) (i : Int) : PyData := .tuple [.str ⟨#[c]⟩, .int i]
def cellOfD (m : Int) : PyData := cellD (sgs.getD (m % 6).toNat 0) (iks.getD (m / 8 % 5).toNat 0)
def frCellOf : List PyData → Rs → Prop := fun ds r => ∃ m : Int, ds = [.int m] ∧ r = .ok (cellOfD m)
theorem sc_cellof : FnScope ["_law_more"] ["_law_more"] (defScope s__law_cell_of) := ⟨rfl, rfl, rfl, by decide +kernel, rfl, by decide +kernel, by decide +kernel⟩
theorem mod_nat (m : Int) (n : Nat) (h : 0 < n) : ∃ j : Nat, m % (n : Int) = (j : Int) ∧ j < n := ⟨(m % (n : Int)).toNat, by have := Int.emod_nonneg m (show (n : Int) ≠ 0 by omega); omega, by have := Int.emod_nonneg m (show (n : Int) ≠ 0 by omega); have := Int.emod_lt_of_pos m (show (0 : Int) < n by omega); omega⟩
theorem ok_cellof (F : Df K "_law_cell_of" s__law_cell_of f fd) (hm : mg "_law_cell_of" = some (.ref f)) : DefOk P w K mg base 1 "_law_cell_of" frCellOf := by
  refine def_ok F hm sc_cellof (fun _ _ _ _ _ _ us hl => match us, hl with | [_], _ => rfl) (fun ds r h => by obtain ⟨_, rfl, _⟩ := h; rfl) (fun cdv A outer s H E qs ds r hr h => ?_)
  obtain ⟨m, rfl, rfl⟩ := h
  obtain ⟨j1, e1, l1⟩ := mod_nat m 6 (by decide)
  obtain ⟨j2, e2, l2⟩ := mod_nat (m / 8) 5 (by decide)
  have e1 : m % 6 = (j1 : Int) := e1
  have e2 : m / 8 % 5 = (j2 : Int) := e2
  refine sd_ret (pd_tup (pds_cons (pd_ixL (d := .str ⟨#[sgs.getD j1 0]⟩) (PN.pl (pn_lst (pds_cons pd_str (pds_cons pd_str (pds_cons pd_str (pds_cons pd_str (pds_cons pd_str (pds_cons pd_str pds_nil)))))))) (pd_mod (by decide) (pd_var 0) pd_int) ?_)
    (pds_cons (pd_ixL (d := .int (iks.getD j2 0)) (PN.pl (pn_lst (pds_cons pd_int (pds_cons pd_int (pds_cons pd_int (pds_cons pd_int (pds_cons pd_int pds_nil))))))) (pd_mod (by decide) (pd_fdiv (wide_div (b := 20) (by decide) (by decide) (by decide) (by decide)) (pd_var 0) pd_int) pd_int) ?_) pds_nil))) ?_
  · rw [e1]
    refine atI_nat ?_
    match j1, l1 with
    | 0, _ => exact congrArg (fun z => some (PyData.str z)) (show Str.ofString " " = ⟨#[32]⟩ by decide +kernel)
    | 1, _ => exact congrArg (fun z => some (PyData.str z)) (show Str.ofString " " = ⟨#[32]⟩ by decide +kernel)
    | 2, _ => exact congrArg (fun z => some (PyData.str z)) (show Str.ofString "a" = ⟨#[97]⟩ by decide +kernel)
    | 3, _ => exact congrArg (fun z => some (PyData.str z)) (show Str.ofString "b" = ⟨#[98]⟩ by decide +kernel)
    | 4, _ => exact congrArg (fun z => some (PyData.str z)) (show Str.ofString "~" = ⟨#[126]⟩ by decide +kernel)
    | 5, _ => exact congrArg (fun z => some (PyData.str z)) (show Str.ofString "^" = ⟨#[94]⟩ by decide +kernel)
    | n + 6, h => omega
  · rw [e2]
    refine atI_nat ?_
    match j2, l2 with
    | 0, _ => rfl
    | 1, _ => rfl
    | 2, _ => rfl
    | 3, _ => rfl
    | 4, _ => rfl
    | n + 5, h => omega
  · show Rs.ok (cellD (sgs.getD (m % 6).toNat 0) (iks.getD (m / 8 % 5).toNat 0)) = _
    rw [e1, e2]
    rfl
def sizeD (m : Int) : Int × Int := (1 + m % (([3, 10] : List Int).getD (m / 16 % 2).toNat 1), 1 + m / 64 % (([4, 9, 20] : List Int).getD (m / 2048 % 3).toNat 1))
def frLSize : List PyData → Rs → Prop := fun ds r => ∃ m : Int, ds = [.int m] ∧ r = .ok (.tuple [.int (sizeD m).1, .int (sizeD m).2])
theorem sc_lsize : FnScope ["_law_more"] ["_law_more"] (defScope s__law_size) := ⟨rfl, rfl, rfl, by decide +kernel, rfl, by decide +kernel, by decide +kernel⟩
theorem size_le (m : Int) : 1 ≤ (sizeD m).1 ∧ (sizeD m).1 ≤ 10 ∧ 1 ≤ (sizeD m).2 ∧ (sizeD m).2 ≤ 20 := by
  obtain ⟨j1, e1, l1⟩ := mod_nat (m / 16) 2 (by decide)
  obtain ⟨j2, e2, l2⟩ := mod_nat (m / 2048) 3 (by decide)
  have e1 : m / 16 % 2 = (j1 : Int) := e1
  have e2 : m / 2048 % 3 = (j2 : Int) := e2
  unfold sizeD
  rw [e1, e2]
  show 1 ≤ 1 + m % (([3, 10] : List Int).getD j1 1) ∧ 1 + m % (([3, 10] : List Int).getD j1 1) ≤ 10 ∧ 1 ≤ 1 + m / 64 % (([4, 9, 20] : List Int).getD j2 1) ∧ 1 + m / 64 % (([4, 9, 20] : List Int).getD j2 1) ≤ 20
  have a1 : 1 ≤ 1 + m % (([3, 10] : List Int).getD j1 1) ∧ 1 + m % (([3, 10] : List Int).getD j1 1) ≤ 10 := by
    match j1, l1 with
    | 0, _ => show 1 ≤ 1 + m % 3 ∧ 1 + m % 3 ≤ 10; omega
    | 1, _ => show 1 ≤ 1 + m % 10 ∧ 1 + m % 10 ≤ 10; omega
    | n + 2, h => omega
  have a2 : 1 ≤ 1 + m / 64 % (([4, 9, 20] : List Int).getD j2 1) ∧ 1 + m / 64 % (([4, 9, 20] : List Int).getD j2 1) ≤ 20 := by
    match j2, l2 with
    | 0, _ => show 1 ≤ 1 + m / 64 % 4 ∧ 1 + m / 64 % 4 ≤ 20; omega
    | 1, _ => show 1 ≤ 1 + m / 64 % 9 ∧ 1 + m / 64 % 9 ≤ 20; omega
    | 2, _ => show 1 ≤ 1 + m / 64 % 20 ∧ 1 + m / 64 % 20 ≤ 20; omega
    | n + 3, h => omega
  exact ⟨a1.1, a1.2, a2.1, a2.2⟩
theorem ok_lsize (F : Df K "_law_size" s__law_size f fd) (hm : mg "_law_size" = some (.ref f)) : DefOk P w K mg base 1 "_law_size" frLSize := by
  refine def_ok F hm sc_lsize (fun _ _ _ _ _ _ us hl => match us, hl with | [_], _ => rfl) (fun ds r h => by obtain ⟨_, rfl, _⟩ := h; rfl) (fun cdv A outer s H E qs ds r hr h => ?_)
  obtain ⟨m, rfl, rfl⟩ := h
  obtain ⟨j1, e1, l1⟩ := mod_nat (m / 16) 2 (by decide)
  obtain ⟨j2, e2, l2⟩ := mod_nat (m / 2048) 3 (by decide)
  have e1 : m / 16 % 2 = (j1 : Int) := e1
  have e2 : m / 2048 % 3 = (j2 : Int) := e2
  have p1 : (0 : Int) < ([3, 10] : List Int).getD j1 1 := by
    match j1, l1 with
    | 0, _ => decide
    | 1, _ => decide
    | n + 2, h => omega
  have p2 : (0 : Int) < ([4, 9, 20] : List Int).getD j2 1 := by
    match j2, l2 with
    | 0, _ => decide
    | 1, _ => decide
    | 2, _ => decide
    | n + 3, h => omega
  refine sd_ret (pd_tup (pds_cons (pd_add pd_int (pd_mod p1 (pd_var 0) (pd_ixL (d := .int (([3, 10] : List Int).getD j1 1)) (PN.pl (pn_lst (pds_cons pd_int (pds_cons pd_int pds_nil)))) (pd_mod (by decide) (pd_fdiv (wide_div (b := 20) (by decide) (by decide) (by decide) (by decide)) (pd_var 0) pd_int) pd_int) ?_)))
    (pds_cons (pd_add pd_int (pd_mod p2 (pd_fdiv (wide_div (b := 20) (by decide) (by decide) (by decide) (by decide)) (pd_var 0) pd_int) (pd_ixL (d := .int (([4, 9, 20] : List Int).getD j2 1)) (PN.pl (pn_lst (pds_cons pd_int (pds_cons pd_int (pds_cons pd_int pds_nil))))) (pd_mod (by decide) (pd_fdiv (wide_div (b := 20) (by decide) (by decide) (by decide) (by decide)) (pd_var 0) pd_int) pd_int) ?_))) pds_nil))) ?_
  · rw [e1]
    refine atI_nat ?_
    match j1, l1 with
    | 0, _ => rfl
    | 1, _ => rfl
    | n + 2, h => omega
  · rw [e2]
    refine atI_nat ?_
    match j2, l2 with
    | 0, _ => rfl
    | 1, _ => rfl
    | 2, _ => rfl
    | n + 3, h => omega
  · show Rs.ok (.tuple [.int (1 + m % (([3, 10] : List Int).getD (m / 16 % 2).toNat 1)), .int (1 + m / 64 % (([4, 9, 20] : List Int).getD (m / 2048 % 3).toNat 1))]) = _
    rw [e1, e2]
    rfl
end
end K10

namespace K10
open PySem PySem.Spec PyProof.Rows L2 FP
section
variable {P : Program} {w : World} {K : PySem.W.Frag} {mg : Str → Option Value} {base : Heap} {f C : Addr} {fd : FuncData}
/-! ### a drawn face -/
def rowL (m : Int) (wd j : Nat) : List PyData := if drawn m j % 3 = 0 then List.replicate wd blankC else (List.range wd).map fun (n : Nat) => cellOfD (drawn (drawn m j) n)
def rowsL (m : Int) (h wd : Nat) : List PyData := (List.range h).map fun (j : Nat) => .tuple (rowL m wd j)
def faceL (m : Int) (h wd : Nat) : PyData := .tuple [.tuple (rowsL m h wd), .int (m / 8 % (h : Int)), .int (m / 128 % (wd : Int))]
def frLFace : List PyData → Rs → Prop := fun ds r => ∃ (m : Int) (h wd : Nat), ds = [.int m, .int (h : Int), .int (wd : Int)] ∧ 1 ≤ h ∧ h ≤ 10 ∧ 1 ≤ wd ∧ wd ≤ 20 ∧ r = .ok (faceL m h wd)
abbrev NF : List Str := ["_law_more", "_law_height", "_law_width", "_law_rows", "_law_j", "_law_here", "_law_cells", "_law_n"]
theorem sc_lface : FnScope NF ["_law_more", "_law_height", "_law_width"] (defScope s__law_face) := ⟨rfl, rfl, rfl, by decide +kernel, rfl, by decide +kernel, by decide +kernel⟩
theorem rangeD_nat (n : Nat) : (rangeD 0 ((n : Nat) : Int).toNat).length = n := by
  rw [rangeD_len]
  omega
theorem rangeD_at {n i : Nat} {d : PyData} (h : (rangeD 0 ((n : Nat) : Int).toNat)[i]? = some d) : i < n ∧ d = .int (i : Int) := by
  have hl : i < n := by
    have := (List.getElem?_eq_some_iff.mp h).1
    rw [rangeD_nat] at this
    exact this
  have e : ((n : Nat) : Int).toNat = n := by omega
  rw [e, rangeD_get hl] at h
  cases h
  exact ⟨hl, by rw [Int.zero_add]⟩
theorem blank_eq : PyData.tuple [.str (Str.ofString " "), .int 0] = blankC := rfl
theorem ok_lface (F : Df K "_law_face" s__law_face f fd) (hm : mg "_law_face" = some (.ref f)) (B : Bl mg) (G1 : DefOk P w K mg base 1 "_law_drawn" frDrawn) (G2 : DefOk P w K mg base 1 "_law_cell_of" frCellOf) : DefOk P w K mg base 2 "_law_face" frLFace := by
  refine def_ok F hm sc_lface (fun _ _ _ _ _ _ us hl => match us, hl with | [_, _, _], _ => rfl) (fun ds r h => by obtain ⟨_, _, _, rfl, _⟩ := h; rfl) (fun cdv A outer s H E qs ds r hr h => ?_)
  obtain ⟨m, h, wd, rfl, h1, h2, w1, w2, rfl⟩ := h
  refine sd_own 3 (pn_lst pds_nil) (fun D => ?_) sc_lface.nd
  refine sd_for 4 (items := rangeD 0 ((h : Nat) : Int).toNat) (fun i δ' ω' => ω' = omD ⟨qs, []⟩ D (.lst (((rowsL m h wd).take i).map .im)) ∧ ∃ y4 y5 y6 y7, δ' = [some (.im (.int m)), some (.im (.int h)), some (.im (.int wd)), some (.ad D), y4, y5, y6, y7])
    (wk_range1 B.range (pd_var 1) (by omega)) ⟨rfl, none, none, none, none, rfl⟩ ?_ ?_ (pg_name sc_lface.nd rfl (Or.inl rfl)) (passes_of rfl) rfl
  · rintro i d δ' ω' hd ⟨rfl, y4, y5, y6, y7, rfl⟩
    obtain ⟨hi, rfl⟩ := rangeD_at hd
    refine sd_set 5 (pd_call G1 hr (pds_cons (pd_var 0) (pds_cons (pd_var 4) pds_nil)) ⟨_, _, rfl, rfl⟩) ?_ sc_lface.nd
    refine sd_setLc 6 (y := "_law_n") (j := 7) (items := rangeD 0 ((wd : Nat) : Int).toNat) (ys := (List.range wd).map fun (n : Nat) => cellOfD (drawn (drawn m i) n)) rfl sc_lface.nd (PWk.ws (wk_range1 B.range (pd_var 2) (by omega))) (by rw [List.length_map, List.length_range, rangeD_nat])
      (blkOk_by (N := NF) (sc := defScope s__law_face) (by decide +kernel)) (fun _ _ _ _ _ => pg_name sc_lface.nd rfl (Or.inl rfl)) ?_ (by rw [rangeD_nat]; omega) (sw_true rfl rfl rfl (by decide +kernel)) ?_
    · intro j d y hd hy D o s H C cl fp
      obtain ⟨hj, rfl⟩ := rangeD_at hd
      rw [List.getElem?_map, List.getElem?_range hj] at hy
      cases hy
      exact pd_call G2 hr (pds_cons (pd_call G1 hr (pds_cons (pd_var 5) (pds_cons (pd_var 7) pds_nil)) ⟨_, _, rfl, rfl⟩) pds_nil) ⟨_, rfl, rfl⟩
    · refine sd_ifJ (fun δ' ω' => ω' = omD ⟨qs, []⟩ D (.lst (((rowsL m h wd).take i).map .im)) ∧ δ' = [some (.im (.int m)), some (.im (.int h)), some (.im (.int wd)), some (.ad D), some (.im (.int (i : Int))), some (.im (.int (drawn m i))), some (.im (.list (rowL m wd i))), y7])
        (pt_cmpd op_eq rd_eqI (pd_mod (by decide) (pd_var 5) pd_int) pd_int (nomark _)) (fun hk => ?_) (fun hk => sd_nil ⟨rfl, ?_⟩) ?_
      · refine sd_set 6 (PN.pd (pn_rep1 (PN.plt (pn_lst (pds_cons (pd_tup (pds_cons pd_str (pds_cons pd_int pds_nil))) pds_nil))) (pd_var 2) (by omega) (by omega))) (sd_nil ⟨rfl, ?_⟩) sc_lface.nd
        unfold rowL
        rw [if_pos (of_decide_eq_true hk)]
        rfl
      · unfold rowL
        rw [if_neg (of_decide_eq_false hk)]
        rfl
      · rintro δ' ω' ⟨rfl, rfl⟩
        refine sd_app 3 (pd_tupleL B.tuple (PD.pl (pd_var 6))) (sd_nil ⟨?_, _, _, _, _, rfl⟩) (by rw [List.length_take]; unfold rowsL; rw [List.length_map, List.length_range]; omega)
        have e : (rowsL m h wd)[i]? = some (.tuple (rowL m wd i)) := by
          unfold rowsL
          rw [List.getElem?_map, List.getElem?_range hi]
          rfl
        rw [List.take_add_one, e]
        rfl
  · rintro δ' ω' ⟨rfl, y4, y5, y6, y7, rfl⟩
    have hl : (rowsL m h wd).length = h := by
      unfold rowsL
      rw [List.length_map, List.length_range]
    have e : (rowsL m h wd).take (rangeD 0 ((h : Nat) : Int).toNat).length = rowsL m h wd := List.take_of_length_le (by rw [rangeD_nat, hl]; exact Nat.le_refl _)
    rw [e]
    have hh : (0 : Int) < (h : Int) := by omega
    have hw : (0 : Int) < (wd : Int) := by omega
    refine sd_ret (pd_tup (pds_cons (pd_tupleL B.tuple (pl_var 3 List.mem_cons_self)) (pds_cons (pd_mod hh (pd_fdiv (wide_div (b := 20) (by decide) (by decide) (by decide) (by decide)) (pd_var 0) pd_int) (pd_var 1)) (pds_cons (pd_mod hw (pd_fdiv (wide_div (b := 20) (by decide) (by decide) (by decide) (by decide)) (pd_var 0) pd_int) (pd_var 2)) pds_nil)))) ?_
    exact rfl
end
end K10

namespace K10
open PySem PySem.Spec PyProof.Rows L2 FP
/-! ### faces of a size -/
def Row (wd : Nat) (x : PyData) : Prop := ∃ cs, x = .tuple cs ∧ cs.length = wd ∧ ∀ y ∈ cs, isCell y = true
structure Fc (h wd : Nat) (d : PyData) (rs : List PyData) (r c : Nat) : Prop where
  eq : d = .tuple [.tuple rs, .int (r : Int), .int (c : Int)]
  len : rs.length = h
  row : ∀ x ∈ rs, Row wd x
  hr : r < h
  hc : c < wd
  h10 : h ≤ 10
  w20 : wd ≤ 20
section
variable {h wd r c H W : Nat} {d : PyData} {rs : List PyData}
theorem Fc.face (F : Fc h wd d rs r c) : isFace d = true := by
  obtain ⟨rfl, hl, row, hr, hc, h10, w20⟩ := F
  match rs, hl, row with
  | [], hl, _ => simp at hl; omega
  | x0 :: rest, hl, row =>
    obtain ⟨c0, rfl, l0, a0⟩ := row x0 List.mem_cons_self
    have e1 : (PyData.tuple c0 :: rest).all isT = true := List.all_eq_true.mpr fun x hx => by
      obtain ⟨cs, rfl, _⟩ := row x hx
      rfl
    have e2 : okSize (.int ((rest.length + 1 : Nat) : Int)) (.int ((c0.length : Nat) : Int)) = true := by
      rw [List.length_cons] at hl
      show ((decide ((1 : Int) ≤ ((rest.length + 1 : Nat) : Int)) && decide (((rest.length + 1 : Nat) : Int) ≤ 10)) && (decide ((1 : Int) ≤ ((c0.length : Nat) : Int)) && decide (((c0.length : Nat) : Int) ≤ 20))) = true
      rw [decide_eq_true (by omega), decide_eq_true (by omega), decide_eq_true (by omega), decide_eq_true (by omega)]
      rfl
    have e3 : (PyData.tuple c0 :: rest).all (okRow c0.length) = true := List.all_eq_true.mpr fun x hx => by
      obtain ⟨cs, rfl, l, a⟩ := row x hx
      show (decide (cs.length = c0.length) && cs.all isCell) = true
      rw [decide_eq_true (by omega), List.all_eq_true.mpr a]
      rfl
    have e4 : isRows (.tuple (.tuple c0 :: rest)) = true := by
      show ((PyData.tuple c0 :: rest).all isT && (okSize (.int ((rest.length + 1 : Nat) : Int)) (.int ((c0.length : Nat) : Int)) && (PyData.tuple c0 :: rest).all (okRow c0.length))) = true
      rw [e1, e2, e3]
      rfl
    show (isRows _ && ((decide ((0 : Int) ≤ (r : Int)) && decide ((r : Int) ≤ (((PyData.tuple c0 :: rest).length : Nat) : Int) - 1)) && (decide ((0 : Int) ≤ (c : Int)) && decide ((c : Int) ≤ ((c0.length : Nat) : Int) - 1)))) = true
    rw [e4, decide_eq_true (by omega), decide_eq_true (by omega), decide_eq_true (by omega), decide_eq_true (by omega)]
    rfl
theorem sm_cell {y : PyData} (h : isCell y = true) : smC y := by
  obtain ⟨k, i, rfl, _⟩ := cell_of h
  intro ds e x hx
  cases e
  intro z ez
  rcases List.mem_cons.mp hx with q | q
  · subst q
    cases ez
    exact (by decide : (1 : Nat) ≤ 1000)
  · rcases List.mem_cons.mp q with q | q
    · subst q
      cases ez
    · cases q
theorem Fc.small (F : Fc h wd d rs r c) : smF d := by
  obtain ⟨rfl, hl, row, hr, hc, h10, w20⟩ := F
  intro ds e x hx
  cases e
  intro es ee
  subst ee
  rcases List.mem_cons.mp hx with q | q
  · cases q
    refine ⟨by omega, fun y hy => ?_⟩
    obtain ⟨cs, rfl, l, a⟩ := row y hy
    intro es ee
    cases ee
    exact ⟨by omega, fun z hz => sm_cell (a z hz)⟩
  · simp at q
theorem shp_cell {y : PyData} (h : isCell y = true) : Shp 1 y := by
  obtain ⟨k, i, rfl, hk, _⟩ := cell_of h
  refine .tup fun x hx => ?_
  rcases List.mem_cons.mp hx with q | q
  · subst q
    refine .str ?_
    unfold okSign at hk
    simp only [Bool.and_eq_true, decide_eq_true_eq] at hk
    show (#[k].all (· < 0x110000)) = true
    simp
    omega
  · rcases List.mem_cons.mp q with q | q
    · subst q
      exact .int i
    · cases q
theorem Fc.shp (F : Fc h wd d rs r c) : Shp 4 d := by
  obtain ⟨rfl, hl, row, hr, hc, h10, w20⟩ := F
  refine .tup fun x hx => ?_
  rcases List.mem_cons.mp hx with q | q
  · subst q
    refine .tup fun y hy => ?_
    obtain ⟨cs, rfl, l, a⟩ := row y hy
    exact .tup fun z hz => shp_cell (a z hz)
  · rcases List.mem_cons.mp q with q | q
    · subst q
      exact .int _
    · rcases List.mem_cons.mp q with q | q
      · subst q
        exact .int _
      · cases q
theorem blank_cell : isCell blankC = true := by decide +kernel
theorem fitRow_len (cs : List PyData) (W : Nat) : (fitRow cs W).length = W := by
  unfold fitRow
  rw [List.length_append, List.length_take, List.length_replicate]
  omega
theorem fitRow_cell {cs : List PyData} (a : ∀ y ∈ cs, isCell y = true) (W : Nat) : ∀ y ∈ fitRow cs W, isCell y = true := fun y hy => by
  rcases List.mem_append.mp hy with q | q
  · exact a y (List.mem_of_mem_take q)
  · rw [(List.mem_replicate.mp q).2]
    exact blank_cell
theorem fitRows_len (rs : List PyData) (H W : Nat) : (fitRows rs H W).length = H := by
  unfold fitRows
  rw [List.length_append, List.length_map, List.length_take, List.length_replicate]
  omega
theorem min_if (a b : Nat) (hb : 1 ≤ b) : (if ((b : Nat) : Int) - 1 < (a : Int) then ((b : Nat) : Int) - 1 else (a : Int)) = ((min a (b - 1) : Nat) : Int) := by
  split <;> omega
theorem Fc.fit (F : Fc h wd d rs r c) (h1 : 1 ≤ H) (h2 : H ≤ 10) (w1 : 1 ≤ W) (w2 : W ≤ 20) : Fc H W (fitD d H W) (fitRows rs H W) (min r (H - 1)) (min c (W - 1)) := by
  obtain ⟨rfl, hl, row, hr, hc, h10, w20⟩ := F
  refine ⟨?_, fitRows_len rs H W, fun x hx => ?_, by omega, by omega, h2, w2⟩
  · show PyData.tuple [.tuple (fitRows rs H W), .int (if (H : Int) - 1 < (r : Int) then (H : Int) - 1 else (r : Int)), .int (if (W : Int) - 1 < (c : Int) then (W : Int) - 1 else (c : Int))] = _
    rw [min_if r H h1, min_if c W w1]
  · rcases List.mem_append.mp hx with q | q
    · obtain ⟨y, hy, rfl⟩ := List.mem_map.mp q
      obtain ⟨cs, rfl, l, a⟩ := row y (List.mem_of_mem_take hy)
      exact ⟨_, rfl, fitRow_len cs W, fitRow_cell a W⟩
    · rw [(List.mem_replicate.mp q).2]
      exact ⟨_, rfl, List.length_replicate, fun y hy => by rw [(List.mem_replicate.mp hy).2]; exact blank_cell⟩
/-! ### fitting twice -/
theorem fitRow_two {cs : List PyData} {W t : Nat} (h1 : cs.length ≤ W) (h2 : t ≤ W) : fitRow (fitRow cs W) t = fitRow cs t := by
  have e : t - (fitRow cs W).length = 0 := by rw [fitRow_len]; omega
  show (fitRow cs W).take t ++ List.replicate (t - (fitRow cs W).length) blankC = cs.take t ++ List.replicate (t - cs.length) blankC
  rw [e]
  show (cs.take W ++ List.replicate (W - cs.length) blankC).take t ++ [] = _
  rw [List.append_nil, List.take_of_length_le h1, List.take_append, List.take_replicate, Nat.min_eq_left (by omega)]
theorem fitRow_rep (W t : Nat) (h : t ≤ W) : fitRow (List.replicate W blankC) t = List.replicate t blankC := by
  show (List.replicate W blankC).take t ++ List.replicate (t - (List.replicate W blankC).length) blankC = _
  rw [List.length_replicate, List.take_replicate, Nat.min_eq_left h, show t - W = 0 by omega]
  show _ ++ [] = _
  rw [List.append_nil]
theorem Fc.two (F : Fc h wd d rs r c) {l t : Nat} (hH : h ≤ H) (hW : wd ≤ W) (h1 : 1 ≤ H) (h2 : H ≤ 10) (w1 : 1 ≤ W) (w2 : W ≤ 20) (l1 : 1 ≤ l) (l2 : l ≤ H) (t1 : 1 ≤ t) (t2 : t ≤ W) : fitD (fitD d H W) l t = fitD d l t := by
  have G := F.fit h1 h2 w1 w2
  have A1 := (G.fit (H := l) (W := t) l1 (by omega) t1 (by omega)).eq
  have A2 := (F.fit (H := l) (W := t) l1 (by omega) t1 (by omega)).eq
  rw [A1, A2]
  have e1 : fitRows (fitRows rs H W) l t = fitRows rs l t := by
    have hl := F.len
    show ((fitRows rs H W).take l).map (fun x => PyData.tuple (fitRow (itemsT x) t)) ++ List.replicate (l - (fitRows rs H W).length) _ = _
    rw [fitRows_len, show l - H = 0 by omega]
    show _ ++ [] = _
    rw [List.append_nil]
    show (((rs.take H).map (fun x => PyData.tuple (fitRow (itemsT x) W)) ++ List.replicate (H - rs.length) (PyData.tuple (List.replicate W blankC))).take l).map (fun x => PyData.tuple (fitRow (itemsT x) t)) = (rs.take l).map (fun x => PyData.tuple (fitRow (itemsT x) t)) ++ List.replicate (l - rs.length) (.tuple (List.replicate t blankC))
    rw [List.take_of_length_le (by omega : rs.length ≤ H), List.take_append, List.map_append, List.length_map, List.take_replicate, Nat.min_eq_left (by omega), List.map_replicate, ← List.map_take, List.map_map]
    have e2 : PyData.tuple (fitRow (itemsT (.tuple (List.replicate W blankC))) t) = .tuple (List.replicate t blankC) := by
      show PyData.tuple (fitRow (List.replicate W blankC) t) = _
      rw [fitRow_rep W t t2]
    rw [e2]
    congr 1
    refine List.map_congr_left fun x hx => ?_
    obtain ⟨cs, rfl, lc, _⟩ := F.row x (List.mem_of_mem_take hx)
    show PyData.tuple (fitRow (fitRow cs W) t) = PyData.tuple (fitRow cs t)
    rw [fitRow_two (by omega) t2]
  rw [e1]
  have e2 : min (min r (H - 1)) (l - 1) = min r (l - 1) := by omega
  have e3 : min (min c (W - 1)) (t - 1) = min c (t - 1) := by omega
  rw [e2, e3]
theorem Fc.same (F : Fc h wd d rs r c) : fitD d h wd = d := by
  have hr := F.hr
  have hc := F.hc
  have hl := F.len
  rw [(F.fit (H := h) (W := wd) (by omega) F.h10 (by omega) F.w20).eq]
  have e1 : fitRows rs h wd = rs := by
    unfold fitRows
    rw [List.take_of_length_le (by omega), hl, Nat.sub_self]
    show _ ++ [] = rs
    rw [List.append_nil]
    have : rs.map (fun x => PyData.tuple (fitRow (itemsT x) wd)) = rs.map id := List.map_congr_left fun x hx => by
      obtain ⟨cs, rfl, lc, _⟩ := F.row x hx
      show PyData.tuple (cs.take wd ++ List.replicate (wd - cs.length) blankC) = PyData.tuple cs
      rw [List.take_of_length_le (by omega), lc, Nat.sub_self]
      show PyData.tuple (cs ++ []) = _
      rw [List.append_nil]
    rw [this, List.map_id]
  rw [e1, show min r (h - 1) = r by omega, show min c (wd - 1) = c by omega]
  exact F.eq.symm
/-! ### texts -/
def codeOf (y : PyData) : Nat := ((signOf y).cps.toList).headD 0
def rowCodes (x : PyData) : List Nat := (itemsT x).map codeOf
theorem sign_code {y : PyData} (h : isCell y = true) : signOf y = ⟨#[codeOf y]⟩ := by
  obtain ⟨k, i, rfl, _⟩ := cell_of h
  rfl
theorem join_codes : ∀ cs : List PyData, (∀ y ∈ cs, isCell y = true) → Str.join (Str.ofString "") (cs.map signOf) = ⟨(cs.map codeOf).toArray⟩
  | [], _ => by
    show Str.empty = _
    rfl
  | [y], h => by
    show signOf y = _
    rw [sign_code (h y List.mem_cons_self)]
    rfl
  | y :: z :: r, h => by
    have ih := join_codes (z :: r) fun x hx => h x (List.mem_cons_of_mem _ hx)
    show signOf y ++ Str.ofString "" ++ Str.join (Str.ofString "") ((z :: r).map signOf) = _
    rw [ih, sign_code (h y List.mem_cons_self)]
    refine TL.ext_tl ?_
    rw [TL.tl_append, TL.tl_append]
    have e : TL.tl (Str.ofString "") = [] := by decide +kernel
    rw [e]
    show [codeOf y] ++ [] ++ (((z :: r).map codeOf).toArray).toList = (((y :: z :: r).map codeOf).toArray).toList
    simp
theorem rowText_eq {x : PyData} (h : ∀ y ∈ itemsT x, isCell y = true) : rowText x = ⟨(rowCodes x).toArray⟩ := by
  unfold rowText
  rw [TL.join_eq, join_codes _ h]
  rfl
theorem blank_code : codeOf blankC = 32 := by decide +kernel
theorem spaces (n : Nat) : (⟨(List.replicate n (Str.ofString " ").cps.toList).flatten.toArray⟩ : Str) = ⟨(List.replicate n 32).toArray⟩ := by
  have e : (Str.ofString " ").cps.toList = [32] := by decide +kernel
  rw [e, flat_one]
theorem app_codes (a b : List Nat) : (⟨a.toArray⟩ : Str) ++ (⟨b.toArray⟩ : Str) = ⟨(a ++ b).toArray⟩ := by
  refine TL.ext_tl ?_
  rw [TL.tl_append]
theorem shown_fit (F : Fc h wd d rs r c) (hH : h ≤ H) (hW : wd ≤ W) (h1 : 1 ≤ H) (h2 : H ≤ 10) (w1 : 1 ≤ W) (w2 : W ≤ 20) :
    shownD (fitD d H W) = rs.map (fun x => PyData.str ((⟨(rowCodes x).toArray⟩ : Str) ++ ⟨(List.replicate (W - wd) 32).toArray⟩)) ++ List.replicate (H - h) (.str ⟨(List.replicate W 32).toArray⟩) := by
  rw [(F.fit h1 h2 w1 w2).eq]
  have hl := F.len
  show (fitRows rs H W).map (fun x => PyData.str (rowText x)) = _
  unfold fitRows
  rw [List.take_of_length_le (by omega), List.map_append, List.map_map, List.map_replicate, hl]
  congr 1
  · refine List.map_congr_left fun x hx => ?_
    obtain ⟨cs, rfl, lc, a⟩ := F.row x hx
    show PyData.str (rowText (.tuple (fitRow cs W))) = _
    rw [rowText_eq (x := .tuple (fitRow cs W)) (fitRow_cell a W), app_codes]
    have e : rowCodes (.tuple (fitRow cs W)) = rowCodes (.tuple cs) ++ List.replicate (W - wd) 32 := by
      show (cs.take W ++ List.replicate (W - cs.length) blankC).map codeOf = cs.map codeOf ++ _
      rw [List.take_of_length_le (by omega), List.map_append, List.map_replicate, blank_code, lc]
    rw [e]
  · congr 2
    rw [rowText_eq (fun y hy => by rw [(List.mem_replicate.mp hy).2]; exact blank_cell)]
    show (⟨((List.replicate W blankC).map codeOf).toArray⟩ : Str) = _
    rw [List.map_replicate, blank_code]
theorem Fc.shown (F : Fc h wd d rs r c) : shownD d = rs.map (fun x => PyData.str ⟨(rowCodes x).toArray⟩) := by
  rw [F.eq]
  refine List.map_congr_left fun x hx => ?_
  obtain ⟨cs, rfl, lc, a⟩ := F.row x hx
  rw [rowText_eq (x := .tuple cs) a]
theorem rowCodes_len {x : PyData} (R : Row wd x) : (rowCodes x).length = wd := by
  obtain ⟨cs, rfl, lc, a⟩ := R
  show (cs.map codeOf).length = wd
  rw [List.length_map, lc]
theorem rowCodes_small {x : PyData} (R : Row wd x) : ∀ k ∈ rowCodes x, k ≤ 126 := by
  obtain ⟨cs, rfl, lc, a⟩ := R
  intro k hk
  obtain ⟨y, hy, rfl⟩ := List.mem_map.mp hk
  obtain ⟨k, i, rfl, ho, _⟩ := cell_of (a y hy)
  unfold okSign at ho
  simp only [Bool.and_eq_true, decide_eq_true_eq] at ho
  show k ≤ 126
  omega
/-! ### the drawn face -/
theorem iks_b (j : Nat) (h : j < 5) : 0 ≤ iks.getD j 0 ∧ iks.getD j 0 ≤ 7 := by
  match j, h with
  | 0, _ => decide
  | 1, _ => decide
  | 2, _ => decide
  | 3, _ => decide
  | 4, _ => decide
  | n + 5, h => omega
theorem sgs_b (j : Nat) (h : j < 6) : okSign (sgs.getD j 0) = true := by
  match j, h with
  | 0, _ => decide
  | 1, _ => decide
  | 2, _ => decide
  | 3, _ => decide
  | 4, _ => decide
  | 5, _ => decide
  | n + 6, h => omega
theorem cell_ok {k : Nat} {i : Int} (hk : okSign k = true) (h0 : 0 ≤ i) (h7 : i ≤ 7) : isCell (cellD k i) = true := by
  show (([k].all okSign && decide (1 = 1)) && (decide (0 ≤ i) && decide (i ≤ 7))) = true
  rw [List.all_cons, hk, decide_eq_true h0, decide_eq_true h7]
  rfl
theorem cellOf_ok (m : Int) : isCell (cellOfD m) = true := by
  obtain ⟨j1, e1, l1⟩ := mod_nat m 6 (by decide)
  obtain ⟨j2, e2, l2⟩ := mod_nat (m / 8) 5 (by decide)
  have e1 : m % 6 = (j1 : Int) := e1
  have e2 : m / 8 % 5 = (j2 : Int) := e2
  unfold cellOfD
  rw [e1, e2]
  exact cell_ok (sgs_b j1 l1) (iks_b j2 l2).1 (iks_b j2 l2).2
theorem rowL_row (m : Int) (wd j : Nat) : Row wd (.tuple (rowL m wd j)) := by
  refine ⟨_, rfl, ?_, fun y hy => ?_⟩
  · unfold rowL
    split
    · exact List.length_replicate
    · rw [List.length_map, List.length_range]
  · unfold rowL at hy
    split at hy
    · rw [(List.mem_replicate.mp hy).2]
      exact blank_cell
    · obtain ⟨n, _, rfl⟩ := List.mem_map.mp hy
      exact cellOf_ok _
theorem faceL_fc (m : Int) (h1 : 1 ≤ h) (h2 : h ≤ 10) (w1 : 1 ≤ wd) (w2 : wd ≤ 20) : Fc h wd (faceL m h wd) (rowsL m h wd) (m / 8 % (h : Int)).toNat (m / 128 % (wd : Int)).toNat := by
  obtain ⟨j1, e1, l1⟩ := mod_nat (m / 8) h h1
  obtain ⟨j2, e2, l2⟩ := mod_nat (m / 128) wd w1
  refine ⟨?_, by unfold rowsL; rw [List.length_map, List.length_range], fun x hx => ?_, by rw [e1]; exact l1, by rw [e2]; exact l2, h2, w2⟩
  · unfold faceL
    rw [e1, e2]
    rfl
  · obtain ⟨j, _, rfl⟩ := List.mem_map.mp hx
    exact rowL_row m wd j
theorem blankF_fc (h1 : 1 ≤ h) (h2 : h ≤ 10) (w1 : 1 ≤ wd) (w2 : wd ≤ 20) : Fc h wd (blankF h wd) (List.replicate h (.tuple (List.replicate wd blankC))) 0 0 := by
  refine ⟨rfl, List.length_replicate, fun x hx => ?_, by omega, by omega, h2, w2⟩
  rw [(List.mem_replicate.mp hx).2]
  exact ⟨_, rfl, List.length_replicate, fun y hy => by rw [(List.mem_replicate.mp hy).2]; exact blank_cell⟩
theorem fit_blank (h1 : 1 ≤ h) (h2 : h ≤ 10) (w1 : 1 ≤ wd) (w2 : wd ≤ 20) (H1 : 1 ≤ H) (H2 : H ≤ 10) (W1 : 1 ≤ W) (W2 : W ≤ 20) : fitD (blankF h wd) H W = blankF H W := by
  rw [((blankF_fc h1 h2 w1 w2).fit H1 H2 W1 W2).eq]
  have e : fitRows (List.replicate h (.tuple (List.replicate wd blankC))) H W = List.replicate H (.tuple (List.replicate W blankC)) := by
    unfold fitRows
    rw [List.take_replicate, List.map_replicate, List.length_replicate]
    have e2 : PyData.tuple (fitRow (itemsT (.tuple (List.replicate wd blankC))) W) = .tuple (List.replicate W blankC) := by
      show PyData.tuple ((List.replicate wd blankC).take W ++ List.replicate (W - (List.replicate wd blankC).length) blankC) = _
      rw [List.take_replicate, List.length_replicate, List.replicate_append_replicate, show min W wd + (W - wd) = W by omega]
    rw [e2, List.replicate_append_replicate, show min H h + (H - h) = H by omega]
  rw [e, show min 0 (H - 1) = 0 by omega, show min 0 (W - 1) = 0 by omega]
  rfl
end
end K10

namespace K10
open PySem PySem.Spec PyProof.Rows L2 FP L2H
section
variable {P : Program} {w : World} {K : PySem.W.Frag} {mg : Str → Option Value} {base : Heap} {f C : Addr} {fd : FuncData}
theorem word_mono {k j : Nat} {wd : Str} {fw : Addr → PyData → Prop} (h : WordOk P w K mg base k wd fw) (hk : k ≤ j) : WordOk P w K mg base j wd fw := by
  obtain ⟨g, a, b, r⟩ := h.ex
  exact ⟨g, a, b, fun A outer s H q C d ps Q z1 z2 => r A outer s H q C d ps Q z1 (z2.mono hk)⟩
def refusedF : PyData := .tuple [.str "refused", .str "BadFace"]
def fwF (C : Addr) : Addr → PyData → Prop := fun D d => D = C ∧ d = refusedF
abbrev NW : List Str := ["_law_e", "_law_flags", "_law_flag"]
theorem sc_word : FnScope NW ["_law_e"] (defScope s__law_word) := ⟨rfl, rfl, rfl, by decide +kernel, rfl, by decide +kernel, by decide +kernel⟩
abbrev asked : List (Str × Bool) := [("BadChange", false), ("BadDeed", false), ("BadFace", true), ("BadPacket", false), ("BadTalk", false)]
theorem ok_word (F : Df K "_law_word" s__law_word f fd) (hm : mg "_law_word" = some (.ref f)) (mi : mg "isinstance" = none) (mn : mg "int" = none) (ms : mg "sum" = none) (mv : mg "ValueError" = none) (gl : ∀ c ∈ asked, mg c.1 = some (.ref (He.ga K c.1))) (EC : ExcC K C)
    (ka : ∀ c ∈ asked, PySem.W.kitOne K (.ref C) (.ref (He.ga K c.1)) = some c.2) (kv : PySem.W.kitOne K (.ref C) (.type "ValueError") = some true) : WordOk P w K mg base 1 "_law_word" (fwF C) := by
  refine word_ok (N := NW) (n := 2) F hm sc_word rfl (fun _ _ _ _ _ _ us hl => match us, hl with | [_], _ => rfl) (fun cdv A outer s H q D d ps hf hot c1 c2 hr => ?_)
  obtain ⟨rfl, rfl⟩ := hf
  have Z : Pin (cxH C8.CX0 P w K mg base NW "_law_word" (defScope s__law_word) f cdv A outer s H C8.E0 q) q D := ⟨List.mem_cons_self, EC, c1, c2, let ⟨_, vs, h, _⟩ := hot; ⟨vs, h⟩⟩
  have HC : HotC (cxH C8.CX0 P w K mg base NW "_law_word" (defScope s__law_word) f cdv A outer s H C8.E0 q) := ⟨q, hot, List.mem_cons_self⟩
  have is : ∀ {δ : De} {ω : Om} {p0 p1 p2 pos : Pos} (c : Str × Bool) (hc : c ∈ asked) (hd : δ[0]? = some (some (.ad q.1))) (hg : Gl (cxH C8.CX0 P w K mg base NW "_law_word" (defScope s__law_word) f cdv A outer s H C8.E0 q) c.1) (hdb : (c.1 == ("__debug__" : Str)) = false),
      PD (cxH C8.CX0 P w K mg base NW "_law_word" (defScope s__law_word) f cdv A outer s H C8.E0 q) δ ω (.Call (.Name "isinstance" p0) [.Name "_law_e" p1, .Name c.1 p2] [] pos) (.bool c.2) :=
    fun {δ ω p0 p1 p2 pos} c hc hd hg hdb => pd_isP 0 (y := "_law_e") Z (pe_glob (v := .ref (He.ga K c.1)) hg (gl c hc) rfl hdb) (fun v r => r) (ka c hc) mi hd
  refine sd_own 1 (pn_lst (ds := [.bool false, .bool false, .bool true, .bool false]) (pds_cons (is ("BadChange", false) (by simp) rfl rfl rfl) (pds_cons (is ("BadDeed", false) (by simp) rfl rfl rfl) (pds_cons (is ("BadFace", true) (by simp) rfl rfl rfl) (pds_cons (is ("BadPacket", false) (by simp) rfl rfl rfl) pds_nil))))) (fun D' => ?_) sc_word.nd
  refine sd_set 1 (PN.pd (pn_cat (plt_var 1 List.mem_cons_self) (PN.plt (pn_lst (ds := [.bool false]) (pds_cons (is ("BadTalk", false) (by simp) rfl rfl rfl) pds_nil))) (by decide))) ?_ sc_word.nd
  refine sd_if (PWd.pt (pw_ord (pt_cmpd op_ne rd_neI (pd_sumH (bs := [false, false, true, false, false]) (j := 2) HC sc_word.nd (PD.pl (pd_var 1)) (by decide) (blkOk_by (N := NW) (sc := defScope s__law_word) (by decide +kernel)) (fun _ _ _ _ _ => pg_name sc_word.nd rfl (Or.inl rfl)) (fun b s H C cl fp => pd_intB mn (pd_var 2)) ms) pd_int (nomark _))
    (fun _ => pw_or1d (pt_notd (pt_bool (pd_isP 0 (y := "_law_e") (cv := .ty "ValueError") (u := .type "ValueError") Z (pe_bltn rfl mv (by decide +kernel) rfl) (fun v r => r) kv mi)))))) (fun hk => ?_) (fun _ => sd_nil ?_)
  · exact absurd hk (by decide)
  · refine sd_ret (pd_tup (pds_cons pd_str (pds_cons (pd_ixL (PN.pl (pn_lst (pds_cons pd_str (pds_cons pd_str (pds_cons pd_str (pds_cons pd_str (pds_cons pd_str pds_nil))))))) (pd_idxT (bs := [false, false, true, false, false]) (j := 2) (PD.pl (pd_var 1)) rfl (fun i hi => ?_)) (atI_nat (j := 2) rfl)) pds_nil))) rfl
    match i, hi with
    | 0, _ => rfl
    | 1, _ => rfl
end
end K10

namespace K10
open PySem PySem.Spec PyProof.Rows L2 FP
/-! ### what is no face -/
def badCells : List PyData := [.none, .tuple [.str "a"], .tuple [.str "ab", .int 0], .tuple [.str "", .int 0], .tuple [.str "\n", .int 0], .tuple [.str "a", .int 8], .tuple [.str "a", .int (-1)], .tuple [.str "a", .bool true], .list [.str "a", .int 0], .tuple [.str "a", .none]] ++ [.tuple [.int 5, .int 0]]
def no7 (rs : List PyData) (r c : Nat) : List PyData := [.none, .tuple rs, .tuple [.tuple rs, .int (r : Int)], .tuple [.list rs, .int (r : Int), .int (c : Int)], .tuple [.tuple [], .int 0, .int 0], .tuple [.tuple [.tuple []], .int 0, .int 0], .tuple [.tuple rs, .int (rs.length : Int), .int (c : Int)]]
def no4 (rs c0 : List PyData) (r c : Nat) : List PyData := [.tuple [.tuple rs, .int (-1), .int (c : Int)], .tuple [.tuple rs, .int (r : Int), .int (c0.length : Int)], .tuple [.tuple rs, .none, .int (c : Int)], .tuple [.tuple rs, .bool true, .int (c : Int)]]
def no3 (rs c0 : List PyData) (y : PyData) (r c : Nat) : List PyData := [.tuple [.tuple (List.replicate 11 (.tuple c0)), .int 0, .int 0], .tuple [.tuple [.tuple (List.replicate 21 y)], .int 0, .int 0], .tuple [.tuple (rs ++ [.tuple (c0 ++ [y])]), .int (r : Int), .int (c : Int)]]
def withBad (rest cs : List PyData) (r c : Nat) (b : PyData) : PyData := .tuple [.tuple ([.tuple ([b] ++ cs)] ++ rest), .int (r : Int), .int (c : Int)]
def no14 (y : PyData) (cs rest : List PyData) (r c : Nat) : List PyData := (no7 (.tuple (y :: cs) :: rest) r c ++ no4 (.tuple (y :: cs) :: rest) (y :: cs) r c) ++ no3 (.tuple (y :: cs) :: rest) (y :: cs) y r c
def noL (y : PyData) (cs rest : List PyData) (r c : Nat) : List PyData := no14 y cs rest r c ++ badCells.map (withBad rest cs r c)
theorem noL_len (y : PyData) (cs rest : List PyData) (r c : Nat) : (noL y cs rest r c).length = 25 := by
  unfold noL no14 no7 no4 no3 badCells
  simp
section
variable {P : Program} {w : World} {K : PySem.W.Frag} {mg : Str → Option Value} {base : Heap} {f C : Addr} {fd : FuncData}
def frNone : List PyData → Rs → Prop := fun ds s => ∃ (h wd : Nat) (d y : PyData) (cs rest : List PyData) (r c : Nat) (m : Int), ds = [d, .int m] ∧ Fc h wd d (.tuple (y :: cs) :: rest) r c ∧ s = .ok ((noL y cs rest r c).getD (m % 25).toNat .none)
abbrev NN : List Str := ["_law_face_here", "_law_more", "_law_rows", "_law_row", "_law_column", "_law_cell_here", "_law_some", "_law_cells", "_law_bad"]
theorem sc_none : FnScope NN ["_law_face_here", "_law_more"] (defScope s__law_none) := ⟨rfl, rfl, rfl, by decide +kernel, rfl, by decide +kernel, by decide +kernel⟩
theorem cut1 (x : PyData) (xs : List PyData) : FP.cutD (x :: xs) (some 1) none = xs := cut_from (x :: xs) 1
theorem cutO (x : PyData) (xs : List PyData) : FP.cutD (x :: xs) none (some 1) = [x] := cut_to (x :: xs) 1
theorem ok_none (F : Df K "_law_none" s__law_none f fd) (hm : mg "_law_none" = some (.ref f)) (B : Bl mg) (ml : mg "list" = none) : DefOk P w K mg base 1 "_law_none" frNone := by
  refine def_ok F hm sc_none (fun _ _ _ _ _ _ us hl => match us, hl with | [_, _], _ => rfl) (fun ds r h => by obtain ⟨_, _, _, _, _, _, _, _, _, rfl, _⟩ := h; rfl) (fun cdv A outer s H E qs ds r0 hr h => ?_)
  obtain ⟨h, wd, d, y, cs, rest, r, c, m, rfl, Fa, rfl⟩ := h
  have hcs : cs.length < 20 := by
    obtain ⟨c0, e0, l0, _⟩ := Fa.row _ List.mem_cons_self
    cases e0
    have := Fa.w20
    simp at l0
    omega
  have hrest : rest.length < 10 := by
    have h1 := Fa.len
    have h2 := Fa.h10
    rw [List.length_cons] at h1
    omega
  refine sd_unp [2, 3, 4] (PD.eq (pd_var 0) Fa.eq) (pg_tup rfl (pgs_cons (pg_name sc_none.nd rfl (.inl rfl)) (pgs_cons (pg_name sc_none.nd rfl (.inl rfl)) (pgs_cons (pg_name sc_none.nd rfl (.inl rfl)) pgs_nil)))) rfl rfl ?_
  refine sd_set 5 (pd_ixT (pd_ixT (pd_var 2) pd_int atI0) pd_int atI0) ?_ sc_none.nd
  refine sd_own 6 (ds := no7 (.tuple (y :: cs) :: rest) r c) (pn_lst (pds_cons pd_non (pds_cons (pd_var 2) (pds_cons (pd_tup (pds_cons (pd_var 2) (pds_cons (pd_var 3) pds_nil))) (pds_cons (pd_tup (pds_cons (PN.pd (pn_listT ml (pd_var 2))) (pds_cons (pd_var 3) (pds_cons (pd_var 4) pds_nil)))) (pds_cons (pd_tup (pds_cons (pd_tup pds_nil) (pds_cons pd_int (pds_cons pd_int pds_nil))))
    (pds_cons (pd_tup (pds_cons (pd_tup (pds_cons (pd_tup pds_nil) pds_nil)) (pds_cons pd_int (pds_cons pd_int pds_nil)))) (pds_cons (pd_tup (pds_cons (pd_var 2) (pds_cons (pd_lenT B.len (pd_var 2)) (pds_cons (pd_var 4) pds_nil)))) pds_nil))))))) (by simp [no7])) (fun D1 => ?_) sc_none.nd
  refine sd_own 6 (ds := no7 (.tuple (y :: cs) :: rest) r c ++ no4 (.tuple (y :: cs) :: rest) (y :: cs) r c) (pn_cat (plt_var 6 List.mem_cons_self) (PN.plt (pn_lst (ds := no4 (.tuple (y :: cs) :: rest) (y :: cs) r c) (pds_cons (pd_tup (pds_cons (pd_var 2) (pds_cons (pd_neg pd_int) (pds_cons (pd_var 4) pds_nil)))) (pds_cons (pd_tup (pds_cons (pd_var 2) (pds_cons (pd_var 3) (pds_cons (pd_lenT B.len (pd_ixT (pd_var 2) pd_int atI0)) pds_nil))))
    (pds_cons (pd_tup (pds_cons (pd_var 2) (pds_cons pd_non (pds_cons (pd_var 4) pds_nil)))) (pds_cons (pd_tup (pds_cons (pd_var 2) (pds_cons pd_bl (pds_cons (pd_var 4) pds_nil)))) pds_nil)))) (by simp [no4]))) (by simp [no7, no4])) (fun D2 => ?_) sc_none.nd
  refine sd_own 6 (ds := no14 y cs rest r c) (pn_cat (plt_var 6 List.mem_cons_self) (PN.plt (pn_lst (ds := no3 (.tuple (y :: cs) :: rest) (y :: cs) y r c) (pds_cons (pd_tup (pds_cons (PD.eq (pd_repT (k := 11) (ds := [.tuple (y :: cs)]) (PD.eq (pd_slT (i := none) (j := some 1) (pd_var 2) rfl ⟨_, rfl, pd_int⟩) (by rw [cutO])) pd_int (by simp) (by decide) (by decide) (by simp)) (by rw [flat_one]; rfl)) (pds_cons pd_int (pds_cons pd_int pds_nil))))
    (pds_cons (pd_tup (pds_cons (pd_tup (pds_cons (pd_rep1 (k := 21) (pd_tup (pds_cons (pd_var 5) pds_nil)) pd_int (by decide) (by decide)) pds_nil)) (pds_cons pd_int (pds_cons pd_int pds_nil))))
    (pds_cons (pd_tup (pds_cons (pd_catT (pd_var 2) (pd_tup (pds_cons (pd_catT (pd_ixT (pd_var 2) pd_int atI0) (pd_tup (pds_cons (pd_var 5) pds_nil)) (by simp; omega)) pds_nil)) (by simp; omega)) (pds_cons (pd_var 3) (pds_cons (pd_var 4) pds_nil)))) pds_nil))) (by simp [no3]))) (by simp [no7, no4, no3])) (fun D3 => ?_) sc_none.nd
  refine sd_own 7 (pn_lst (pds_cons pd_non (pds_cons (pd_tup (pds_cons pd_str pds_nil)) (pds_cons (pd_tup (pds_cons pd_str (pds_cons pd_int pds_nil))) (pds_cons (pd_tup (pds_cons pd_str (pds_cons pd_int pds_nil))) (pds_cons (pd_tup (pds_cons pd_str (pds_cons pd_int pds_nil))) (pds_cons (pd_tup (pds_cons pd_str (pds_cons pd_int pds_nil)))
    (pds_cons (pd_tup (pds_cons pd_str (pds_cons (pd_neg pd_int) pds_nil))) (pds_cons (pd_tup (pds_cons pd_str (pds_cons pd_bl pds_nil))) (pds_cons (PN.pd (pn_lst (pds_cons pd_str (pds_cons pd_int pds_nil)))) (pds_cons (pd_tup (pds_cons pd_str (pds_cons pd_non pds_nil))) pds_nil))))))))))) (fun D4 => ?_) sc_none.nd
  refine sd_swap ?_
  refine sd_for 8 (items := badCells) (fun i δ' ω' => ω' = omD ⟨qs, [(D4, _), (D2, _), (D1, _)]⟩ D3 (.lst ((no14 y cs rest r c ++ (badCells.take i).map (withBad rest cs r c)).map .im)) ∧ ∃ y8, δ' = [some (.im d), some (.im (.int m)), some (.im (.tuple (.tuple (y :: cs) :: rest))), some (.im (.int (r : Int))), some (.im (.int (c : Int))), some (.im y), some (.ad D3), some (.ad D4), y8])
    (wk_lst (PN.pd (pn_cat (plt_var 7 (List.mem_cons_of_mem _ List.mem_cons_self)) (PN.plt (pn_lst (pds_cons (pd_tup (pds_cons pd_int (pds_cons pd_int pds_nil))) pds_nil))) (by decide)))) ⟨by rw [List.take_zero, List.map_nil, List.append_nil]; rfl, _, rfl⟩ ?_ ?_ (pg_name sc_none.nd rfl (Or.inl rfl)) (passes_of rfl) rfl
  · rintro i b δ' ω' hd ⟨rfl, y8, rfl⟩
    refine sd_app 6 (d := withBad rest cs r c b) (pd_tup (pds_cons (PD.eq (pd_catT (pd_tup (pds_cons (PD.eq (pd_catT (pd_tup (pds_cons (pd_var 8) pds_nil)) (PD.eq (pd_slT (i := some 1) (j := none) (pd_ixT (pd_var 2) pd_int atI0) ⟨_, rfl, pd_int⟩ rfl) (by rw [cut1])) (by simp; omega)) rfl) pds_nil)) (PD.eq (pd_slT (i := some 1) (j := none) (pd_var 2) ⟨_, rfl, pd_int⟩ rfl) (by rw [cut1])) (by simp; omega)) rfl) (pds_cons (pd_var 3) (pds_cons (pd_var 4) pds_nil)))) (sd_nil ⟨?_, _, rfl⟩) ?_
    · have e : no14 y cs rest r c ++ (badCells.take (i + 1)).map (withBad rest cs r c) = (no14 y cs rest r c ++ (badCells.take i).map (withBad rest cs r c)) ++ [withBad rest cs r c b] := by
        rw [List.take_add_one, hd]
        simp
      rw [e]
    · have := (List.getElem?_eq_some_iff.mp hd).1
      simp [badCells, no14, no7, no4, no3] at this ⊢
      omega
  · rintro δ' ω' ⟨rfl, y8, rfl⟩
    rw [List.take_length]
    have hl : ((no14 y cs rest r c ++ badCells.map (withBad rest cs r c)).length : Int) = 25 := by
      have := noL_len y cs rest r c
      unfold noL at this
      rw [this]
      rfl
    refine sd_ret (pd_ixL (d := (noL y cs rest r c).getD (m % 25).toNat .none) (pl_var 6 List.mem_cons_self) (pd_mod (by rw [hl]; decide) (pd_var 1) (pd_lenL B.len (pl_var 6 List.mem_cons_self))) ?_) rfl
    rw [hl]
    have b1 : 0 ≤ m % 25 := Int.emod_nonneg _ (by decide)
    have b2 : m % 25 < 25 := Int.emod_lt_of_pos _ (by decide)
    have e : m % 25 = (((m % 25).toNat : Nat) : Int) := by omega
    rw [e]
    refine atI_nat ?_
    have hlt : (m % 25).toNat < (noL y cs rest r c).length := by
      rw [noL_len]
      omega
    show (noL y cs rest r c)[_]? = _
    rw [List.getD_eq_getElem?_getD]
    simp only [Int.toNat_natCast]
    rw [List.getElem?_eq_getElem hlt]
    rfl
end
end K10

namespace K10
open PySem PySem.Spec PyProof.Rows L2 FP
/-! ### none of them is a face -/
theorem smC_triv {d : PyData} (h : ∀ ds, d ≠ .tuple ds) : smC d := fun ds e => absurd e (h ds)
theorem smRs_triv {d : PyData} (h : ∀ ds, d ≠ .tuple ds) : smRs d := fun ds e => absurd e (h ds)
theorem smF_triv {d : PyData} (h : ∀ ds, d ≠ .tuple ds) : smF d := fun ds e => absurd e (h ds)
theorem smRs_of {rs : List PyData} (hl : rs.length ≤ 1000) (h : ∀ x ∈ rs, ∃ cs, x = .tuple cs ∧ cs.length ≤ 1000 ∧ ∀ y ∈ cs, smC y) : smRs (.tuple rs) := fun ds e => by
  cases e
  refine ⟨hl, fun x hx => ?_⟩
  obtain ⟨cs, rfl, h1, h2⟩ := h x hx
  intro es ee
  cases ee
  exact ⟨h1, h2⟩
theorem smF_of {a b c : PyData} (ha : smRs a) (hb : ∀ ds, b ≠ .tuple ds) (hc : ∀ ds, c ≠ .tuple ds) : smF (.tuple [a, b, c]) := fun ds e => by
  cases e
  intro x hx
  simp only [List.mem_cons, List.not_mem_nil, or_false] at hx
  rcases hx with rfl | rfl | rfl
  · exact ha
  · exact smRs_triv hb
  · exact smRs_triv hc
theorem face_rows {R a b : PyData} (h : isRows R = false) : isFace (.tuple [R, a, b]) = false := by
  show (isRows R && _) = false
  rw [h]
  rfl
theorem face_row {R a b : PyData} (h : isWithin a 0 ((lenT R : Int) - 1) = false) : isFace (.tuple [R, a, b]) = false := by
  show (isRows R && (isWithin a 0 ((lenT R : Int) - 1) && _)) = false
  rw [h]
  simp
theorem face_col {R a b : PyData} (h : isWithin b 0 ((lenT ((itemsT R).headD .none) : Int) - 1) = false) : isFace (.tuple [R, a, b]) = false := by
  show (isRows R && (isWithin a 0 ((lenT R : Int) - 1) && isWithin b 0 ((lenT ((itemsT R).headD .none) : Int) - 1))) = false
  rw [h]
  simp
theorem within_hi {i hi : Int} (h : hi < i) : isWithin (.int i) 0 hi = false := by
  show (decide ((0 : Int) ≤ i) && decide (i ≤ hi)) = false
  rw [decide_eq_false (show ¬ i ≤ hi by omega)]
  simp
theorem rows_size {r0 : PyData} {rs : List PyData} (h : okSize (.int ((rs.length + 1 : Nat) : Int)) (.int ((lenT r0 : Nat) : Int)) = false) : isRows (.tuple (r0 :: rs)) = false := by
  unfold isRows
  dsimp only
  rw [h]
  simp
theorem rows_cells {r0 : PyData} {rs : List PyData} (h : (r0 :: rs).all (okRow (lenT r0)) = false) : isRows (.tuple (r0 :: rs)) = false := by
  unfold isRows
  dsimp only
  rw [h]
  simp
theorem bad_cell : ∀ b ∈ badCells, isCell b = false := by decide +kernel
theorem bad_sm : ∀ b ∈ badCells, smC b := by
  intro b hb
  simp only [badCells, List.mem_append, List.mem_cons, List.not_mem_nil, or_false] at hb
  have nt : ∀ {d : PyData}, (∀ z, d ≠ .str z) → smS d := fun h z e => absurd e (h z)
  have st : ∀ {z : Str}, z.length ≤ 1000 → smS (.str z) := fun h z e => by cases e; exact h
  rcases hb with (rfl | rfl | rfl | rfl | rfl | rfl | rfl | rfl | rfl | rfl) | rfl <;> intro ds e <;> cases e <;> intro x hx <;> simp only [List.mem_cons, List.not_mem_nil, or_false] at hx
  all_goals first
    | (rcases hx with rfl | rfl <;> first | exact st (by decide) | exact nt (fun z => by intro q; cases q))
    | (subst hx; first | exact st (by decide) | exact nt (fun z => by intro q; cases q))
section
variable {h wd r c H W : Nat} {d y : PyData} {cs rest : List PyData}
theorem no_bad (F : Fc h wd d (.tuple (y :: cs) :: rest) r c) : ∀ x ∈ noL y cs rest r c, isFace x = false ∧ smF x := by
  obtain ⟨rfl, hl, row, hr, hc, h10, w20⟩ := F
  have hlen : rest.length + 1 = h := by simpa using hl
  have r0 := row _ List.mem_cons_self
  obtain ⟨c0, e0, l0, a0⟩ := r0
  cases e0
  have lcs : cs.length + 1 = wd := by simpa using l0
  have hy : isCell y = true := a0 y List.mem_cons_self
  have smy := sm_cell hy
  have rowsm : ∀ x ∈ PyData.tuple (y :: cs) :: rest, ∃ es, x = .tuple es ∧ es.length ≤ 1000 ∧ ∀ z ∈ es, smC z := fun x hx => by
    obtain ⟨es, rfl, l, a⟩ := row x hx
    exact ⟨es, rfl, by omega, fun z hz => sm_cell (a z hz)⟩
  have rsm : smRs (.tuple (.tuple (y :: cs) :: rest)) := smRs_of (by simp; omega) rowsm
  have nI : ∀ i : Int, ∀ ds, PyData.int i ≠ .tuple ds := fun i ds e => by cases e
  have nB : ∀ b : Bool, ∀ ds, PyData.bool b ≠ .tuple ds := fun i ds e => by cases e
  have nN : ∀ ds, PyData.none ≠ .tuple ds := fun ds e => by cases e
  have nL : ∀ xs ds, PyData.list xs ≠ .tuple ds := fun _ ds e => by cases e
  intro x hx
  unfold noL no14 no7 no4 no3 at hx
  simp only [List.mem_append, List.mem_cons, List.not_mem_nil, or_false, List.mem_map] at hx
  rcases hx with (((rfl | rfl | rfl | rfl | rfl | rfl | rfl) | (rfl | rfl | rfl | rfl)) | (rfl | rfl | rfl)) | ⟨b, hb, rfl⟩
  · exact ⟨rfl, smF_triv nN⟩
  · refine ⟨?_, fun ds e => ?_⟩
    · match rest, row with
      | [], _ => rfl
      | [_], _ => rfl
      | [x1, x2], row =>
        obtain ⟨e1, rfl, _⟩ := row x1 (by simp)
        exact face_row rfl
      | _ :: _ :: _ :: _, _ => rfl
    · cases e
      intro x hx
      obtain ⟨es, rfl, l, a⟩ := row x hx
      refine fun ds e => ?_
      cases e
      refine ⟨by omega, fun z hz ds e => ?_⟩
      subst e
      have ez := a _ hz
      match ds, ez with
      | [u, v], ez =>
        refine ⟨by simp, fun x hx => ?_⟩
        have ez : (isSign u && isWithin v 0 7) = true := ez
        have e1 := (Bool.and_eq_true_iff.mp ez).1
        have e2 := (Bool.and_eq_true_iff.mp ez).2
        simp only [List.mem_cons, List.not_mem_nil, or_false] at hx
        rcases hx with rfl | rfl
        · refine smC_triv fun ds e => ?_
          subst e
          cases e1
        · refine smC_triv fun ds e => ?_
          subst e
          cases e2
  · refine ⟨rfl, fun ds e => ?_⟩
    cases e
    intro x hx
    simp only [List.mem_cons, List.not_mem_nil, or_false] at hx
    rcases hx with rfl | rfl
    · exact rsm
    · exact smRs_triv (nI _)
  · exact ⟨face_rows rfl, smF_of (smRs_triv (nL _)) (nI _) (nI _)⟩
  · exact ⟨rfl, smF_of (smRs_of (by simp) (fun x hx => by cases hx)) (nI _) (nI _)⟩
  · exact ⟨by decide +kernel, smF_of (smRs_of (by simp) (fun x hx => by
      simp only [List.mem_cons, List.not_mem_nil, or_false] at hx
      exact ⟨[], hx, by simp, fun z hz => by cases hz⟩)) (nI _) (nI _)⟩
  · refine ⟨face_row (within_hi ?_), smF_of rsm (nI _) (nI _)⟩
    show ((PyData.tuple (y :: cs) :: rest).length : Int) - 1 < ((PyData.tuple (y :: cs) :: rest).length : Int)
    omega
  · exact ⟨face_row rfl, smF_of rsm (nI _) (nI _)⟩
  · refine ⟨face_col (within_hi ?_), smF_of rsm (nI _) (nI _)⟩
    show ((y :: cs).length : Int) - 1 < ((y :: cs).length : Int)
    omega
  · exact ⟨face_row rfl, smF_of rsm nN (nI _)⟩
  · exact ⟨face_row rfl, smF_of rsm (nB _) (nI _)⟩
  · refine ⟨face_rows ?_, smF_of (smRs_of (by simp) fun x hx => ?_) (nI _) (nI _)⟩
    · exact rows_size (r0 := .tuple (y :: cs)) (rs := List.replicate 10 (.tuple (y :: cs))) (by simp [okSize, isWithin])
    · rw [(List.mem_replicate.mp hx).2]
      exact rowsm _ List.mem_cons_self
  · refine ⟨face_rows ?_, smF_of (smRs_of (by simp) fun x hx => ?_) (nI _) (nI _)⟩
    · exact rows_size (r0 := .tuple (List.replicate 21 y)) (rs := []) (by simp [okSize, isWithin, lenT])
    · simp only [List.mem_cons, List.not_mem_nil, or_false] at hx
      subst hx
      exact ⟨_, rfl, by simp, fun z hz => by
        rw [(List.mem_replicate.mp hz).2]
        exact smy⟩
  · refine ⟨face_rows ?_, smF_of (smRs_of (by simp; omega) fun x hx => ?_) (nI _) (nI _)⟩
    · have e : (PyData.tuple (y :: cs) :: (rest ++ [PyData.tuple (y :: cs ++ [y])])).all (okRow (lenT (.tuple (y :: cs)))) = false := by
        rw [List.all_eq_false]
        refine ⟨.tuple (y :: cs ++ [y]), by simp, ?_⟩
        show ¬ ((decide (lenT (.tuple (y :: cs ++ [y])) = lenT (.tuple (y :: cs))) && _) = true)
        rw [decide_eq_false (by show ¬ ((y :: cs ++ [y]).length = (y :: cs).length); simp)]
        simp
      exact rows_cells e
    · rcases List.mem_append.mp hx with q | q
      · exact rowsm x q
      · simp only [List.mem_cons, List.not_mem_nil, or_false] at q
        subst q
        refine ⟨_, rfl, by simp; omega, fun z hz => ?_⟩
        rcases List.mem_append.mp hz with q | q
        · exact sm_cell (a0 z q)
        · simp only [List.mem_cons, List.not_mem_nil, or_false] at q
          subst q
          exact smy
  · refine ⟨face_rows ?_, smF_of (smRs_of (by simp; omega) fun x hx => ?_) (nI _) (nI _)⟩
    · have e : (PyData.tuple (b :: cs) :: rest).all (okRow (lenT (.tuple (b :: cs)))) = false := by
        rw [List.all_cons]
        have : okRow (lenT (.tuple (b :: cs))) (.tuple (b :: cs)) = false := by
          show (decide _ && (b :: cs).all isCell) = false
          rw [List.all_cons, bad_cell b hb]
          simp
        rw [this]
        rfl
      exact rows_cells e
    · rcases List.mem_cons.mp (show x ∈ PyData.tuple (b :: cs) :: rest from hx) with q | q
      · subst q
        refine ⟨_, rfl, by simp; omega, fun z hz => ?_⟩
        rcases List.mem_cons.mp hz with q | q
        · rw [q]
          exact bad_sm b hb
        · exact sm_cell (a0 z (List.mem_cons_of_mem _ q))
      · exact rowsm x (List.mem_cons_of_mem _ q)
theorem no_at (F : Fc h wd d (.tuple (y :: cs) :: rest) r c) (m : Int) : isFace ((noL y cs rest r c).getD (m % 25).toNat .none) = false ∧ smF ((noL y cs rest r c).getD (m % 25).toNat .none) := by
  refine no_bad F _ ?_
  have b1 : 0 ≤ m % 25 := Int.emod_nonneg _ (by decide)
  have b2 : m % 25 < 25 := Int.emod_lt_of_pos _ (by decide)
  have hlt : (m % 25).toNat < (noL y cs rest r c).length := by
    rw [noL_len]
    omega
  rw [List.getD_eq_getElem?_getD, List.getElem?_eq_getElem hlt]
  exact List.getElem_mem hlt
end
end K10

namespace K10
open PySem PySem.Spec PyProof.Rows L2 FP
theorem rd_neS {K : PySem.W.Frag} {n : Nat} {d e : PyData} (h : Shp n d) (he : d = e) (hn : n ≤ 64 := by decide) : RD K (rNeD K) d e (.bool false) := by
  subst he
  have := rd_neD (K := K) (h.ok hn) (h.ok hn)
  rw [h.refl] at this
  exact this
section
variable {P : Program} {w : World} {K : PySem.W.Frag} {mg : Str → Option Value} {base : Heap} {f C : Addr} {fd : FuncData}
variable {h wd r c H W : Nat} {d : PyData} {rs : List PyData}
theorem size_ok (h1 : 1 ≤ H) (h2 : H ≤ 10) (w1 : 1 ≤ W) (w2 : W ≤ 20) : okSize (.int (H : Int)) (.int (W : Int)) = true := by
  show ((decide ((1 : Int) ≤ (H : Int)) && decide ((H : Int) ≤ 10)) && (decide ((1 : Int) ≤ (W : Int)) && decide ((W : Int) ≤ 20))) = true
  rw [decide_eq_true (by omega), decide_eq_true (by omega), decide_eq_true (by omega), decide_eq_true (by omega)]
  rfl
theorem fit_ok (F : Fc h wd d rs r c) (h1 : 1 ≤ H) (h2 : H ≤ 10) (w1 : 1 ≤ W) (w2 : W ≤ 20) : frFit C [d, .int (H : Int), .int (W : Int)] (.ok (fitD d H W)) := by
  refine ⟨d, _, _, rfl, F.small, ?_⟩
  rw [F.face, size_ok h1 h2 w1 w2]
  rfl
theorem shown_ok (F : Fc h wd d rs r c) : frShown C [d] (.ok (.list (shownD d))) := by
  refine ⟨d, rfl, F.small, ?_⟩
  rw [F.face]
  rfl
theorem blank_ok (h1 : 1 ≤ H) (h2 : H ≤ 10) (w1 : 1 ≤ W) (w2 : W ≤ 20) : frBlank C [.int (H : Int), .int (W : Int)] (.ok (blankF H W)) := by
  refine ⟨_, _, rfl, ?_⟩
  rw [size_ok h1 h2 w1 w2]
  rfl
theorem face_ok (F : Fc h wd d rs r c) : frFace C [d] (.ok .none) := by
  refine ⟨d, rfl, ?_, F.small⟩
  rw [F.face]
  rfl
/-! refusals -/
theorem no_face {x : PyData} (hx : isFace x = false ∧ smF x) : frFace C [x] (.er C) := ⟨x, rfl, by rw [hx.1]; rfl, hx.2⟩
theorem no_shown {x : PyData} (hx : isFace x = false ∧ smF x) : frShown C [x] (.er C) := ⟨x, rfl, hx.2, by rw [hx.1]; rfl⟩
theorem no_fit {x : PyData} {i j : Int} (hx : isFace x = false ∧ smF x) : frFit C [x, .int i, .int j] (.er C) := ⟨x, i, j, rfl, hx.2, by rw [hx.1]; rfl⟩
theorem no_size {i j : Int} (F : Fc h wd d rs r c) (hs : okSize (.int i) (.int j) = false) : frFit C [d, .int i, .int j] (.er C) := ⟨d, i, j, rfl, F.small, by rw [F.face, hs]; rfl⟩
theorem no_blank {i j : Int} (hs : okSize (.int i) (.int j) = false) : frBlank C [.int i, .int j] (.er C) := ⟨i, j, rfl, by rw [hs]; rfl⟩
/-! what is seen of a fitted face, cell by cell -/
theorem fit_at (F : Fc h wd d rs r c) (H W : Nat) {j : Nat} (hj : j < H) : ∃ ys, (fitRows rs H W)[j]? = some (.tuple ys) ∧ ys.length = W ∧ ∀ (n : Nat) (y : PyData), ys[n]? = some y → (j < h ∧ n < wd ∧ ∃ cs, rs[j]? = some (.tuple cs) ∧ cs[n]? = some y) ∨ (¬ (j < h ∧ n < wd) ∧ y = blankC) := by
  have hl := F.len
  unfold fitRows
  by_cases hh : j < h
  · have hx : rs[j]? = some rs[j] := List.getElem?_eq_getElem (by omega)
    obtain ⟨cs, ec, lc, a⟩ := F.row rs[j] (List.getElem_mem (by omega))
    rw [ec] at hx
    refine ⟨fitRow cs W, ?_, fitRow_len cs W, fun n y hy => ?_⟩
    · rw [List.getElem?_append_left (by rw [List.length_map, List.length_take]; omega), List.getElem?_map, List.getElem?_take_of_lt hj, hx]
      rfl
    · have hnW : n < W := by
        have := (List.getElem?_eq_some_iff.mp hy).1
        rw [fitRow_len] at this
        exact this
      unfold fitRow at hy
      by_cases hn : n < wd
      · rw [List.getElem?_append_left (by rw [List.length_take]; omega), List.getElem?_take_of_lt hnW] at hy
        exact .inl ⟨hh, hn, cs, hx, hy⟩
      · rw [List.getElem?_append_right (by rw [List.length_take]; omega), List.getElem?_replicate] at hy
        split at hy
        · cases hy
          exact .inr ⟨fun z => hn z.2, rfl⟩
        · cases hy
  · refine ⟨List.replicate W blankC, ?_, List.length_replicate, fun n y hy => ?_⟩
    · rw [List.getElem?_append_right (by rw [List.length_map, List.length_take]; omega), List.getElem?_replicate, if_pos (by rw [List.length_map, List.length_take]; omega)]
    · rw [List.getElem?_replicate] at hy
      split at hy
      · cases hy
        exact .inr ⟨fun z => hh z.1, rfl⟩
      · cases hy
theorem fit_eq (F : Fc h wd d rs r c) (H W : Nat) : fitD d H W = .tuple [.tuple (fitRows rs H W), .int (if (H : Int) - 1 < (r : Int) then (H : Int) - 1 else (r : Int)), .int (if (W : Int) - 1 < (c : Int) then (W : Int) - 1 else (c : Int))] := by
  rw [F.eq]
  rfl
theorem shown_eq (F : Fc h wd d rs r c) : shownD d = rs.map fun x => PyData.str (rowText x) := by
  rw [F.eq]
  rfl
/-! ### the defs together -/
structure Defs (P : Program) (w : World) (K : PySem.W.Frag) (mg : Str → Option Value) (base : Heap) (C CS : Addr) : Prop where
  B : Bl mg
  cell : DefOk P w K mg base 1 "_law_cell" frLCell
  drawn : DefOk P w K mg base 1 "_law_drawn" frDrawn
  size : DefOk P w K mg base 1 "_law_size" frLSize
  face : DefOk P w K mg base 2 "_law_face" frLFace
  none : DefOk P w K mg base 1 "_law_none" frNone
  need : DefOk P w K mg base 5 "need_face" (frFace C)
  fit : DefOk P w K mg base 6 "fitted" (frFit C)
  shown : DefOk P w K mg base 6 "shown" (frShown C)
  blank : DefOk P w K mg base 4 "blank" (frBlank C)
  told : Told K mg "_law_told" s__law_told
  word : WordOk P w K mg base 7 "_law_word" (fwF C)
  scr : mg "ScreenError" = some (.ref CS)
  exm : PySem.W.exmOne K (.ref C) (.ref CS) = some true
abbrev NL : List Str := ["_law_script", "_law_k", "_law_more", "_law_height", "_law_width", "_law_told_here", "_law_rows", "_law_j", "_law_row", "_law_some", "_law_face_here", "_law_high", "_law_none_here", "_law_wide", "_law_cell_here", "_law_cells", "_law_n"]
theorem sc_law : FnScope NL ["_law_script"] (defScope s_law) := ⟨rfl, rfl, rfl, by decide +kernel, rfl, by decide +kernel, by decide +kernel⟩
theorem sc_told : FnScope ["_law_deed", "_law_e"] ["_law_deed"] (defScope s__law_told) := ⟨rfl, rfl, rfl, by decide +kernel, rfl, by decide +kernel, by decide +kernel⟩
theorem told {X : Cx} {T : List (Addr × Str)} {δ : De} {ω : Om} {CS : Addr} {rr : Rs} {pos p lpos : Pos} {params : Arguments} {body : Expr} {scope : Scope} (Ds : Defs X.prog X.w X.K X.mg X.base C CS) (L : LamT X T) (hT : T ≠ []) (hps : ω.ps = []) (hr : Room 8 X.A)
    (hb : ∀ (A : Around) (outer : List Env) (s : Shared) (H : Hp) (E : XK) (f c' : Addr), Room 6 (A.deeper (LamX.lamEnv X scope s.heap.objs.size f c')) → PR (lamN X A outer s H E scope f c') (WOf E) δ ω body rr) (hd : ToldD X.K CS (fwF C) d rr)
    (hL : LamX.LamS X.env.scope scope) (hdef : defaultsOf params X.env = ([], []) := by rfl) (hbind : ∀ (q : Str) (cl : List (Str × Addr)) (pm cv ctv : Value), bindArgs (PySem.W.kla_fn "<lambda>" q params body scope cl pm cv ctv) ⟨[], []⟩ = pure [] := by intros; rfl)
    (hg : Gl X "_law_told" := by rfl) : PX X T δ ω (.Call (.Name "_law_told" p) [.Lambda params body scope lpos] [] pos) d :=
  px_told (k := 6) (Ng := ["_law_deed", "_law_e"]) (e := "ScreenError") (n := "_law_e") (wd := "_law_word") Ds.told L hT hps hr Ds.word rfl sc_told sc_told.nd rfl (Or.inl rfl) rfl rfl rfl rfl Ds.scr (fun _ _ _ _ _ _ us hl => match us, hl with | [_], _ => rfl) hb hd hL hdef hbind hg (by decide) (by decide) (by decide) (by decide) (by decide) (by decide) (by decide)
theorem shp_ref : Shp 1 refusedF := Shp.tup fun x hx => by
  simp only [List.mem_cons, List.not_mem_nil, or_false] at hx
  rcases hx with rfl | rfl
  · exact .str (by decide +kernel)
  · exact .str (by decide +kernel)
def sizes : List (List PyData) := [[.int 0, .int 1], [.int 1, .int 0], [.int 11, .int 1], [.int 1, .int 21], [.int (-1), .int 5], [.int 5, .int (-1)]]
theorem sizes_no : ∀ ds ∈ sizes, ∃ i j : Int, ds = [.int i, .int j] ∧ okSize (.int i) (.int j) = false := by
  intro ds h
  simp only [sizes, List.mem_cons, List.not_mem_nil, or_false] at h
  rcases h with rfl | rfl | rfl | rfl | rfl | rfl <;> exact ⟨_, _, rfl, by decide +kernel⟩
end
end K10

namespace K10
open PySem PySem.Spec PyProof.Rows L2 FP
section
variable {P : Program} {w : World} {K : PySem.W.Frag} {mg : Str → Option Value} {base : Heap} {f C CS : Addr} {fd : FuncData}
theorem law_body {cdv : Value} {A : Around} {outer : List Env} {s : Shared} {H : Hp} {E : XK} {T : List (Addr × Str)} {ns : List Int} (Ds : Defs P w K mg base C CS) (L : LamT (cxOf (L2N.CX P w) P w K mg base NL "law" (defScope s_law) f cdv A outer s H E) T) (hT : T ≠ [])
    (hr : Room 8 (A.deeper (envOfC "law" (defScope s_law) s.heap.objs.size f cdv))) (hn : ns.length ≤ 63) :
    SD (cxOf (L2N.CX P w) P w K mg base NL "law" (defScope s_law) f cdv A outer s H E) (WOf E) T (defBody s_law) (startD NL [.list (ns.map .int)]) ⟨[], []⟩ FinT := by
  have B := Ds.B
  have hr6 : Room 6 (A.deeper (envOfC "law" (defScope s_law) s.heap.objs.size f cdv)) := hr.mono (by decide)
  have hr2 : Room 2 (A.deeper (envOfC "law" (defScope s_law) s.heap.objs.size f cdv)) := hr.mono (by decide)
  have hr1 : Room 1 (A.deeper (envOfC "law" (defScope s_law) s.heap.objs.size f cdv)) := hr.mono (by decide)
  have hr4 : Room 4 (A.deeper (envOfC "law" (defScope s_law) s.heap.objs.size f cdv)) := hr.mono (by decide)
  refine sd_for 1 (items := rangeD 0 ((if (if ((ns.map PyData.int).length : Int) < 4 then ((ns.map PyData.int).length : Int) else 4) > 1 then (if ((ns.map PyData.int).length : Int) < 4 then ((ns.map PyData.int).length : Int) else 4) else 1) : Int).toNat)
    (fun i δ' ω' => (∃ os, ω' = ⟨[], os⟩) ∧ ∃ y1 y2 y3 y4 y5 y6 y7 y8 y9 y10 y11 y12 y13 y14 y15 y16, δ' = [some (.im (.list (ns.map .int))), y1, y2, y3, y4, y5, y6, y7, y8, y9, y10, y11, y12, y13, y14, y15, y16])
    (wk_range1 B.range (pd_max rfl B.max pd_int (pd_min rfl B.min pd_int (pd_lenL B.len (PD.pl (pd_var 0))))) ?_) ⟨⟨_, rfl⟩, _, _, _, _, _, _, _, _, _, _, _, _, _, _, _, _, rfl⟩ ?_ ?_ (pg_name sc_law.nd rfl (Or.inl rfl)) (passes_of rfl) rfl
  · split <;> (try split) <;> omega
  · rintro k d δ' ω' hd ⟨⟨os, rfl⟩, y1, y2, y3, y4, y5, y6, y7, y8, y9, y10, y11, y12, y13, y14, y15, y16, rfl⟩
    have hk4 : k < 4 ∧ d = .int (k : Int) := by
      have hlt := (List.getElem?_eq_some_iff.mp hd).1
      rw [rangeD_len] at hlt
      rw [rangeD_get hlt] at hd
      cases hd
      refine ⟨?_, by rw [Int.zero_add]⟩
      revert hlt
      split <;> (try split) <;> omega
    obtain ⟨hk4, rfl⟩ := hk4
    refine sd_set 2 (pd_call Ds.drawn hr1 (pds_cons (pd_call Ds.cell hr1 (pds_cons (pd_var 0) (pds_cons (pd_var 1) pds_nil)) ⟨ns, k, rfl, hn, by omega, rfl⟩) (pds_cons (pd_var 1) pds_nil)) ⟨_, _, rfl, rfl⟩) ?_ sc_law.nd
    generalize K10.drawn (cellAt ns k) (k : Int) = m
    refine sd_unp [3, 4] (pd_call Ds.size hr1 (pds_cons (pd_var 2) pds_nil) ⟨_, rfl, rfl⟩) (pg_tup rfl (pgs_cons (pg_name sc_law.nd rfl (Or.inr rfl)) (pgs_cons (pg_name sc_law.nd rfl (Or.inr rfl)) pgs_nil))) rfl rfl ?_
    obtain ⟨b1, b2, b3, b4⟩ := size_le m
    obtain ⟨h, eh⟩ : ∃ h : Nat, (sizeD m).1 = (h : Int) := ⟨(sizeD m).1.toNat, by omega⟩
    obtain ⟨wd, ew⟩ : ∃ h : Nat, (sizeD m).2 = (h : Int) := ⟨(sizeD m).2.toNat, by omega⟩
    rw [eh, ew]
    rw [eh] at b1 b2
    rw [ew] at b3 b4
    have h1 : 1 ≤ h := by omega
    have h2 : h ≤ 10 := by omega
    have w1 : 1 ≤ wd := by omega
    have w2 : wd ≤ 20 := by omega
    refine sd_set 10 (pd_call Ds.face hr2 (pds_cons (pd_call Ds.drawn hr1 (pds_cons (pd_var 2) (pds_cons pd_int pds_nil)) ⟨_, _, rfl, rfl⟩) (pds_cons (pd_var 3) (pds_cons (pd_var 4) pds_nil))) ⟨_, h, wd, rfl, h1, h2, w1, w2, rfl⟩) ?_ sc_law.nd
    have F := faceL_fc (h := h) (wd := wd) (K10.drawn m 1) h1 h2 w1 w2
    generalize faceL (K10.drawn m 1) h wd = fc at F
    generalize rowsL (K10.drawn m 1) h wd = rs at F
    generalize (K10.drawn m 1 / 8 % (h : Int)).toNat = r at F
    generalize (K10.drawn m 1 / 128 % (wd : Int)).toNat = c at F
    have hFr := F.hr
    have hFc := F.hc
    have hlen := F.len
    -- a face is let by
    refine sd_ifxF (xt_cmp op_notN rd_notN0 (told (d := .none) (rr := .ok .none) Ds L hT rfl hr (fun A outer s H' E f c' hr' => pr_call Ds.need (hr'.mono (by decide)) lamN_takes (pds_cons (pd_var 10) pds_nil) (face_ok F)) rfl (LamX.lamS_by (sc := defScope s_law) (by decide +kernel))) (PD.px pd_non) (nomark _)) ?_
    -- its signs
    have shs : Shp 1 (.list (shownD fc)) := by
      rw [F.shown]
      refine .lst fun x hx => ?_
      obtain ⟨y, hy, rfl⟩ := List.mem_map.mp hx
      refine .str ?_
      show ((rowCodes y).toArray.all (· < 0x110000)) = true
      rw [List.all_toArray, List.all_eq_true]
      intro z hz
      have := rowCodes_small (F.row y hy) z hz
      exact decide_eq_true (by omega)
    have hblk : BlkOk NL (defScope s_law) { kind := .function, names := [(".0", .local), ("_law_cells", .local)], isGenerator := false, isCoroutine := false, more := [] } [("_law_cells", 15)] := blkOk_by (by decide +kernel)
    have hblk2 : BlkOk NL { kind := .function, names := [(".0", .local), ("_law_cells", .local)], isGenerator := false, isCoroutine := false, more := [] } { kind := .function, names := [(".0", .local), ("_law_cell_here", .local)], isGenerator := false, isCoroutine := false, more := [] } [("_law_cell_here", 14)] := blkOk_by (by decide +kernel)
    refine sd_ifF (pt_cmpd (op_neD hr.units) (rd_neS shs ?eqs) (pd_call Ds.shown hr6 (pds_cons (pd_var 10) pds_nil) (shown_ok F))
      (PN.pd (pn_lc (y := "_law_cells") (j := 15) (items := rs) (ys := rs.map fun x => .str (rowText x)) rfl sc_law.nd (PWk.ws (wk_tup (pd_ixT (PD.eq (pd_var 10) F.eq) pd_int atI0))) (by rw [List.length_map]) hblk (fun _ _ _ _ _ => pg_name sc_law.nd rfl (Or.inl rfl)) ?el (by omega))) (nomark _)) ?_
    case eqs => rw [shown_eq F]
    case el =>
      intro i d y hd hy D o s H' C' cl fp
      rw [List.getElem?_map, hd] at hy
      cases hy
      obtain ⟨cs, rfl, lc, hc⟩ := F.row d (List.mem_of_getElem? hd)
      refine pd_join (ys := cs.map signOf) pd_str (PN.pl (pn_lc (y := "_law_cell_here") (j := 14) (items := cs) rfl sc_law.nd (PWk.ws (wk_tup (pd_var 15))) (by rw [List.length_map, List.length_map]) hblk2 (fun _ _ _ _ _ => pg_name sc_law.nd rfl (Or.inl rfl)) ?_ (by omega))) ?_
      · intro i d y hd hy D o s H C cl fp
        rw [List.getElem?_map, List.getElem?_map, hd] at hy
        cases hy
        obtain ⟨k, i, rfl, _⟩ := cell_of (hc d (List.mem_of_getElem? hd))
        exact pd_ixT (pd_var 14) pd_int rfl
      · have hb := signs_sum cs (List.all_eq_true.mpr hc)
        have e0 : (Str.ofString "").length = 0 := by decide +kernel
        rw [e0]
        omega
    -- high, wide
    refine sd_unp [11, 13] (pd_call Ds.size hr1 (pds_cons (pd_fdiv (wide_div (b := 30) (by decide) (by decide) (by decide) (by decide)) (pd_var 2) (pd_pow ⟨by decide, by decide, by decide⟩ pd_int pd_int)) pds_nil) ⟨_, rfl, rfl⟩) (pg_tup rfl (pgs_cons (pg_name sc_law.nd rfl (Or.inr rfl)) (pgs_cons (pg_name sc_law.nd rfl (Or.inr rfl)) pgs_nil))) rfl rfl ?_
    generalize m / (2 : Int) ^ (20 : Int).toNat = m2
    obtain ⟨b1, b2, b3, b4⟩ := size_le m2
    obtain ⟨H, eH⟩ : ∃ h : Nat, (sizeD m2).1 = (h : Int) := ⟨(sizeD m2).1.toNat, by omega⟩
    obtain ⟨W, eW⟩ : ∃ h : Nat, (sizeD m2).2 = (h : Int) := ⟨(sizeD m2).2.toNat, by omega⟩
    rw [eH, eW]
    rw [eH] at b1 b2
    rw [eW] at b3 b4
    have H1 : 1 ≤ H := by omega
    have H2 : H ≤ 10 := by omega
    have W1 : 1 ≤ W := by omega
    have W2 : W ≤ 20 := by omega
    refine sd_setx 5 (told (d := fitD fc H W) (rr := .ok (fitD fc H W)) Ds L hT rfl hr (fun A outer s H' E f c' hr' => pr_call Ds.fit hr' lamN_takes (pds_cons (pd_var 10) (pds_cons (pd_var 11) (pds_cons (pd_var 13) pds_nil))) (fit_ok F H1 H2 W1 W2)) rfl (LamX.lamS_by (sc := defScope s_law) (by decide +kernel))) ?_ sc_law.nd
    have Gf := F.fit H1 H2 W1 W2
    have lfr : (fitRows rs H W).length = H := fitRows_len rs H W
    refine sd_own 6 (pn_lst pds_nil) (fun D => ?_) sc_law.nd
    refine sd_for 7 (items := rangeD 0 ((H : Nat) : Int).toNat)
      (fun i δ' ω' => ω' = omD ⟨[], os⟩ D (.lst (((fitRows rs H W).take i).map .im)) ∧ ∃ y7 y8 y9 y12 y14 y15 y16, δ' = [some (.im (.list (ns.map .int))), some (.im (.int (k : Int))), some (.im (.int m)), some (.im (.int (h : Int))), some (.im (.int (wd : Int))), some (.im (fitD fc H W)), some (.ad D), y7, y8, y9, some (.im fc), some (.im (.int (H : Int))), y12, some (.im (.int (W : Int))), y14, y15, y16])
      (wk_range1 B.range (pd_var 11) (by omega)) ⟨rfl, _, _, _, _, _, _, _, rfl⟩ ?_ ?_ (pg_name sc_law.nd rfl (Or.inr rfl)) (passes_of rfl) rfl
    · rintro j d δ' ω' hd ⟨rfl, y7, y8, y9, y12, y14, y15, y16, rfl⟩
      obtain ⟨hj, rfl⟩ := rangeD_at hd
      obtain ⟨ys, eys, lys, look⟩ := fit_at F H W hj
      refine sd_setLc 8 (y := "_law_n") (j := 16) (items := rangeD 0 ((W : Nat) : Int).toNat) (ys := ys) rfl sc_law.nd (PWk.ws (wk_range1 B.range (pd_var 13) (by omega))) (by rw [lys, rangeD_nat])
        (blkOk_by (N := NL) (sc := defScope s_law) (by decide +kernel)) (fun _ _ _ _ _ => pg_name sc_law.nd rfl (Or.inl rfl)) ?_ (by rw [rangeD_nat]; omega) (sw_true rfl rfl rfl (by decide +kernel)) ?_
      · intro n d y hd hy D o s H' C' cl fp
        obtain ⟨hnW, rfl⟩ := rangeD_at hd
        refine pd_if (PWd.pt (pw_andd (x := decide ((j : Int) < (h : Int))) (y := decide ((n : Int) < (wd : Int))) (pt_cmpd op_lt rd_B0 (pd_var 7) (pd_var 3) (nomark _)) (fun _ => pw_and1d (pt_cmpd op_lt rd_B0 (pd_var 16) (pd_var 4) (nomark _))))) (fun hk => ?_) (fun hk => ?_)
        · rw [Bool.and_eq_true, decide_eq_true_eq, decide_eq_true_eq] at hk
          rcases look n y hy with ⟨_, _, cs, ec, ey⟩ | ⟨hno, _⟩
          · exact pd_ixT (pd_ixT (pd_ixT (PD.eq (pd_var 10) F.eq) pd_int atI0) (pd_var 7) (atI_nat ec)) (pd_var 16) (atI_nat ey)
          · exact absurd ⟨by omega, by omega⟩ hno
        · rcases look n y hy with ⟨q1, q2, _⟩ | ⟨_, e⟩
          · exfalso
            rw [decide_eq_true (show (j : Int) < (h : Int) by omega), decide_eq_true (show (n : Int) < (wd : Int) by omega)] at hk
            cases hk
          · subst e
            exact pd_tup (pds_cons pd_str (pds_cons pd_int pds_nil))
      · refine sd_app 6 (pd_tupleL B.tuple (PD.pl (pd_var 8))) (sd_nil ⟨?_, _, _, _, _, _, _, _, rfl⟩) (by rw [List.length_take, lfr]; omega)
        rw [List.take_add_one, eys]
        rfl
    · rintro δ' ω' ⟨rfl, y7, y8, y9, y12, y14, y15, y16, rfl⟩
      have e : (fitRows rs H W).take (rangeD 0 ((H : Nat) : Int).toNat).length = fitRows rs H W := List.take_of_length_le (by rw [rangeD_nat, lfr]; exact Nat.le_refl _)
      rw [e]
      refine sd_ifF (pt_cmpd (op_neD hr.units) (rd_neS Gf.shp (fit_eq F H W)) (pd_var 5) (pd_tup (pds_cons (pd_tupleL B.tuple (pl_var 6 List.mem_cons_self)) (pds_cons (pd_min rfl B.min (pd_ixT (PD.eq (pd_var 10) F.eq) pd_int atI1) (pd_sub (pd_var 11) pd_int)) (pds_cons (pd_min rfl B.min (pd_ixT (PD.eq (pd_var 10) F.eq) pd_int (atI_nat (j := 2) rfl)) (pd_sub (pd_var 13) pd_int)) pds_nil)))) (nomark _)) ?_
      -- a blank one
      refine sd_ifF (pt_cmpd (op_neD hr.units) (rd_neS (blankF_fc H1 H2 W1 W2).shp ?eqb) (pd_call Ds.blank hr4 (pds_cons (pd_var 11) (pds_cons (pd_var 13) pds_nil)) (blank_ok H1 H2 W1 W2))
        (pd_tup (pds_cons (pd_rep1 (d := .tuple (List.replicate W blankC)) (k := (H : Int)) (pd_tup (pds_cons (PD.eq (pd_rep1 (d := blankC) (k := (W : Int)) (pd_tup (pds_cons (pd_tup (pds_cons pd_str (pds_cons pd_int pds_nil))) pds_nil)) (pd_var 13) (by omega) (by omega)) (by rw [show ((W : Nat) : Int).toNat = W by omega])) pds_nil)) (pd_var 11) (by omega) (by omega)) (pds_cons pd_int (pds_cons pd_int pds_nil)))) (nomark _)) ?_
      case eqb =>
        rw [show ((H : Nat) : Int).toNat = H by omega]
        rfl
      -- what is none
      obtain ⟨yc, cs, rest, ers⟩ : ∃ yc cs rest, rs = .tuple (yc :: cs) :: rest := by
        match rs, hlen, F.row with
        | [], hl, _ => simp at hl; omega
        | x0 :: rest, _, row =>
          obtain ⟨c0, rfl, l0, _⟩ := row x0 List.mem_cons_self
          match c0, l0 with
          | [], l0 => simp at l0; omega
          | yc :: cs, _ => exact ⟨yc, cs, rest, rfl⟩
      have F2 := F
      rw [ers] at F2
      refine sd_for 7 (items := rangeD 0 (4 : Int).toNat)
        (fun i δ' ω' => (∃ os, ω' = ⟨[], os⟩) ∧ ∃ y5 y6 y7 y8 y9 y12 y14 y15 y16, δ' = [some (.im (.list (ns.map .int))), some (.im (.int (k : Int))), some (.im (.int m)), some (.im (.int (h : Int))), some (.im (.int (wd : Int))), y5, y6, y7, y8, y9, some (.im fc), some (.im (.int (H : Int))), y12, some (.im (.int (W : Int))), y14, y15, y16])
        (wk_range1 B.range pd_int (by decide)) ⟨⟨_, rfl⟩, _, _, _, _, _, _, _, _, _, rfl⟩ ?_ ?_ (pg_name sc_law.nd rfl (Or.inr rfl)) (passes_of rfl) rfl
      · rintro j d δ' ω' hd ⟨⟨os2, rfl⟩, y5, y6, y7, y8, y9, y12, y14, y15, y16, rfl⟩
        obtain ⟨hj, rfl⟩ := rangeD_at (n := 4) hd
        refine sd_set 12 (pd_call Ds.none hr1 (pds_cons (pd_var 10) (pds_cons (pd_call Ds.drawn hr1 (pds_cons (pd_var 2) (pds_cons (pd_add pd_int (pd_var 7)) pds_nil)) ⟨_, _, rfl, rfl⟩) pds_nil)) ⟨h, wd, fc, yc, cs, rest, r, c, _, rfl, F2, rfl⟩) ?_ sc_law.nd
        have NO := no_at F2 (K10.drawn m (10 + (j : Int)))
        generalize (noL yc cs rest r c).getD (K10.drawn m (10 + (j : Int)) % 25).toNat .none = x at NO
        have er : ToldD K CS (fwF C) refusedF (.er C) := ⟨⟨rfl, rfl⟩, Ds.exm⟩
        refine sd_ownx 9 (pxs_cons (told (d := refusedF) (rr := .er C) Ds L hT rfl hr (fun A outer s H' E f c' hr' => pr_call Ds.need (hr'.mono (by decide)) lamN_takes (pds_cons (pd_var 12) pds_nil) (no_face NO)) er (LamX.lamS_by (sc := defScope s_law) (by decide +kernel))) pxs_nil) (fun D2 => ?_) (by simp) sc_law.nd
        refine sd_appx 9 (told (d := refusedF) (rr := .er C) Ds L hT rfl hr (fun A outer s H' E f c' hr' => pr_call Ds.shown hr' lamN_takes (pds_cons (pd_var 12) pds_nil) (no_shown NO)) er (LamX.lamS_by (sc := defScope s_law) (by decide +kernel))) ?_ (by simp)
        refine sd_appx 9 (told (d := refusedF) (rr := .er C) Ds L hT rfl hr (fun A outer s H' E f c' hr' => pr_call Ds.fit hr' lamN_takes (pds_cons (pd_var 12) (pds_cons pd_int (pds_cons pd_int pds_nil))) (no_fit NO)) er (LamX.lamS_by (sc := defScope s_law) (by decide +kernel))) ?_ (by simp)
        have shl : Shp 2 (.list [refusedF, refusedF, refusedF]) := Shp.lst fun x hx => by
          simp only [List.mem_cons, List.not_mem_nil, or_false] at hx
          rcases hx with rfl | rfl | rfl <;> exact shp_ref
        refine sd_if (pt_neL (ds := [refusedF, refusedF, refusedF]) (db := .list [refusedF, refusedF, refusedF]) hr.units shl.ok shl.ok (pl_var 9 List.mem_cons_self) (PN.pd (pn_rep1 (d := refusedF) (k := 3) (PN.plt (pn_lst (pds_cons (pd_tup (pds_cons pd_str (pds_cons pd_str pds_nil))) pds_nil))) pd_int (by decide) (by decide)))) (fun hk => ?_) (fun _ => sd_nil (sd_nil ⟨⟨_, rfl⟩, _, _, _, _, _, _, _, _, _, rfl⟩))
        rw [shl.refl] at hk
        cases hk
      · rintro δ' ω' ⟨⟨os2, rfl⟩, y5, y6, y7, y8, y9, y12, y14, y15, y16, rfl⟩
        -- sizes that can't be
        refine sd_forU [11, 13] (n := 2) (items := sizes)
          (fun i δ' ω' => (∃ os, ω' = ⟨[], os⟩) ∧ ∃ y1 y2 y3 y4 y5 y6 y7 y8 y9 y11 y12 y13 y14 y15 y16, δ' = [some (.im (.list (ns.map .int))), y1, y2, y3, y4, y5, y6, y7, y8, y9, some (.im fc), y11, y12, y13, y14, y15, y16])
          (wk_lst (PN.pd (pn_lst (pds_cons (pd_tup (pds_cons pd_int (pds_cons pd_int pds_nil))) (pds_cons (pd_tup (pds_cons pd_int (pds_cons pd_int pds_nil))) (pds_cons (pd_tup (pds_cons pd_int (pds_cons pd_int pds_nil))) (pds_cons (pd_tup (pds_cons pd_int (pds_cons pd_int pds_nil))) (pds_cons (pd_tup (pds_cons (pd_neg pd_int) (pds_cons pd_int pds_nil))) (pds_cons (pd_tup (pds_cons pd_int (pds_cons (pd_neg pd_int) pds_nil))) pds_nil)))))))))
          ⟨⟨_, rfl⟩, _, _, _, _, _, _, _, _, _, _, _, _, _, _, _, rfl⟩ ?_ ?_ (by decide) rfl (pg_tup rfl (pgs_cons (pg_name sc_law.nd rfl (Or.inr rfl)) (pgs_cons (pg_name sc_law.nd rfl (Or.inr rfl)) pgs_nil))) (passes_of rfl) rfl
        · rintro i ds δ' ω' hd ⟨⟨os3, rfl⟩, y1, y2, y3, y4, y5, y6, y7, y8, y9, y11, y12, y13, y14, y15, y16, rfl⟩
          obtain ⟨a, b, rfl, hs⟩ := sizes_no ds (List.mem_of_getElem? hd)
          have er : ToldD K CS (fwF C) refusedF (.er C) := ⟨⟨rfl, rfl⟩, Ds.exm⟩
          refine sd_ifxF (xt_cmp (op_neD hr.units) (rd_neS shp_ref rfl) (told (d := refusedF) (rr := .er C) Ds L hT rfl hr (fun A outer s H' E f c' hr' => pr_call Ds.blank (hr'.mono (by decide)) lamN_takes (pds_cons (pd_var 11) (pds_cons (pd_var 13) pds_nil)) (no_blank hs)) er (LamX.lamS_by (sc := defScope s_law) (by decide +kernel))) (PD.px (pd_tup (pds_cons pd_str (pds_cons pd_str pds_nil)))) (nomark _)) ?_
          refine sd_ifxF (xt_cmp (op_neD hr.units) (rd_neS shp_ref rfl) (told (d := refusedF) (rr := .er C) Ds L hT rfl hr (fun A outer s H' E f c' hr' => pr_call Ds.fit hr' lamN_takes (pds_cons (pd_var 10) (pds_cons (pd_var 11) (pds_cons (pd_var 13) pds_nil))) (no_size F hs)) er (LamX.lamS_by (sc := defScope s_law) (by decide +kernel))) (PD.px (pd_tup (pds_cons pd_str (pds_cons pd_str pds_nil)))) (nomark _)) (sd_nil ⟨⟨_, rfl⟩, _, _, _, _, _, _, _, _, _, _, _, _, _, _, _, rfl⟩)
        · rintro δ' ω' ⟨⟨os3, rfl⟩, y1, y2, y3, y4, y5, y6, y7, y8, y9, y11, y12, y13, y14, y15, y16, rfl⟩
          exact sd_nil ⟨⟨_, rfl⟩, _, _, _, _, _, _, _, _, _, _, _, _, _, _, _, _, rfl⟩
  · rintro δ' ω' ⟨⟨os, rfl⟩, y1, y2, y3, y4, y5, y6, y7, y8, y9, y10, y11, y12, y13, y14, y15, y16, rfl⟩
    exact sd_ret pd_bl rfl
end
end K10

namespace K10
open PySem PySem.Spec PyProof.Rows L2 FP
theorem facts {l : PySem.W.OpenLaw} {w : World} {K : PySem.W.Frag} {h : Heap} {mg : Str → Option Value} {f : Addr} (KX : K.In h) (G : h.Ns mainGlobals mg) (hfa : mg ("law" : Str) = some (.ref f)) (c : He.SaysX fa fn [] tf ex w h K) :
    LamX.LawAtS l w K (L2N.CX l.prog w) 9 63 "_law_script" mg f h := by
  have cd := c.t.d
  have gl : ∀ x, He.Fa.glo x ∈ fa → mg x = some (.ref (He.ga K x)) := fun x hx => He.glo_ok KX G (cd.facts hx)
  have fr : ∀ x, He.Fa.free x ∈ fa → mg x = none := fun x hx => He.free_ok KX G (cd.facts hx)
  have df : ∀ (x : Str) (st : Stmt), dOf x st ∈ fn → ∃ fd, Df K x st (He.ga K x) fd := fun x st hx => cd.defs hx
  have B : Bl mg := ⟨fr _ (by simp [fa]), fr _ (by simp [fa]), fr _ (by simp [fa]), fr _ (by simp [fa]), fr _ (by simp [fa]), fr _ (by simp [fa]), fr _ (by simp [fa]), fr _ (by simp [fa]), fr _ (by simp [fa]), fr _ (by simp [fa]), fr _ (by simp [fa])⟩
  have X1 : ExcF K mg "BadFace" (He.ga K "BadFace") := exc_of KX G (cd.facts (by simp [fa])) (cd.facts (by simp [fa]))
  have i1 : GlD K mg "PERCENT" (.int 37) := gld_int KX G (cd.facts (by simp [fa]))
  have i2 : GlD K mg "MOST_ROWS" (.int 10) := gld_int KX G (cd.facts (by simp [fa]))
  have i3 : GlD K mg "MOST_COLUMNS" (.int 20) := gld_int KX G (cd.facts (by simp [fa]))
  have i4 : GlD K mg "MOST_INK" (.int 7) := gld_int KX G (cd.facts (by simp [fa]))
  have i5 : GlD K mg "BLANK" blankC := ⟨.ref (He.ga K "BLANK"), _, gl "BLANK" (by simp [fa]), rfl, fun H => .tup (He.tupB_ok (He.ba c.more).1 H) (.cons (.str _) (.cons (.int 0) .nil))⟩
  refine law_at KX G hfa c (params := defArgs s_law) (body := defBody s_law) (scope := defScope s_law) (by simp [fn]) (by simp [fa]) sc_law (fun _ _ _ _ _ _ us hl => match us, hl with | [_], _ => rfl) (fun base hB hN T cdv A outer s H E ns hT L hr h1 h2 => ?_)
  obtain ⟨_, F1⟩ := df "is_whole" s_is_whole (by simp [fn])
  obtain ⟨_, F2⟩ := df "is_within" s_is_within (by simp [fn])
  obtain ⟨_, F3⟩ := df "is_tuple_of" s_is_tuple_of (by simp [fn])
  obtain ⟨_, F4⟩ := df "are_signs" s_are_signs (by simp [fn])
  obtain ⟨_, F5⟩ := df "is_sign" s_is_sign (by simp [fn])
  obtain ⟨_, F6⟩ := df "is_cell" s_is_cell (by simp [fn])
  obtain ⟨_, F7⟩ := df "need_size" s_need_size (by simp [fn])
  obtain ⟨_, F8⟩ := df "need_rows" s_need_rows (by simp [fn])
  obtain ⟨_, F9⟩ := df "need_face" s_need_face (by simp [fn])
  obtain ⟨_, F10⟩ := df "blank_cells" s_blank_cells (by simp [fn])
  obtain ⟨_, F11⟩ := df "blank" s_blank (by simp [fn])
  obtain ⟨_, F12⟩ := df "fitted_cells" s_fitted_cells (by simp [fn])
  obtain ⟨_, F13⟩ := df "fitted" s_fitted (by simp [fn])
  obtain ⟨_, F14⟩ := df "shown" s_shown (by simp [fn])
  obtain ⟨_, F15⟩ := df "_law_cell" s__law_cell (by simp [fn])
  obtain ⟨_, F16⟩ := df "_law_drawn" s__law_drawn (by simp [fn])
  obtain ⟨_, F17⟩ := df "_law_cell_of" s__law_cell_of (by simp [fn])
  obtain ⟨_, F18⟩ := df "_law_face" s__law_face (by simp [fn])
  obtain ⟨_, F19⟩ := df "_law_size" s__law_size (by simp [fn])
  obtain ⟨_, F20⟩ := df "_law_told" s__law_told (by simp [fn])
  obtain ⟨_, F21⟩ := df "_law_none" s__law_none (by simp [fn])
  obtain ⟨_, F22⟩ := df "_law_word" s__law_word (by simp [fn])
  have G1 := ok_whole (P := l.prog) (w := w) (base := base) F1 (gl _ (by simp [fa])) B
  have G2 := ok_within F2 (gl _ (by simp [fa])) G1
  have G3 := ok_tupleof (P := l.prog) (w := w) (base := base) F3 (gl _ (by simp [fa])) B
  have G4 := ok_signs (P := l.prog) (w := w) (base := base) F4 (gl _ (by simp [fa])) B i1
  have G5 := ok_sign F5 (gl _ (by simp [fa])) B G4
  have G6 := ok_cell F6 (gl _ (by simp [fa])) G3 G5 G2 i4
  have G7 := ok_size F7 (gl _ (by simp [fa])) X1 G2 i2 i3
  have G8 := ok_rows F8 (gl _ (by simp [fa])) B X1 G7 G6
  have G9 := ok_face F9 (gl _ (by simp [fa])) B X1 G3 G8 G2
  have G10 := ok_bcells (P := l.prog) (w := w) (base := base) F10 (gl _ (by simp [fa])) i5
  have G11 := ok_blank F11 (gl _ (by simp [fa])) G7 G10
  have G12 := ok_fcells F12 (gl _ (by simp [fa])) B G10
  have G13 := ok_fit F13 (gl _ (by simp [fa])) B G9 G7 G12 G10
  have G14 := ok_shown F14 (gl _ (by simp [fa])) G9
  have G15 := ok_lcell (P := l.prog) (w := w) (base := base) F15 (gl _ (by simp [fa])) B
  have G16 := ok_drawn (P := l.prog) (w := w) (base := base) F16 (gl _ (by simp [fa]))
  have G17 := ok_cellof (P := l.prog) (w := w) (base := base) F17 (gl _ (by simp [fa]))
  have G18 := ok_lface F18 (gl _ (by simp [fa])) B G16 G17
  have G19 := ok_lsize (P := l.prog) (w := w) (base := base) F19 (gl _ (by simp [fa]))
  obtain ⟨EC, ka, kv⟩ := wordB_ok (He.ba c.more).2
  have G21 := ok_none (P := l.prog) (w := w) (base := base) F21 (gl _ (by simp [fa])) B (fr _ (by simp [fa]))
  have G22 := ok_word (P := l.prog) (w := w) (base := base) F22 (gl _ (by simp [fa])) (fr _ (by simp [fa])) (fr _ (by simp [fa])) (fr _ (by simp [fa])) (fr _ (by simp [fa])) (fun x hx => ?_) EC ka kv
  · exact law_body ⟨B, G15, G16, G19, G18, G21, G9, G13, G14, G11, ⟨_, _, F20, gl _ (by simp [fa])⟩, word_mono G22 (by decide), gl _ (by simp [fa]), He.exm_ok (cd.facts (by simp [fa]))⟩ L hT hr h1
  · simp only [asked, List.mem_cons, List.not_mem_nil, or_false] at hx
    rcases hx with rfl | rfl | rfl | rfl | rfl
    all_goals exact gl _ (by simp [fa])
end K10
open PySem PySem.W PySem.Calls PyProof.Rows
set_option maxRecDepth 100000 in
set_option maxHeartbeats 0 in
theorem PySem.Challenge.cw_farpanes_k10_faces_holds : PySem.Challenge.rw_farpanes_k10_faces.Holds := by
  w_on; o_law
  refine HandSHeadRun.head_any (r := OpenLaw.row PySem.Challenge.rw_farpanes_k10_faces) (q := view (OpenLaw.row PySem.Challenge.rw_farpanes_k10_faces).prog [37]) (H := K10.hk) (ob := K10.ob) (M := 8000) (loose := K10.loose) (d := HandSHeadRun.topDef (OpenLaw.row PySem.Challenge.rw_farpanes_k10_faces).prog 37) (kwd := []) K10.ob_eq
    (by kernel_rfl) (fun s => by kernel_rfl) K10.run (by kernel_rfl) (by kernel_rfl) (by kernel_rfl) (by rfl) (by first | assumption | decide +kernel) (by decide +kernel) ⟨rfl, rfl, rfl, rfl, rfl, by decide +kernel⟩ ?hw ?hc
  case hw => w_witness2
  case hc =>
    refine LamX.walk_ofTsE (l := PySem.Challenge.rw_farpanes_k10_faces) (n := 63) (k := 9) (x := "_law_script") (CX := fun w => L2N.CX (PySem.Challenge.rw_farpanes_k10_faces).prog w) rfl (by decide) (by kernel_rfl) ⟨rfl, by decide, by decide⟩ ?F (fun w H s e s' z => FP.cx_none z)
    intro w mg fa h Y G hmg0
    obtain ⟨K, KX, c⟩ := Y
    have hmg : mg ("law" : PySem.Str) = some (.ref fa) := by
      have e : (HandSHeadRun.topDef (OpenLaw.row PySem.Challenge.rw_farpanes_k10_faces).prog 37).name = ("law" : PySem.Str) := by kernel_rfl
      rw [← e]
      exact hmg0
    exact ⟨K, KX, K10.facts KX G hmg c⟩
