import PyProof.Rows.All
import Wide.All
import OpenK.AllK
import Wide.FinOn
import HandS.ForMost
import HandS.ForExc
import HandS.Lambda
import HandS.EndTab
import HandS.HeadWalk
import HandS.HeadHook4
import HandS.Head2
import HandS.IsInst
import HandS.TupMul
import HandS.TupAny
import HandS.Wide
import HandS.ExcCtx
import HandS.HotCalls
import HandS.ExcIs
import PyProof.SumAny
import PyProof.RulesMatchSeq
import PyProof.Rows.MatchSeqLen
import HandS.More
import HandS.Zip
import PyProof.Rows.SeqMore
import HandS.Flow
import HandS.StrMore
import HandS.Text
import HandS.Iter
import PyProof.Rows.ChunkEnd
import HandS.Dict
import HandS.Style
import PySem.Challenge.RW_farpanes_k21_whole_deeds_in_parts
set_option Elab.async false
set_option linter.all false
set_option maxRecDepth 100000
set_option maxHeartbeats 4000000
set_option autoImplicit false
namespace FP
open PySem PySem.Spec PyProof.Rows L2

/-! ### heaps, data -/
def hid (ps : List Addr) (H : Hp) : Hp := fun b => if b ∈ ps then none else H b
theorem hid_of {ps : List Addr} {H : Hp} {b : Addr} {o : HO} (n : b ∉ ps) (h : H b = some o) : hid ps H b = some o := by
  unfold hid
  rw [if_neg n]
  exact h
theorem hid_out {ps : List Addr} {H : Hp} {b : Addr} {o : HO} (h : hid ps H b = some o) : b ∉ ps ∧ H b = some o := by
  unfold hid at h
  by_cases c : b ∈ ps
  · rw [if_pos c] at h
    cases h
  · rw [if_neg c] at h
    exact ⟨c, h⟩
theorem hid_sub {ps : List Addr} {H : Hp} : Same (hid ps H) H := fun _ _ h => (hid_out h).2
theorem hid_same {ps : List Addr} {H H' : Hp} (e : Same H H') : Same (hid ps H) (hid ps H') := fun _ _ h => hid_of (hid_out h).1 (e _ _ (hid_out h).2)
theorem hid_nil {H : Hp} : hid [] H = H := by
  funext b
  unfold hid
  rw [if_neg (by simp)]
theorem same_new {H : Hp} {p : Addr} {o : HO} (h : H p = none) : Same H (upd H p o) := fun b x e => by
  rw [upd_ne (ne_of_none e h)]
  exact e
theorem same_sqt {K : PySem.W.Frag} {H H' : Hp} {a : Addr} {xs : List V} (e : Same H H') (h : SqT K H a xs) : SqT K H' a xs := by
  rcases h with (h | ⟨o, h⟩) | h
  · exact .inl (.inl (e _ _ h))
  · exact .inl (.inr ⟨o, e _ _ h⟩)
  · exact .inr h
mutual
theorem dp_mono {K : PySem.W.Frag} {H H' : Hp} (e : Same H H') : ∀ (d : PyData) (v : V), Dp K H v d → Dp K H' v d
  | .none, _, h => by
    cases h
    exact .non
  | .bool b, _, h => by
    cases h
    exact .bl b
  | .int i, _, h => by
    cases h
    exact .int i
  | .str x, _, h => by
    cases h
    exact .str x
  | .list ds, _, h => by
    cases h with
    | lst hs ha => exact .lst (e.seq hs) (dpa_mono e ds _ ha)
  | .tuple ds, _, h => by
    cases h with
    | tup hs ha => exact .tup (same_sqt e hs) (dpa_mono e ds _ ha)
  | .dict kvs, _, h => by cases h
theorem dpa_mono {K : PySem.W.Frag} {H H' : Hp} (e : Same H H') : ∀ (ds : List PyData) (vs : List V), DpAll K H vs ds → DpAll K H' vs ds
  | [], _, h => by
    cases h
    exact .nil
  | d :: ds, _, h => by
    cases h with
    | cons a b => exact .cons (dp_mono e d _ a) (dpa_mono e ds _ b)
end
theorem dpm {K : PySem.W.Frag} {H H' : Hp} (e : Same H H') {d : PyData} {v : V} (h : Dp K H v d) : Dp K H' v d := dp_mono e d v h
theorem dpam {K : PySem.W.Frag} {H H' : Hp} (e : Same H H') {ds : List PyData} {vs : List V} (h : DpAll K H vs ds) : DpAll K H' vs ds := dpa_mono e ds vs h
theorem dpa_len {K : PySem.W.Frag} {H : Hp} : ∀ {ds : List PyData} {vs : List V}, DpAll K H vs ds → vs.length = ds.length
  | [], _, .nil => rfl
  | _ :: _, _, .cons _ t => by rw [List.length_cons, List.length_cons, dpa_len t]
theorem dpa_get {K : PySem.W.Frag} {H : Hp} : ∀ {ds : List PyData} {vs : List V} {i : Nat} {d : PyData}, DpAll K H vs ds → ds[i]? = some d → ∃ v, vs[i]? = some v ∧ Dp K H v d
  | [], _, _, _, .nil, h => by simp at h
  | _ :: _, _ :: _, 0, _, .cons a _, h => by
    simp at h
    subst h
    exact ⟨_, rfl, a⟩
  | _ :: ds, _ :: vs, i + 1, d, .cons _ t, h => by
    obtain ⟨v, h1, h2⟩ := dpa_get (i := i) (d := d) t (by simpa using h)
    exact ⟨v, by simpa using h1, h2⟩
theorem dpa_get' {K : PySem.W.Frag} {H : Hp} : ∀ {ds : List PyData} {vs : List V} {i : Nat} {v : V}, DpAll K H vs ds → vs[i]? = some v → ∃ d, ds[i]? = some d ∧ Dp K H v d
  | [], _, _, _, .nil, h => by simp at h
  | _ :: _, _ :: _, 0, _, .cons a _, h => by
    simp at h
    subst h
    exact ⟨_, rfl, a⟩
  | _ :: ds, _ :: vs, i + 1, v, .cons _ t, h => by
    obtain ⟨d, h1, h2⟩ := dpa_get' (i := i) (v := v) t (by simpa using h)
    exact ⟨d, by simpa using h1, h2⟩
theorem dpa_app {K : PySem.W.Frag} {H : Hp} : ∀ {ds es : List PyData} {vs us : List V}, DpAll K H vs ds → DpAll K H us es → DpAll K H (vs ++ us) (ds ++ es)
  | _, _, _, _, .nil, h => h
  | _, _, _, _, .cons a t, h => .cons a (dpa_app t h)
theorem dpa_take {K : PySem.W.Frag} {H : Hp} : ∀ (n : Nat) {ds : List PyData} {vs : List V}, DpAll K H vs ds → DpAll K H (vs.take n) (ds.take n)
  | 0, _, _, _ => .nil
  | _ + 1, _, _, .nil => .nil
  | n + 1, _, _, .cons a t => .cons a (dpa_take n t)
theorem dpa_drop {K : PySem.W.Frag} {H : Hp} : ∀ (n : Nat) {ds : List PyData} {vs : List V}, DpAll K H vs ds → DpAll K H (vs.drop n) (ds.drop n)
  | 0, _, _, h => h
  | _ + 1, _, _, .nil => .nil
  | n + 1, _, _, .cons _ t => dpa_drop n t
theorem dpa_rep {K : PySem.W.Frag} {H : Hp} {ds : List PyData} {vs : List V} (h : DpAll K H vs ds) : ∀ n : Nat, DpAll K H (List.replicate n vs).flatten (List.replicate n ds).flatten
  | 0 => .nil
  | n + 1 => by
    rw [List.replicate_succ, List.replicate_succ, List.flatten_cons, List.flatten_cons]
    exact dpa_app h (dpa_rep h n)

theorem hid_more {ps qs : List Addr} {H : Hp} (h : ∀ b, b ∈ ps → b ∈ qs) : Same (hid qs H) (hid ps H) := fun b o e => by
  obtain ⟨n, e2⟩ := hid_out e
  exact hid_of (fun z => n (h b z)) e2
theorem hid_cons {p : Addr} {ps : List Addr} {H : Hp} : Same (hid (p :: ps) H) (hid ps H) := hid_more fun _ h => List.mem_cons_of_mem _ h
theorem hid_new {p : Addr} {ps : List Addr} {G H : Hp} (hp : G p = none) (e : Same G H) : Same (hid ps G) (hid (p :: ps) H) := fun b o h => by
  obtain ⟨n, e2⟩ := hid_out h
  refine hid_of (fun z => ?_) (e b o e2)
  rcases List.mem_cons.mp z with q | q
  · rw [q, hp] at e2
    cases e2
  · exact n q
/-! ### slots and objects of one's own -/
inductive Sd where
  | im (d : PyData)
  | ad (a : Addr)
inductive Od where
  | lst (xs : List Sd)
  | ins (C : Addr) (fs : List (Str × Sd))
  | dct (kvs : List (Key × Sd))
  | tup (xs : List Sd)
abbrev De := List (Option Sd)
/-- ps: what the caller keeps for himself; os: objects of one's own -/
structure Om where
  ps : List Addr
  os : List (Addr × Od)
def ads (ω : Om) : List Addr := ω.ps ++ ω.os.map (·.1)
def SdV (K : PySem.W.Frag) (H : Hp) : Sd → V → Prop
  | .im d, v => Dp K H v d
  | .ad a, v => v = .ref a
theorem sdv_mono {K : PySem.W.Frag} {H H' : Hp} (e : Same H H') : ∀ {r : Sd} {v : V}, SdV K H r v → SdV K H' r v
  | .im _, _, h => dpm e h
  | .ad _, _, h => h
theorem dpa_im {K : PySem.W.Frag} {H : Hp} : ∀ {xs : List PyData} {vs : List V}, Paired (SdV K H) (xs.map .im) vs → DpAll K H vs xs
  | [], _, h => by
    cases h
    exact .nil
  | x :: xs, _, h => by
    cases h with
    | cons a b => exact .cons a (dpa_im b)
theorem im_dpa {K : PySem.W.Frag} {H : Hp} : ∀ {xs : List PyData} {vs : List V}, DpAll K H vs xs → Paired (SdV K H) (xs.map .im) vs
  | _, _, .nil => .nil
  | _, _, .cons a b => .cons a (im_dpa b)
def OdV (K : PySem.W.Frag) (Hh H : Hp) (a : Addr) : Od → Prop
  | .lst xs => ∃ vs, H a = some (.lst vs) ∧ Paired (SdV K Hh) xs vs
  | .ins C fs => ∃ dx vs, H a = some (.ins C dx vs) ∧ Paired (fun (p : Str × Sd) (q : Str × V) => p.1 = q.1 ∧ SdV K Hh p.2 q.2) fs vs
  | .dct kvs => ∃ vs, H a = some (.dK vs) ∧ Paired (fun (p : Key × Sd) (q : Key × V) => p.1 = q.1 ∧ SdV K Hh p.2 q.2) kvs vs
  | .tup xs => ∃ vs, H a = some (.tup vs) ∧ Paired (SdV K Hh) xs vs
theorem odv_keep {K : PySem.W.Frag} {G G' H H' : Hp} {a : Addr} (g : ∀ {r : Sd} {v : V}, SdV K G r v → SdV K G' r v) (e : ∀ u, (∀ ps, u ≠ .tbl ps) → H a = some u → H' a = some u) : ∀ {o : Od}, OdV K G H a o → OdV K G' H' a o
  | .lst _, ⟨vs, h, p⟩ => ⟨vs, e _ (fun _ z => by cases z) h, L2.Paired.mapP p fun _ _ q => g q⟩
  | .ins _ _, ⟨dx, vs, h, p⟩ => ⟨dx, vs, e _ (fun _ z => by cases z) h, L2.Paired.mapP p fun _ _ q => ⟨q.1, g q.2⟩⟩
  | .dct _, ⟨vs, h, p⟩ => ⟨vs, e _ (fun _ z => by cases z) h, L2.Paired.mapP p fun _ _ q => ⟨q.1, g q.2⟩⟩
  | .tup _, ⟨vs, h, p⟩ => ⟨vs, e _ (fun _ z => by cases z) h, L2.Paired.mapP p fun _ _ q => g q⟩
theorem odv_mono {K : PySem.W.Frag} {G G' H H' : Hp} {a : Addr} (g : Same G G') (e : Same H H') {o : Od} (h : OdV K G H a o) : OdV K G' H' a o := odv_keep (fun q => sdv_mono g q) (fun u _ q => e a u q) h
theorem odv_at {K : PySem.W.Frag} {G H : Hp} {a : Addr} : ∀ {o : Od}, OdV K G H a o → ∃ u, H a = some u ∧ (∀ ps, u ≠ .tbl ps) ∧ ∀ c q, u ≠ LamX.CodeO c q
  | .lst _, ⟨_, h, _⟩ => ⟨_, h, fun _ z => (by cases z), fun _ _ z => (by unfold LamX.CodeO at z; cases z)⟩
  | .ins _ _, ⟨_, _, h, _⟩ => ⟨_, h, fun _ z => (by cases z), fun _ _ z => (by unfold LamX.CodeO at z; cases z)⟩
  | .dct _, ⟨_, h, _⟩ => ⟨_, h, fun _ z => (by cases z), fun _ _ z => (by unfold LamX.CodeO at z; cases z)⟩
  | .tup _, ⟨_, h, _⟩ => ⟨_, h, fun _ z => (by cases z), fun _ _ z => (by unfold LamX.CodeO at z; cases z)⟩
theorem odv_some {K : PySem.W.Frag} {G H : Hp} {a : Addr} {o : Od} (h : OdV K G H a o) : H a ≠ none := by
  obtain ⟨u, e, _⟩ := odv_at h
  rw [e]
  simp
/-- the objects alone -/
structure Ro (K : PySem.W.Frag) (H : Hp) (ω : Om) : Prop where
  ob : ∀ a o, (a, o) ∈ ω.os → OdV K (hid (ads ω) H) H a o
  nd : (ω.os.map (·.1)).Nodup
  th : ∀ a ∈ ω.ps, H a ≠ none
structure Rl (K : PySem.W.Frag) (H : Hp) (σ : L2.St) (δ : De) (ω : Om) : Prop where
  len : σ.length = δ.length
  sl : ∀ (i : Nat) (r : Sd), δ[i]? = some (some r) → ∃ v, σ[i]? = some (some v) ∧ SdV K (hid (ads ω) H) r v
  ro : Ro K H ω
section
variable {K : PySem.W.Frag} {H H' : Hp} {σ : L2.St} {δ : De} {ω : Om}
theorem there_mono {ps : List Addr} (t : ∀ a ∈ ps, H a ≠ none) (e : Same H H') : ∀ a ∈ ps, H' a ≠ none := fun a h z => by
  have q := t a h
  cases g : H a with
  | none => exact q g
  | some o =>
    rw [e a o g] at z
    cases z
theorem Ro.mono (r : Ro K H ω) (e : Same H H') : Ro K H' ω := ⟨fun a o h => odv_mono (hid_same e) e (r.ob a o h), r.nd, there_mono r.th e⟩
theorem Rl.mono (r : Rl K H σ δ ω) (e : Same H H') : Rl K H' σ δ ω := ⟨r.len, fun i x h => by
  obtain ⟨v, h1, h2⟩ := r.sl i x h
  exact ⟨v, h1, sdv_mono (hid_same e) h2⟩, r.ro.mono e⟩
theorem Ro.there (r : Ro K H ω) : ∀ a ∈ ads ω, H a ≠ none := fun a h => by
  rcases List.mem_append.mp h with h | h
  · exact r.th a h
  · obtain ⟨p, hp, e⟩ := List.mem_map.mp h
    subst e
    exact odv_some (r.ob p.1 p.2 hp)
theorem Ro.nil {ps : List Addr} (h : ∀ a ∈ ps, H a ≠ none) : Ro K H ⟨ps, []⟩ := ⟨fun _ _ h => (List.not_mem_nil h).elim, List.nodup_nil, h⟩
theorem ads_nil {ps : List Addr} : ads ⟨ps, []⟩ = ps := by
  show ps ++ [] = ps
  rw [List.append_nil]
theorem new_out {ps : List Addr} (t : ∀ a ∈ ps, H a ≠ none) {p : Addr} (h : H p = none) : p ∉ ps := fun z => t p z h
theorem Rl.set (r : Rl K H σ δ ω) {i : Nat} {x : Sd} {v : V} (h : SdV K (hid (ads ω) H) x v) : Rl K H (σ.set i (some v)) (δ.set i (some x)) ω := by
  refine ⟨by rw [List.length_set, List.length_set, r.len], fun j y hj => ?_, r.ro⟩
  by_cases hij : i = j
  · subst hij
    have hl : i < δ.length := by
      have := (List.getElem?_eq_some_iff.mp hj).1
      rwa [List.length_set] at this
    rw [List.getElem?_set_self hl] at hj
    cases hj
    exact ⟨v, List.getElem?_set_self (by rw [r.len]; exact hl), h⟩
  · rw [List.getElem?_set_ne hij] at hj
    obtain ⟨u, h1, h2⟩ := r.sl j y hj
    exact ⟨u, by rw [List.getElem?_set_ne hij]; exact h1, h2⟩
/-- a slot is forgotten -/
theorem Rl.forget (r : Rl K H σ δ ω) {i : Nat} {x : Option V} : Rl K H (σ.set i x) (δ.set i none) ω := by
  refine ⟨by rw [List.length_set, List.length_set, r.len], fun j y hj => ?_, r.ro⟩
  by_cases hij : i = j
  · subst hij
    have hl : i < δ.length := by
      have := (List.getElem?_eq_some_iff.mp hj).1
      rwa [List.length_set] at this
    rw [List.getElem?_set_self hl] at hj
    cases hj
  · rw [List.getElem?_set_ne hij] at hj
    obtain ⟨u, h1, h2⟩ := r.sl j y hj
    exact ⟨u, by rw [List.getElem?_set_ne hij]; exact h1, h2⟩
end

/-! ### the weakest readings -/
section
variable {X : Cx}
@[irreducible] def wpe (X : Cx) (e : Expr) : TE := fun σ H Q => ∀ pins s, Inv X pins σ H s → wpAny (model X.prog X.w) X.A (eval e X.env) (EP X pins σ Q) X.xe s
@[irreducible] def wpt (X : Cx) (e : Expr) : TT := fun σ H Q => ∀ pins s, Inv X pins σ H s → wpAny (model X.prog X.w) X.A (isTrue e X.env (eval e X.env)) (TP X pins σ Q) X.xe s
@[irreducible] def wpa (X : Cx) (es : List Expr) : TA := fun σ H Q => ∀ (pos : Pos) pins s, Inv X pins σ H s → wpAny (model X.prog X.w) X.A (spliced (backTo pos (starEach es X.env))) (AP X pins σ Q) X.xe s
@[irreducible] def wps (X : Cx) (st : Stmt) : TS := fun D σ H => ∀ pins s, Inv X pins σ H s → wpAny (model X.prog X.w) X.A (exec st X.env) (SP X pins D) X.xe s
@[irreducible] def wpss (X : Cx) (st : List Stmt) : TS := fun D σ H => ∀ pins s, Inv X pins σ H s → wpAny (model X.prog X.w) X.A (execs st X.env) (SP X pins D) X.xe s
theorem pe_w {e : Expr} : PE X e (wpe X e) := ⟨fun pins s σ H Q I h => by unfold wpe at h; exact h pins s I⟩
theorem pt_w {e : Expr} : PT X e (wpt X e) := ⟨fun pins s σ H Q I h => by unfold wpt at h; exact h pins s I⟩
theorem pa_w {es : List Expr} : PA X es (wpa X es) := ⟨fun pos pins s σ H Q I h => by unfold wpa at h; exact h pos pins s I⟩
theorem ps_w {st : Stmt} : PS X st (wps X st) := ⟨fun pins s σ H D I h => by unfold wps at h; exact h pins s I⟩
theorem pss_w {st : List Stmt} : PSs X st (wpss X st) := ⟨fun pins s σ H D I h => by unfold wpss at h; exact h pins s I⟩
theorem we {e : Expr} {t : TE} {σ : L2.St} {H : Hp} {Q : VK} (h : PE X e t) (q : t σ H Q) : wpe X e σ H Q := by unfold wpe; exact fun pins s I => h.run pins s σ H Q I q
theorem wt {e : Expr} {t : TT} {σ : L2.St} {H : Hp} {Q : Bool → Hp → Prop} (h : PT X e t) (q : t σ H Q) : wpt X e σ H Q := by unfold wpt; exact fun pins s I => h.run pins s σ H Q I q
theorem wa {es : List Expr} {t : TA} {σ : L2.St} {H : Hp} {Q : List V → Hp → Prop} (h : PA X es t) (q : t σ H Q) : wpa X es σ H Q := by unfold wpa; exact fun pos pins s I => h.run pos pins s σ H Q I q
theorem ws {st : Stmt} {t : TS} {σ : L2.St} {H : Hp} {D : Ends} (h : PS X st t) (q : t D σ H) : wps X st D σ H := by unfold wps; exact fun pins s I => h.run pins s σ H D I q
theorem wss {st : List Stmt} {t : TS} {σ : L2.St} {H : Hp} {D : Ends} (h : PSs X st t) (q : t D σ H) : wpss X st D σ H := by unfold wpss; exact fun pins s I => h.run pins s σ H D I q
end
/-! ### judgements -/
def PD (X : Cx) (δ : De) (ω : Om) (e : Expr) (d : PyData) : Prop :=
  ∀ σ H, Rl X.K H σ δ ω → ∀ Q : VK, (∀ v H', Same H H' → Dp X.K (hid (ads ω) H') v d → Q v H') → wpe X e σ H Q
def PDs (X : Cx) (δ : De) (ω : Om) (es : List Expr) (ds : List PyData) : Prop :=
  ∀ σ H, Rl X.K H σ δ ω → ∀ Q : List V → Hp → Prop, (∀ vs H', Same H H' → DpAll X.K (hid (ads ω) H') vs ds → Q vs H') → wpa X es σ H Q
def PTd (X : Cx) (δ : De) (ω : Om) (e : Expr) (b : Bool) : Prop :=
  ∀ σ H, Rl X.K H σ δ ω → ∀ Q : Bool → Hp → Prop, (∀ H', Same H H' → Q b H') → wpt X e σ H Q
/-- a list that is read -/
def PL (X : Cx) (δ : De) (ω : Om) (e : Expr) (ds : List PyData) : Prop :=
  ∀ σ H, Rl X.K H σ δ ω → ∀ Q : VK, (∀ p vs H', Same H H' → SqL X.K H' p vs → DpAll X.K (hid (ads ω) H') vs ds → Q (.ref p) H') → wpe X e σ H Q
/-- a new list -/
def PN (X : Cx) (δ : De) (ω : Om) (e : Expr) (ds : List PyData) : Prop :=
  ∀ σ H, Rl X.K H σ δ ω → ∀ Q : VK, (∀ p vs H', Same H H' → H p = none → H' p = some (.lst vs) → DpAll X.K (hid (p :: ads ω) H') vs ds → Q (.ref p) H') → wpe X e σ H Q
section
variable {X : Cx} {δ : De} {ω : Om} {a b c e : Expr} {es : List Expr} {d da db dc dz : PyData} {ds : List PyData} {pos : Pos}
theorem PD.eq (h : PD X δ ω e d) (q : d = dz) : PD X δ ω e dz := q ▸ h
theorem PN.pl (h : PN X δ ω e ds) : PL X δ ω e ds := fun σ H r Q k => h σ H r Q fun p vs H' s _ h1 h2 => k p vs H' s (SqL.of h1) (dpam hid_cons h2)
theorem PN.pd (h : PN X δ ω e ds) : PD X δ ω e (.list ds) := fun σ H r Q k => h σ H r Q fun p vs H' s n h1 h2 => k (.ref p) H' s (.lst (SqL.of (hid_of (new_out r.ro.there n) h1)) (dpam hid_cons h2))
theorem PD.pl (h : PD X δ ω e (.list ds)) : PL X δ ω e ds := fun σ H r Q k => h σ H r Q fun v H' s h1 => by
  cases h1 with
  | lst hs ha => exact k _ _ H' s (hid_sub.seq hs) ha
theorem pds_nil : PDs X δ ω [] [] := fun σ H _ Q k => wa pa_nil (k [] H (Same.refl H) .nil)
theorem pds_cons (ha : PD X δ ω e d) (hr : PDs X δ ω es ds) (hs : starEach (e :: es) X.env = (false, eval e X.env) :: starEach es X.env := by rfl) : PDs X δ ω (e :: es) (d :: ds) := fun σ H r Q k =>
  wa (pa_cons pe_w pa_w hs) (ha σ H r _ fun v H1 s1 d1 => hr σ H1 (r.mono s1) _ fun vs H2 s2 d2 => k (v :: vs) H2 (s1.trans s2) (.cons (dpm (hid_same s2) d1) d2))

/-! ### names, constants -/
theorem pd_var (i : Nat) {x : Str} (hd : δ[i]? = some (some (.im d)) := by rfl) (hN : X.N[i]? = some x := by rfl) (hv : Vis X.env.scope x := by first | exact Or.inl rfl | exact Or.inr (Or.inl rfl) | exact Or.inr (Or.inr rfl))
    (h1 : (x == ("__debug__" : Str)) = false := by decide) (h2 : (x == ("__classdict__" : Str)) = false := by decide) : PD X δ ω (.Name x pos) d := fun σ H r Q k => by
  obtain ⟨v, e1, e2⟩ := r.sl i _ hd
  exact we (pe_var hN hv h1 h2) ⟨v, e1, k v H (Same.refl H) e2⟩
theorem pl_var (i : Nat) {x : Str} {p : Addr} {xs : List PyData} (hm : (p, Od.lst (xs.map .im)) ∈ ω.os) (hd : δ[i]? = some (some (.ad p)) := by rfl) (hN : X.N[i]? = some x := by rfl) (hv : Vis X.env.scope x := by first | exact Or.inl rfl | exact Or.inr (Or.inl rfl) | exact Or.inr (Or.inr rfl))
    (h1 : (x == ("__debug__" : Str)) = false := by decide) (h2 : (x == ("__classdict__" : Str)) = false := by decide) : PL X δ ω (.Name x pos) xs := fun σ H r Q k => by
  obtain ⟨v, e1, e2⟩ := r.sl i _ hd
  obtain ⟨vs, e3, e4⟩ := r.ro.ob _ _ hm
  have e2 : v = .ref p := e2
  subst e2
  exact we (pe_var hN hv h1 h2) ⟨_, e1, k p vs H (Same.refl H) (SqL.of e3) (dpa_im e4)⟩
theorem pd_int {i : Int} {j : Nat} : PD X δ ω (.Constant (.int i) j pos) (.int i) := fun σ H _ Q k => we pe_int (k _ H (Same.refl H) (.int i))
theorem pd_str {x : Str} {j : Nat} : PD X δ ω (.Constant (.str x) j pos) (.str x) := fun σ H _ Q k => we pe_str (k _ H (Same.refl H) (.str x))
theorem pd_bl {x : Bool} {j : Nat} : PD X δ ω (.Constant (.bool x) j pos) (.bool x) := fun σ H _ Q k => we pe_bl (k _ H (Same.refl H) (.bl x))
theorem pd_non {j : Nat} : PD X δ ω (.Constant .none j pos) .none := fun σ H _ Q k => we pe_non (k _ H (Same.refl H) .non)
/-- a constant of the module -/
def GlD (K : PySem.W.Frag) (mg : Str → Option Value) (x : Str) (d : PyData) : Prop := ∃ v u, mg x = some u ∧ RelV v u ∧ ∀ H, Dp K H v d
theorem pd_glob {x : Str} (h : GlD X.K X.mg x d) (hg : Gl X x := by rfl) (hd : (x == ("__debug__" : Str)) = false := by decide) : PD X δ ω (.Name x pos) d := fun σ H _ Q k => by
  obtain ⟨v, u, h1, h2, h3⟩ := h
  exact we (pe_glob hg h1 h2 hd) (k v H (Same.refl H) (h3 _))

/-! ### operators -/
def RD (K : PySem.W.Frag) (r : R2) (da db dz : PyData) : Prop :=
  ∀ (ps : List Addr) (x y : V) (H : Hp), (∀ a ∈ ps, H a ≠ none) → Dp K (hid ps H) x da → Dp K (hid ps H) y db → ∀ Q : VK, (∀ z H', Same H H' → Dp K (hid ps H') z dz → Q z H') → r x y H Q
theorem pd_op {op : Operator} {r : R2} (ho : OpR X (binaryOp op) r) (hr : RD X.K r da db dz) (ha : PD X δ ω a da) (hb : PD X δ ω b db) : PD X δ ω (.BinOp a op b pos) dz := fun σ H rl Q k =>
  we (pe_op ho pe_w pe_w) (ha σ H rl _ fun x H1 s1 d1 => hb σ H1 (rl.mono s1) _ fun y H2 s2 d2 =>
    hr _ x y H2 (there_mono rl.ro.there (s1.trans s2)) (dpm (hid_same s2) d1) d2 Q fun z H3 s3 d3 => k z H3 ((s1.trans s2).trans s3) d3)
theorem pd_cmp {op : CmpOp} {r : R2} (ho : OpR X (compareOp op) r) (hr : RD X.K r da db dz) (ha : PD X δ ω a da) (hb : PD X δ ω b db) (hm : behindInMarks op b = false) : PD X δ ω (.Compare a [op] [b] pos) dz := fun σ H rl Q k =>
  we (pe_cmpR ho pe_w pe_w hm) (ha σ H rl _ fun x H1 s1 d1 => hb σ H1 (rl.mono s1) _ fun y H2 s2 d2 =>
    hr _ x y H2 (there_mono rl.ro.there (s1.trans s2)) (dpm (hid_same s2) d1) d2 Q fun z H3 s3 d3 => k z H3 ((s1.trans s2).trans s3) d3)
theorem rd_I0 {K : PySem.W.Frag} {g : Int → Int → Int} {i j : Int} : RD K (rI0 fun i j => .int (g i j)) (.int i) (.int j) (.int (g i j)) := fun ps x y H _ hx hy Q k => by
  cases hx
  cases hy
  exact ⟨i, j, rfl, rfl, k _ H (Same.refl H) (.int _)⟩
theorem rd_B0 {K : PySem.W.Frag} {g : Int → Int → Bool} {i j : Int} : RD K (rI0 fun i j => .bl (g i j)) (.int i) (.int j) (.bool (g i j)) := fun ps x y H _ hx hy Q k => by
  cases hx
  cases hy
  exact ⟨i, j, rfl, rfl, k _ H (Same.refl H) (.bl _)⟩
theorem rd_I {K : PySem.W.Frag} {C : Int → Int → Prop} {g : Int → Int → Int} {i j : Int} (hc : C i j) : RD K (rI C fun i j => .int (g i j)) (.int i) (.int j) (.int (g i j)) := fun ps x y H _ hx hy Q k => by
  cases hx
  cases hy
  exact ⟨i, j, rfl, rfl, hc, k _ H (Same.refl H) (.int _)⟩
theorem pd_add {i j : Int} (ha : PD X δ ω a (.int i)) (hb : PD X δ ω b (.int j)) : PD X δ ω (.BinOp a .Add b pos) (.int (i + j)) := pd_op op_add rd_I0 ha hb
theorem pd_sub {i j : Int} (ha : PD X δ ω a (.int i)) (hb : PD X δ ω b (.int j)) : PD X δ ω (.BinOp a .Sub b pos) (.int (i - j)) := pd_op op_sub rd_I0 ha hb
theorem pd_mul {i j : Int} (hc : CMulW i j) (ha : PD X δ ω a (.int i)) (hb : PD X δ ω b (.int j)) : PD X δ ω (.BinOp a .Mult b pos) (.int (i * j)) := pd_op op_mulW (rd_I hc) ha hb
theorem pd_mulS {i j : Int} (hc : CMul i j) (ha : PD X δ ω a (.int i)) (hb : PD X δ ω b (.int j)) : PD X δ ω (.BinOp a .Mult b pos) (.int (i * j)) := pd_op op_mul (rd_I hc) ha hb
theorem pd_mod {i j : Int} (hc : 0 < j) (ha : PD X δ ω a (.int i)) (hb : PD X δ ω b (.int j)) : PD X δ ω (.BinOp a .Mod b pos) (.int (i % j)) := pd_op op_mod (rd_I (C := fun _ j => 0 < j) hc) ha hb
theorem pd_fdiv {i j : Int} (hc : CDivW i j) (ha : PD X δ ω a (.int i)) (hb : PD X δ ω b (.int j)) : PD X δ ω (.BinOp a .FloorDiv b pos) (.int (i / j)) := pd_op op_fdivW (rd_I hc) ha hb
theorem pd_pow {i j : Int} (hc : CPow i j) (ha : PD X δ ω a (.int i)) (hb : PD X δ ω b (.int j)) : PD X δ ω (.BinOp a .Pow b pos) (.int (i ^ j.toNat)) := pd_op op_pow (rd_I hc) ha hb
theorem pd_lt {i j : Int} (ha : PD X δ ω a (.int i)) (hb : PD X δ ω b (.int j)) : PD X δ ω (.Compare a [.Lt] [b] pos) (.bool (decide (i < j))) := pd_cmp op_lt rd_B0 ha hb (nomark _)
theorem pd_le {i j : Int} (ha : PD X δ ω a (.int i)) (hb : PD X δ ω b (.int j)) : PD X δ ω (.Compare a [.LtE] [b] pos) (.bool (decide (i ≤ j))) := pd_cmp op_le rd_B0 ha hb (nomark _)
theorem pd_gt {i j : Int} (ha : PD X δ ω a (.int i)) (hb : PD X δ ω b (.int j)) : PD X δ ω (.Compare a [.Gt] [b] pos) (.bool (decide (j < i))) := pd_cmp op_gt rd_B0 ha hb (nomark _)
theorem pd_ge {i j : Int} (ha : PD X δ ω a (.int i)) (hb : PD X δ ω b (.int j)) : PD X δ ω (.Compare a [.GtE] [b] pos) (.bool (decide (j ≤ i))) := pd_cmp op_ge rd_B0 ha hb (nomark _)
theorem rd_eqI {K : PySem.W.Frag} {i j : Int} : RD K rEq (.int i) (.int j) (.bool (decide (i = j))) := fun ps x y H _ hx hy Q k => by
  cases hx
  cases hy
  refine ⟨rfl, ?_⟩
  have e : decide (V.int i = V.int j) = decide (i = j) := by
    by_cases c : i = j
    · subst c
      simp
    · rw [decide_eq_false c, decide_eq_false (fun z => c (V.int.inj z))]
  rw [e]
  exact k _ H (Same.refl H) (.bl _)
theorem rd_neI {K : PySem.W.Frag} {i j : Int} : RD K rNe (.int i) (.int j) (.bool (!decide (i = j))) := fun ps x y H _ hx hy Q k => by
  cases hx
  cases hy
  refine ⟨rfl, ?_⟩
  have e : decide (V.int i = V.int j) = decide (i = j) := by
    by_cases c : i = j
    · subst c
      simp
    · rw [decide_eq_false c, decide_eq_false (fun z => c (V.int.inj z))]
  rw [e]
  exact k _ H (Same.refl H) (.bl _)
theorem pd_eqI {i j : Int} (ha : PD X δ ω a (.int i)) (hb : PD X δ ω b (.int j)) : PD X δ ω (.Compare a [.Eq] [b] pos) (.bool (decide (i = j))) := pd_cmp op_eq rd_eqI ha hb (nomark _)
theorem pd_neI {i j : Int} (ha : PD X δ ω a (.int i)) (hb : PD X δ ω b (.int j)) : PD X δ ω (.Compare a [.NotEq] [b] pos) (.bool (!decide (i = j))) := pd_cmp op_ne rd_neI ha hb (nomark _)
theorem rd_eqD {K : PySem.W.Frag} (h1 : SeqAt.shaped da = true) (h2 : SeqAt.shaped db = true) : RD K (rEqD K) da db (.bool (PyData.eqv da db)) := fun ps x y H _ hx hy Q k =>
  ⟨da, db, dpm hid_sub hx, dpm hid_sub hy, h1, h2, k _ H (Same.refl H) (.bl _)⟩
theorem rd_neD {K : PySem.W.Frag} (h1 : SeqAt.shaped da = true) (h2 : SeqAt.shaped db = true) : RD K (rNeD K) da db (.bool (!PyData.eqv da db)) := fun ps x y H _ hx hy Q k =>
  ⟨da, db, dpm hid_sub hx, dpm hid_sub hy, h1, h2, k _ H (Same.refl H) (.bl _)⟩
theorem pd_eqD (hu : X.A.units + 64 < cLine) (h1 : SeqAt.shaped da = true) (h2 : SeqAt.shaped db = true) (ha : PD X δ ω a da) (hb : PD X δ ω b db) : PD X δ ω (.Compare a [.Eq] [b] pos) (.bool (PyData.eqv da db)) := pd_cmp (op_eqD hu) (rd_eqD h1 h2) ha hb (nomark _)
theorem pd_neD (hu : X.A.units + 64 < cLine) (h1 : SeqAt.shaped da = true) (h2 : SeqAt.shaped db = true) (ha : PD X δ ω a da) (hb : PD X δ ω b db) : PD X δ ω (.Compare a [.NotEq] [b] pos) (.bool (!PyData.eqv da db)) := pd_cmp (op_neD hu) (rd_neD h1 h2) ha hb (nomark _)

/-! ### displays, subscripts, len -/
theorem pd_tup {x1} (h : PDs X δ ω es ds) (hz : ds.length ≤ 1000 := by first | decide | (simp only [List.length_cons, List.length_nil]; omega)) : PD X δ ω (.Tuple es x1 pos) (.tuple ds) := fun σ H r Q k =>
  we (pe_tup pa_w) (h σ H r _ fun vs H1 s1 d1 => ⟨Nat.le_of_lt (small1000 (by rw [dpa_len d1]; exact hz)), fun p hp => k _ _ (s1.trans (same_new hp))
    (.tup (SqT.of (hid_of (new_out (there_mono r.ro.there s1) hp) upd_same)) (dpam (hid_same (same_new hp)) d1))⟩)
theorem pn_lst (h : PDs X δ ω es ds) (hz : ds.length ≤ 1000 := by first | decide | (simp only [List.length_cons, List.length_nil]; omega)) : PN X δ ω (.List es pos) ds := fun σ H r Q k =>
  we (pe_lst pa_w) (h σ H r _ fun vs H1 s1 d1 => ⟨Nat.le_of_lt (small1000 (by rw [dpa_len d1]; exact hz)), fun p hp => k p vs _ (s1.trans (same_new hp)) (s1.free hp) upd_same (dpam (hid_new hp (same_new hp)) d1)⟩)
theorem atI_dp {K : PySem.W.Frag} {H : Hp} {ds : List PyData} {vs : List V} {i : Int} (h : DpAll K H vs ds) (ha : atI ds i = some d) : ∃ v, atI vs i = some v ∧ Dp K H v d := by
  unfold atI at ha ⊢
  rw [dpa_len h]
  cases e : ixN ds.length i with
  | none =>
    rw [e] at ha
    cases ha
  | some j =>
    rw [e] at ha
    exact dpa_get h ha
theorem atI0 {α : Type} {x : α} {xs : List α} : atI (x :: xs) 0 = some x := atI_nat (j := 0) rfl
theorem atI1 {α : Type} {x y : α} {xs : List α} : atI (x :: y :: xs) 1 = some y := atI_nat (j := 1) rfl
theorem pd_ixT {i : Int} (ha : PD X δ ω a (.tuple ds)) (hb : PD X δ ω b (.int i)) (hi : atI ds i = some d) (hs : PlainIx b := by exact fun _ _ => rfl) : PD X δ ω (.Subscript a b pos) d := fun σ H rl Q k =>
  we (pe_ix ix_tup pe_w pe_w hs) (ha σ H rl _ fun x H1 s1 d1 => hb σ H1 (rl.mono s1) _ fun y H2 s2 d2 => by
    cases d2
    cases d1 with
    | tup hs ha =>
      obtain ⟨v, h1, h2⟩ := atI_dp ha hi
      exact ⟨_, _, _, v, rfl, rfl, same_sqt s2 (same_sqt hid_sub hs), h1, k v H2 (s1.trans s2) (dpm (hid_same s2) h2)⟩)
theorem pd_ixL {i : Int} (ha : PL X δ ω a ds) (hb : PD X δ ω b (.int i)) (hi : atI ds i = some d) (hs : PlainIx b := by exact fun _ _ => rfl) : PD X δ ω (.Subscript a b pos) d := fun σ H rl Q k =>
  we (pe_ix ix_list pe_w pe_w hs) (ha σ H rl _ fun p vs H1 s1 h1 d1 => hb σ H1 (rl.mono s1) _ fun y H2 s2 d2 => by
    cases d2
    obtain ⟨v, h3, h4⟩ := atI_dp d1 hi
    exact ⟨_, _, _, v, rfl, rfl, s2.seq h1, h3, k v H2 (s1.trans s2) (dpm (hid_same s2) h4)⟩)
theorem pd_lenT {p : Pos} (hm : X.mg "len" = none) (ha : PD X δ ω a (.tuple ds)) (hg : Gl X "len" := by rfl) (hs : starEach [a] X.env = (false, eval a X.env) :: starEach [] X.env := by rfl) : PD X δ ω (.Call (.Name "len" p) [a] [] pos) (.int ds.length) := fun σ H rl Q k =>
  we (pe_callB call_len_seq hg hm PySem.boot_len (pa_cons pe_w pa_nil hs) (he := hs)) (ha σ H rl _ fun x H1 s1 d1 => by
    cases d1 with
    | tup h1 h2 =>
      refine ⟨_, _, rfl, .inr (same_sqt hid_sub h1), ?_⟩
      rw [dpa_len h2]
      exact k _ H1 s1 (.int _))
theorem pd_lenL {p : Pos} (hm : X.mg "len" = none) (ha : PL X δ ω a ds) (hg : Gl X "len" := by rfl) (hs : starEach [a] X.env = (false, eval a X.env) :: starEach [] X.env := by rfl) : PD X δ ω (.Call (.Name "len" p) [a] [] pos) (.int ds.length) := fun σ H rl Q k =>
  we (pe_callB call_len_seq hg hm PySem.boot_len (pa_cons pe_w pa_nil hs) (he := hs)) (ha σ H rl _ fun x vs H1 s1 h1 d1 => by
    refine ⟨_, _, rfl, .inl h1, ?_⟩
    rw [dpa_len d1]
    exact k _ H1 s1 (.int _))
theorem pd_lenS {p : Pos} {z : Str} (hm : X.mg "len" = none) (ha : PD X δ ω a (.str z)) (hz : z.length ≤ 100000) (hg : Gl X "len" := by rfl) (hs : starEach [a] X.env = (false, eval a X.env) :: starEach [] X.env := by rfl) : PD X δ ω (.Call (.Name "len" p) [a] [] pos) (.int z.length) := fun σ H rl Q k =>
  we (pe_callB call_len hg hm PySem.boot_len (pa_cons pe_w pa_nil hs) (he := hs)) (ha σ H rl _ fun x H1 s1 d1 => by
    cases d1
    exact ⟨_, _, rfl, ⟨Nat.le_trans hz (by decide), rfl⟩, k _ H1 s1 (.int _)⟩)

/-! ### truth, and, or, not -/
theorem pt_of (h : PD X δ ω e (.bool true)) (he : ∀ whole, isTrue e X.env whole = (do let v ← whole; standAt e.pos; holding [v] (truthy v)) := by intro _; rfl) : PTd X δ ω e true := fun σ H r Q k =>
  wt (pt_val pe_w he) (h σ H r _ fun v H1 s1 d1 => by
    cases d1
    exact ⟨_, rfl, k H1 s1⟩)
theorem pt_bool {k : Bool} (h : PD X δ ω e (.bool k)) (he : ∀ whole, isTrue e X.env whole = (do let v ← whole; standAt e.pos; holding [v] (truthy v)) := by intro _; rfl) : PTd X δ ω e k := fun σ H r Q q =>
  wt (pt_val pe_w he) (h σ H r _ fun v H1 s1 d1 => by
    cases d1
    exact ⟨_, rfl, q H1 s1⟩)
theorem pt_cmpd {op : CmpOp} {r : R2} {k : Bool} (ho : OpR X (compareOp op) r) (hr : RD X.K r da db (.bool k)) (ha : PD X δ ω a da) (hb : PD X δ ω b db) (hm : behindInMarks op b = false) : PTd X δ ω (.Compare a [op] [b] pos) k := fun σ H rl Q q =>
  wt (pt_cmpR ho pe_w pe_w hm) (ha σ H rl _ fun x H1 s1 d1 => hb σ H1 (rl.mono s1) _ fun y H2 s2 d2 =>
    hr _ x y H2 (there_mono rl.ro.there (s1.trans s2)) (dpm (hid_same s2) d1) d2 _ fun z H3 s3 d3 => by
      cases d3
      exact ⟨_, rfl, q H3 ((s1.trans s2).trans s3)⟩)
theorem pt_notd {k : Bool} (h : PTd X δ ω e k) : PTd X δ ω (.UnaryOp .Not e pos) (!k) := fun σ H r Q q => wt (pt_not pt_w) (h σ H r _ fun H1 s1 => q H1 s1)
theorem pt_truT {k : Bool} (h : PD X δ ω e (.tuple ds)) (hk : k = !ds.isEmpty) (he : ∀ whole, isTrue e X.env whole = (do let v ← whole; standAt e.pos; holding [v] (truthy v)) := by intro _; rfl) : PTd X δ ω e k := fun σ H r Q q =>
  wt (pt_truth pe_w he) (h σ H r _ fun v H1 s1 d1 => by
    cases d1 with
    | tup h1 h2 =>
      refine ⟨k, ?_, q H1 s1⟩
      refine .inr (.inl ⟨_, same_sqt hid_sub h1, ?_⟩)
      rw [hk]
      cases h2 <;> rfl)
end
end FP

namespace FP
open PySem PySem.Spec PyProof.Rows L2
/-! ### and, or, not -/
@[irreducible] def wpw (X : Cx) (e : Expr) : TT := fun σ H Q => ∀ (whole : Sem Value) pins s, Inv X pins σ H s → wpAny (model X.prog X.w) X.A (isTrue e X.env whole) (TP X pins σ Q) X.xe s
theorem pw_w {X : Cx} {e : Expr} : PW X e (wpw X e) := ⟨fun whole pins s σ H Q I h => by unfold wpw at h; exact h whole pins s I⟩
theorem ww {X : Cx} {e : Expr} {t : TT} {σ : L2.St} {H : Hp} {Q : Bool → Hp → Prop} (h : PW X e t) (q : t σ H Q) : wpw X e σ H Q := by unfold wpw; exact fun whole pins s I => h.run whole pins s σ H Q I q
def PWd (X : Cx) (δ : De) (ω : Om) (e : Expr) (b : Bool) : Prop :=
  ∀ σ H, Rl X.K H σ δ ω → ∀ Q : Bool → Hp → Prop, (∀ H', Same H H' → Q b H') → wpw X e σ H Q
section
variable {X : Cx} {δ : De} {ω : Om} {a b c e : Expr} {es r : List Expr} {d da db dc dz : PyData} {ds : List PyData} {pos : Pos} {k x y : Bool}
theorem PWd.pt (h : PWd X δ ω e k) : PTd X δ ω e k := fun σ H rl Q q => wt (PW.pt pw_w) (h σ H rl Q q)
theorem pw_and1d (h : PTd X δ ω a k) : PWd X δ ω (.BoolOp .And [a] pos) k := fun σ H rl Q q => ww (pw_and1 pt_w) (h σ H rl Q q)
theorem pw_or1d (h : PTd X δ ω a k) : PWd X δ ω (.BoolOp .Or [a] pos) k := fun σ H rl Q q => ww (pw_or1 pt_w) (h σ H rl Q q)
theorem pw_andd (h : PTd X δ ω a x) (h2 : x = true → PWd X δ ω (.BoolOp .And (b :: r) pos) y) : PWd X δ ω (.BoolOp .And (a :: b :: r) pos) (x && y) := fun σ H rl Q q =>
  ww (pw_and pt_w pw_w) (h σ H rl _ fun H1 s1 => by
    cases x with
    | true => exact iteT (h2 rfl σ H1 (rl.mono s1) Q fun H2 s2 => q H2 (s1.trans s2))
    | false => exact iteF (q H1 s1))
theorem pw_ord (h : PTd X δ ω a x) (h2 : x = false → PWd X δ ω (.BoolOp .Or (b :: r) pos) y) : PWd X δ ω (.BoolOp .Or (a :: b :: r) pos) (x || y) := fun σ H rl Q q =>
  ww (pw_or pt_w pw_w) (h σ H rl _ fun H1 s1 => by
    cases x with
    | true => exact iteT (q H1 s1)
    | false => exact iteF (h2 rfl σ H1 (rl.mono s1) Q fun H2 s2 => q H2 (s1.trans s2)))
theorem pw_orT (h : PTd X δ ω a true) : PWd X δ ω (.BoolOp .Or (a :: b :: r) pos) true := fun σ H rl Q q => ww (pw_or pt_w pw_w) (h σ H rl _ fun H1 s1 => iteT (q H1 s1))
theorem pw_andF (h : PTd X δ ω a false) : PWd X δ ω (.BoolOp .And (a :: b :: r) pos) false := fun σ H rl Q q => ww (pw_and pt_w pw_w) (h σ H rl _ fun H1 s1 => iteF (q H1 s1))
theorem pd_one {op : PySem.BoolOp} (h : PD X δ ω a d) : PD X δ ω (.BoolOp op [a] pos) d := fun σ H rl Q q => we (pe_one pe_w) (h σ H rl Q q)
theorem pd_and (h : PD X δ ω a (.bool x)) (h2 : x = true → PD X δ ω (.BoolOp .And (b :: r) pos) (.bool y)) : PD X δ ω (.BoolOp .And (a :: b :: r) pos) (.bool (x && y)) := fun σ H rl Q q =>
  we (pe_and pe_w pe_w) (h σ H rl _ fun v H1 s1 d1 => by
    cases d1
    refine ⟨x, rfl, ?_⟩
    cases x with
    | true => exact iteT (h2 rfl σ H1 (rl.mono s1) Q fun v H2 s2 => q v H2 (s1.trans s2))
    | false => exact iteF (q _ H1 s1 (.bl _)))
theorem pd_andF (h : PD X δ ω a (.bool false)) : PD X δ ω (.BoolOp .And (a :: b :: r) pos) (.bool false) := fun σ H rl Q q =>
  we (pe_and pe_w pe_w) (h σ H rl _ fun v H1 s1 d1 => by
    cases d1
    exact ⟨false, rfl, iteF (q _ H1 s1 (.bl _))⟩)
theorem pd_or (h : PD X δ ω a (.bool x)) (h2 : x = false → PD X δ ω (.BoolOp .Or (b :: r) pos) (.bool y)) : PD X δ ω (.BoolOp .Or (a :: b :: r) pos) (.bool (x || y)) := fun σ H rl Q q =>
  we (pe_or pe_w pe_w) (h σ H rl _ fun v H1 s1 d1 => by
    cases d1
    refine ⟨x, rfl, ?_⟩
    cases x with
    | true => exact iteT (q _ H1 s1 (.bl _))
    | false => exact iteF (h2 rfl σ H1 (rl.mono s1) Q fun v H2 s2 => q v H2 (s1.trans s2)))
theorem pd_not (h : PD X δ ω a (.bool x)) : PD X δ ω (.UnaryOp .Not a pos) (.bool (!x)) := fun σ H rl Q q =>
  we (pe_not pe_w) (h σ H rl _ fun v H1 s1 d1 => by
    cases d1
    exact ⟨x, rfl, q _ H1 s1 (.bl _)⟩)
theorem pd_if (h : PTd X δ ω c k) (h1 : k = true → PD X δ ω a d) (h2 : k = false → PD X δ ω b d) : PD X δ ω (.IfExp c a b pos) d := fun σ H rl Q q =>
  we (pe_ifExp pt_w pe_w pe_w) (h σ H rl _ fun H1 s1 => by
    cases k with
    | true => exact iteT (h1 rfl σ H1 (rl.mono s1) Q fun v H2 s2 => q v H2 (s1.trans s2))
    | false => exact iteF (h2 rfl σ H1 (rl.mono s1) Q fun v H2 s2 => q v H2 (s1.trans s2)))
/-- a < b < c -/
theorem pd_chain {op op' : CmpOp} {r r' : R2} (ho : OpR X (compareOp op) r) (ho' : OpR X (compareOp op') r') (hr : RD X.K r da db (.bool x)) (hr' : x = true → RD X.K r' db dc (.bool y)) (ha : PD X δ ω a da) (hb : PD X δ ω b db) (hc : x = true → PD X δ ω c dc)
    (h1 : lastMarks [op, op'] [b, c] = false := by with_unfolding_all rfl) : PD X δ ω (.Compare a [op, op'] [b, c] pos) (.bool (x && y)) := fun σ H rl Q q =>
  we (pe_chain ho ho' pe_w pe_w pe_w h1) (ha σ H rl _ fun u H1 s1 d1 => hb σ H1 (rl.mono s1) _ fun v H2 s2 d2 =>
    hr _ u v H2 (there_mono rl.ro.there (s1.trans s2)) (dpm (hid_same s2) d1) d2 _ fun z H3 s3 d3 => by
      cases d3
      refine ⟨x, rfl, ?_⟩
      cases x with
      | true => exact iteT (hc rfl σ H3 (rl.mono ((s1.trans s2).trans s3)) _ fun t H4 s4 d4 => hr' rfl _ v t H4 (there_mono rl.ro.there (((s1.trans s2).trans s3).trans s4)) (dpm (hid_same (s3.trans s4)) d2) d4 Q fun z H5 s5 d5 => q z H5 ((((s1.trans s2).trans s3).trans s4).trans s5) d5)
      | false => exact iteF (q _ H3 ((s1.trans s2).trans s3) (.bl _)))

/-! ### built-in functions by values -/
def RC (K : PySem.W.Frag) (r : List V → Hp → VK → Prop) (ds : List PyData) (dz : PyData) : Prop :=
  ∀ (ps : List Addr) (vs : List V) (H : Hp), (∀ a ∈ ps, H a ≠ none) → DpAll K (hid ps H) vs ds → ∀ Q : VK, (∀ z H', Same H H' → Dp K (hid ps H') z dz → Q z H') → r vs H Q
theorem pd_callB {id : String} {r : List V → Hp → VK → Prop} {x : Str} {p : Pos} (hc : CallR X (.builtin id) r) (hr : RC X.K r ds dz) (hm : X.mg x = none) (hv : bootBuiltins x = some (.builtin id)) (ha : PDs X δ ω (a :: es) ds) (hg : Gl X x := by rfl)
    (hn : x ≠ "__name__" := by decide) (hdb : (x == ("__debug__" : Str)) = false := by decide) (he : starEach (a :: es) X.env = (false, eval a X.env) :: starEach es X.env := by rfl) (hpl : (backTo pos (starEach es X.env)).any (·.1) = false := by rfl) :
    PD X δ ω (.Call (.Name x p) (a :: es) [] pos) dz := fun σ H rl Q k =>
  we (pe_callB hc hg hm hv pa_w hn hdb he hpl) (ha σ H rl _ fun vs H1 s1 d1 => hr _ vs H1 (there_mono rl.ro.there s1) d1 Q fun z H2 s2 d2 => k z H2 (s1.trans s2) d2)
theorem pd_callTy {T : String} {r : List V → Hp → VK → Prop} {x : Str} {p : Pos} (hc : CallR X (.type T) r) (hr : RC X.K r ds dz) (hm : X.mg x = none) (hv : bootBuiltins x = some (.type T)) (ha : PDs X δ ω (a :: es) ds) (hg : Gl X x := by rfl)
    (hn : x ≠ "__name__" := by decide) (hdb : (x == ("__debug__" : Str)) = false := by decide) (he : starEach (a :: es) X.env = (false, eval a X.env) :: starEach es X.env := by rfl) (hpl : (backTo pos (starEach es X.env)).any (·.1) = false := by rfl) :
    PD X δ ω (.Call (.Name x p) (a :: es) [] pos) dz := fun σ H rl Q k =>
  we (pe_callTy hc hg hm hv pa_w hn hdb he hpl) (ha σ H rl _ fun vs H1 s1 d1 => hr _ vs H1 (there_mono rl.ro.there s1) d1 Q fun z H2 s2 d2 => k z H2 (s1.trans s2) d2)
theorem pd_min {p : Pos} {i j : Int} (hc : X.calm = true) (hm : X.mg "min" = none) (ha : PD X δ ω a (.int i)) (hb : PD X δ ω b (.int j)) (hg : Gl X "min" := by rfl)
    (he : starEach [a, b] X.env = (false, eval a X.env) :: starEach [b] X.env := by rfl) (hb2 : starEach [b] X.env = (false, eval b X.env) :: starEach [] X.env := by rfl) (hpl : (backTo pos (starEach [b] X.env)).any (·.1) = false := by rfl) :
    PD X δ ω (.Call (.Name "min" p) [a, b] [] pos) (.int (if j < i then j else i)) :=
  pd_callB (call_min2 hc) (fun ps vs H _ h Q k => by
    cases h with
    | cons h1 h2 =>
      cases h2 with
      | cons h3 h4 =>
        cases h4
        cases h1
        cases h3
        exact ⟨i, j, rfl, k _ H (Same.refl H) (.int _)⟩) hm (by decide +kernel) (pds_cons ha (pds_cons hb pds_nil hb2) he) hg (by decide) (by decide) he hpl
theorem pd_max {p : Pos} {i j : Int} (hc : X.calm = true) (hm : X.mg "max" = none) (ha : PD X δ ω a (.int i)) (hb : PD X δ ω b (.int j)) (hg : Gl X "max" := by rfl)
    (he : starEach [a, b] X.env = (false, eval a X.env) :: starEach [b] X.env := by rfl) (hb2 : starEach [b] X.env = (false, eval b X.env) :: starEach [] X.env := by rfl) (hpl : (backTo pos (starEach [b] X.env)).any (·.1) = false := by rfl) :
    PD X δ ω (.Call (.Name "max" p) [a, b] [] pos) (.int (if j > i then j else i)) :=
  pd_callB (call_max2 hc) (fun ps vs H _ h Q k => by
    cases h with
    | cons h1 h2 =>
      cases h2 with
      | cons h3 h4 =>
        cases h4
        cases h1
        cases h3
        exact ⟨i, j, rfl, k _ H (Same.refl H) (.int _)⟩) hm (by decide +kernel) (pds_cons ha (pds_cons hb pds_nil hb2) he) hg (by decide) (by decide) he hpl
theorem pd_ord {p : Pos} {z : Str} {i : Nat} (hm : X.mg "ord" = none) (ha : PD X δ ω a (.str z)) (hz : z.length = 1) (hi : z.cps.getD 0 0 = i) (hg : Gl X "ord" := by rfl)
    (he : starEach [a] X.env = (false, eval a X.env) :: starEach [] X.env := by rfl) : PD X δ ω (.Call (.Name "ord" p) [a] [] pos) (.int (i : Nat)) :=
  pd_callB call_ord (fun ps vs H _ h Q k => by
    cases h with
    | cons h1 h2 =>
      cases h2
      cases h1
      refine ⟨z, rfl, hz, ?_⟩
      rw [hi]
      exact k _ H (Same.refl H) (.int _)) hm (by decide +kernel) (pds_cons ha pds_nil he) hg (by decide) (by decide) he (by rfl)
theorem dpa_bl {K : PySem.W.Frag} {H : Hp} : ∀ {bs : List Bool} {vs : List V}, DpAll K H vs (bs.map .bool) → vs = bs.map V.bl
  | [], _, h => by
    cases h
    rfl
  | b :: bs, _, h => by
    cases h with
    | cons x y =>
      cases x
      rw [List.map_cons, dpa_bl y]
/-- all of a list of truths -/
theorem pd_all {p : Pos} {bs : List Bool} (hc : X.calm = true) (hm : X.mg "all" = none) (ha : PL X δ ω a (bs.map .bool)) (hg : Gl X "all" := by rfl)
    (he : starEach [a] X.env = (false, eval a X.env) :: starEach [] X.env := by rfl) : PD X δ ω (.Call (.Name "all" p) [a] [] pos) (.bool (bs.all id)) := fun σ H rl Q k =>
  we (pe_callB (cr_all hc) hg hm (by decide +kernel) (pa_cons pe_w pa_nil he) (he := he)) (ha σ H rl _ fun q vs H1 s1 h1 d1 => by
    have ev : vs = bs.map V.bl := dpa_bl d1
    subst ev
    exact ⟨q, bs, rfl, h1, k _ H1 s1 (.bl _)⟩)
/-- tuple of a list -/
theorem pd_tupleL {p : Pos} (hm : X.mg "tuple" = none) (ha : PL X δ ω a ds) (hg : Gl X "tuple" := by rfl) (he : starEach [a] X.env = (false, eval a X.env) :: starEach [] X.env := by rfl) : PD X δ ω (.Call (.Name "tuple" p) [a] [] pos) (.tuple ds) := fun σ H rl Q k =>
  we (pe_callTy call_tuple_of hg hm (by decide +kernel) (pa_cons pe_w pa_nil he) (he := he)) (ha σ H rl _ fun q vs H1 s1 h1 d1 =>
    ⟨q, vs, rfl, .inl ⟨h1, fun l hl => k _ _ (s1.trans (same_new hl)) (.tup (SqT.of (hid_of (new_out (there_mono rl.ro.there s1) hl) upd_same)) (dpam (hid_same (same_new hl)) d1))⟩⟩)
/-- isinstance of a built-in class -/
def kindD : PyData → String
  | .none => "NoneType"
  | .bool _ => "bool"
  | .int _ => "int"
  | .str _ => "str"
  | .list _ => "list"
  | .tuple _ => "tuple"
  | .dict _ => "dict"
theorem tyx_of {K : PySem.W.Frag} {H : Hp} {v : V} (h : Dp K H v d) : TyX K H v (.type (kindD d)) := by
  cases h with
  | non => exact .base .non
  | bl b => exact .base (.bl b)
  | int i => exact .base (.int i)
  | str x => exact .base (.str x)
  | lst h _ =>
    rcases h with (h | ⟨o, h⟩) | ⟨o, its, n, h, c, _⟩
    · exact .base (.lst h)
    · exact .base (.frz h)
    · exact .kList h c
  | tup h _ =>
    rcases h with (h | ⟨o, h⟩) | ⟨o, its, n, h, c, _⟩
    · exact .base (.tup h)
    · exact .fTuple h
    · exact .kTuple h c
theorem pd_isi {p p2 : Pos} {t : String} {x : Str} (hm : X.mg "isinstance" = none) (hmx : X.mg x = none) (hbx : bootBuiltins x = some (.type t)) (ha : PD X δ ω a d) (hk : kitB (kindD d) t = some k) (hg : Gl X "isinstance" := by rfl) (hgx : Gl X x := by rfl)
    (hnx : x ≠ "__name__" := by decide) (hdx : (x == ("__debug__" : Str)) = false := by decide)
    (he : starEach [a, .Name x p2] X.env = (false, eval a X.env) :: starEach [.Name x p2] X.env := by rfl) (he2 : starEach [.Name x p2] X.env = (false, eval (.Name x p2) X.env) :: starEach [] X.env := by rfl) (hpl : (backTo pos (starEach [.Name x p2] X.env)).any (·.1) = false := by rfl) :
    PD X δ ω (.Call (.Name "isinstance" p) [a, .Name x p2] [] pos) (.bool k) := fun σ H rl Q q =>
  we (pe_callB call_isi hg hm (by decide +kernel) (pa_cons pe_w (pa_cons (pe_bltn (v := .ty t) hgx hmx hbx rfl hnx hdx) pa_nil he2) he) (he := he) (hpl := hpl)) (ha σ H rl _ fun v H1 s1 d1 =>
    ⟨v, .ty t, _, _, k, rfl, .ty t, tyx_of (dpm hid_sub d1), kit_ty hk, q _ H1 s1 (.bl _)⟩)
end
end FP

namespace FP
open PySem PySem.Spec PyProof.Rows L2
/-! ### defs by data -/
inductive Rs where
  | ok (d : PyData)
  | er (C : Addr)
def RsQ (K : PySem.W.Frag) (ps : List Addr) (H : Hp) (Q : VK) (E : XK) : Rs → Prop
  | .ok d => ∀ v H', Same H H' → Dp K (hid ps H') v d → Q v H'
  | .er C => ∀ H', Same H H' → E (.ref C) none H'
def spD (K : PySem.W.Frag) (fr : List PyData → Rs → Prop) : Sp := fun vs H Q E => ∃ ps ds r, (∀ a ∈ ps, H a ≠ none) ∧ DpAll K (hid ps H) vs ds ∧ fr ds r ∧ RsQ K ps H Q E r
structure DefOk (P : Program) (w : World) (K : PySem.W.Frag) (mg : Str → Option Value) (base : Heap) (k : Nat) (x : Str) (fr : List PyData → Rs → Prop) : Prop where
  ex : ∃ f fd ps, FnOk P w K mg base (L2N.CX P w) k f fd ps (spD K fr) ∧ mg x = some (.ref f) ∧ PySem.W.keepIn K (.ref f) = true ∧ L2.Binds K fd ps []
theorem DefOk.mono {P : Program} {w : World} {K : PySem.W.Frag} {mg : Str → Option Value} {base : Heap} {j k : Nat} {x : Str} {fr : List PyData → Rs → Prop} (G : DefOk P w K mg base j x fr) (h : j ≤ k) : DefOk P w K mg base k x fr := by
  obtain ⟨f, fd, ps, F, m, kp, b⟩ := G.ex
  exact ⟨f, fd, ps, F.mono h, m, kp, b⟩
theorem passN {X : Cx} : Passes (L2N.CX X.prog X.w) X E0 := fun _ _ _ _ _ _ _ h => by
  obtain ⟨_, _, _, _, _, _, _, _, _, _, _, _, z⟩ := h
  cases z
section
variable {X : Cx} {δ : De} {ω : Om} {a b c e : Expr} {es r : List Expr} {d da db dc dz : PyData} {ds : List PyData} {pos p : Pos} {k : Nat} {x : Str} {fr : List PyData → Rs → Prop}
theorem pd_call (G : DefOk X.prog X.w X.K X.mg X.base k x fr) (hr : Room k X.A) (ha : PDs X δ ω (a :: es) ds) (hf : fr ds (.ok d)) (hg : Gl X x := by rfl) (hdb : (x == ("__debug__" : Str)) = false := by decide)
    (he : starEach (a :: es) X.env = (false, eval a X.env) :: starEach es X.env := by rfl) (hpl : (backTo pos (starEach es X.env)).any (·.1) = false := by rfl) : PD X δ ω (.Call (.Name x p) (a :: es) [] pos) d := fun σ H rl Q q => by
  obtain ⟨f, fd, ps, F, m, kp, b⟩ := G.ex
  refine we (pe_call F hr hg m kp b .nil passN pa_w hdb he hpl) (ha σ H rl _ fun vs H1 s1 d1 => ?_)
  show spD X.K fr (vs ++ []) H1 Q E0
  rw [List.append_nil]
  exact ⟨ads ω, ds, .ok d, there_mono rl.ro.there s1, d1, hf, fun v H' s' d' => q v H' (s1.trans s') d'⟩
theorem pd_call0 (G : DefOk X.prog X.w X.K X.mg X.base k x fr) (hr : Room k X.A) (hf : fr [] (.ok d)) (hg : Gl X x := by rfl) (hdb : (x == ("__debug__" : Str)) = false := by decide) : PD X δ ω (.Call (.Name x p) [] [] pos) d := fun σ H rl Q q => by
  obtain ⟨f, fd, ps, F, m, kp, b⟩ := G.ex
  exact we (pe_call0 F hr hg m kp b .nil passN hdb) ⟨ads ω, [], .ok d, rl.ro.there, .nil, hf, fun v H' s' d' => q v H' s' d'⟩
end

/-! ### what is walked -/
/-- what stays in a loop -/
def Pt (T : List (Addr × Str)) (o : HO) : Prop := T = [] ∨ ∀ ps, o ≠ .tbl ps
def Ke (T : List (Addr × Str)) (G H : Hp) : Prop := ∀ b o, G b = some o → Pt T o → H b = some o
theorem ke_same {T : List (Addr × Str)} {G H : Hp} (h : Same G H) : Ke T G H := fun b o e _ => h b o e
theorem pt_tup {T : List (Addr × Str)} {xs : List V} : Pt T (.tup xs) := .inr fun _ z => by cases z
theorem pt_lst {T : List (Addr × Str)} {xs : List V} : Pt T (.lst xs) := .inr fun _ z => by cases z
theorem pt_frz {T : List (Addr × Str)} {o : Obj} {u : HO} : Pt T (.frz o u) := .inr fun _ z => by cases z
theorem ke_sqt {T : List (Addr × Str)} {K : PySem.W.Frag} {G H : Hp} {a : Addr} {xs : List V} (e : Ke T G H) (h : SqT K G a xs) : SqT K H a xs := by
  rcases h with (h | ⟨o, h⟩) | h
  · exact .inl (.inl (e _ _ h pt_tup))
  · exact .inl (.inr ⟨o, e _ _ h pt_frz⟩)
  · exact .inr h
theorem ke_sql {T : List (Addr × Str)} {K : PySem.W.Frag} {G H : Hp} {a : Addr} {xs : List V} (e : Ke T G H) (h : SqL K G a xs) : SqL K H a xs := by
  rcases h with (h | ⟨o, h⟩) | h
  · exact .inl (.inl (e _ _ h pt_lst))
  · exact .inl (.inr ⟨o, e _ _ h pt_frz⟩)
  · exact .inr h
mutual
theorem dp_ke {T : List (Addr × Str)} {K : PySem.W.Frag} {H H' : Hp} (e : Ke T H H') : ∀ (d : PyData) (v : V), Dp K H v d → Dp K H' v d
  | .none, _, h => by
    cases h
    exact .non
  | .bool b, _, h => by
    cases h
    exact .bl b
  | .int i, _, h => by
    cases h
    exact .int i
  | .str x, _, h => by
    cases h
    exact .str x
  | .list ds, _, h => by
    cases h with
    | lst hs ha => exact .lst (ke_sql e hs) (dpa_ke e ds _ ha)
  | .tuple ds, _, h => by
    cases h with
    | tup hs ha => exact .tup (ke_sqt e hs) (dpa_ke e ds _ ha)
  | .dict kvs, _, h => by cases h
theorem dpa_ke {T : List (Addr × Str)} {K : PySem.W.Frag} {H H' : Hp} (e : Ke T H H') : ∀ (ds : List PyData) (vs : List V), DpAll K H vs ds → DpAll K H' vs ds
  | [], _, h => by
    cases h
    exact .nil
  | d :: ds, _, h => by
    cases h with
    | cons a b => exact .cons (dp_ke e d _ a) (dpa_ke e ds _ b)
end
def Wk (K : PySem.W.Frag) (G : Hp → Prop) (B : Hp) (J : It) (items : List PyData) : Prop :=
  ∀ H', G H' → (∀ i, i < items.length → J.go i H') ∧ J.stop items.length H' ∧ ∀ i x H'', i < items.length → J.yld i H' x H'' → H'' = H' ∧ ∃ d, items[i]? = some d ∧ Dp K B x d
def PWs (X : Cx) (δ : De) (ω : Om) (tg iter : Expr) (items : List PyData) : Prop :=
  ∃ wi, PI X tg iter wi ∧ ∀ σ H, Rl X.K H σ δ ω → ∀ R : It → Hp → Prop, (∀ J H', Same H H' → Wk X.K (Same H') (hid (ads ω) H') J items → R J H') → wi σ H R
def PWk (X : Cx) (δ : De) (ω : Om) (tg iter : Expr) (items : List PyData) : Prop :=
  ∃ wi, PI X tg iter wi ∧ ∀ σ H, Rl X.K H σ δ ω → ∀ R : It → Hp → Prop, (∀ J H', Same H H' → (∀ T, Wk X.K (Ke T (hid (ads ω) H')) (hid (ads ω) H') J items) → R J H') → wi σ H R
section
variable {X : Cx} {δ : De} {ω : Om} {a b c e tg iter : Expr} {es r : List Expr} {d da db dc dz : PyData} {ds : List PyData} {pos p : Pos} {k : Nat} {x : Str}
theorem PWk.ws (h : PWk X δ ω tg iter ds) : PWs X δ ω tg iter ds := by
  obtain ⟨wi, h1, h2⟩ := h
  exact ⟨wi, h1, fun σ H rl R k => h2 σ H rl R fun J H' s w => k J H' s fun H2 s2 => w [] H2 (ke_same ((hid_same s2).trans hid_sub))⟩
theorem wk_tup (h : PD X δ ω iter (.tuple ds)) : PWk X δ ω tg iter ds := by
  refine ⟨iTup X.K (wpe X iter), pi_tup pe_w, fun σ H rl R k => h σ H rl _ fun v H1 s1 d1 => ?_⟩
  cases d1 with
  | tup h1 h2 =>
    rename_i q vs
    refine ⟨q, rfl, ⟨vs, same_sqt hid_sub h1⟩, k _ H1 s1 fun T H2 g => ⟨fun i hi => ?_, ⟨vs, ke_sqt g h1, Nat.le_of_eq (dpa_len h2)⟩, fun i y H3 _ z => ?_⟩⟩
    · obtain ⟨y, e1, _⟩ := dpa_get h2 (List.getElem?_eq_getElem hi)
      exact ⟨vs, y, ke_sqt g h1, e1⟩
    · obtain ⟨e1, e2⟩ := z
      exact ⟨e1, dpa_get' h2 (e2 vs (ke_sqt g h1))⟩
theorem wk_lst (h : PD X δ ω iter (.list ds)) : PWk X δ ω tg iter ds := by
  refine ⟨iList X.K (wpe X iter), pi_list pe_w, fun σ H rl R k => h σ H rl _ fun v H1 s1 d1 => ?_⟩
  cases d1 with
  | lst h1 h2 =>
    rename_i q vs
    refine ⟨q, rfl, ⟨vs, hid_sub.seq h1⟩, k _ H1 s1 fun T H2 g => ⟨fun i hi => ?_, ⟨vs, ke_sql g h1, Nat.le_of_eq (dpa_len h2)⟩, fun i y H3 _ z => ?_⟩⟩
    · obtain ⟨y, e1, _⟩ := dpa_get h2 (List.getElem?_eq_getElem hi)
      exact ⟨vs, y, ke_sql g h1, e1⟩
    · obtain ⟨e1, e2⟩ := z
      exact ⟨e1, dpa_get' h2 (e2 vs (ke_sql g h1))⟩
theorem ws_lst (h : PL X δ ω iter ds) : PWs X δ ω tg iter ds := by
  refine ⟨iList X.K (wpe X iter), pi_list pe_w, fun σ H rl R k => h σ H rl _ fun q vs H1 s1 h1 h2 => ?_⟩
  refine ⟨q, rfl, ⟨vs, h1⟩, k _ H1 s1 fun H2 g => ⟨fun i hi => ?_, ⟨vs, g.seq h1, Nat.le_of_eq (dpa_len h2)⟩, fun i y H3 _ z => ?_⟩⟩
  · obtain ⟨y, e1, _⟩ := dpa_get h2 (List.getElem?_eq_getElem hi)
    exact ⟨vs, y, g.seq h1, e1⟩
  · obtain ⟨e1, e2⟩ := z
    exact ⟨e1, dpa_get' h2 (e2 vs (g.seq h1))⟩
def signsD (z : Str) : List PyData := z.cps.toList.map fun c => .str ⟨#[c]⟩
theorem wk_str {z : Str} (h : PD X δ ω iter (.str z)) : PWk X δ ω tg iter (signsD z) := by
  refine ⟨iStr (wpe X iter), pi_str pe_w, fun σ H rl R k => h σ H rl _ fun v H1 s1 d1 => ?_⟩
  cases d1
  have hl : (signsD z).length = z.cps.size := by
    unfold signsD
    rw [List.length_map, Array.length_toList]
  refine ⟨z, rfl, k _ H1 s1 fun T H2 g => ⟨fun i hi => ?_, ?_, fun i y H3 hi w => ?_⟩⟩
  · show i < z.cps.size
    rw [← hl]
    exact hi
  · show z.cps.size ≤ (signsD z).length
    rw [hl]
    exact Nat.le_refl _
  · obtain ⟨e1, c, e2, e3⟩ := w
    subst e3
    refine ⟨e1, .str ⟨#[c]⟩, ?_, .str _⟩
    unfold signsD
    rw [List.getElem?_map, Array.getElem?_toList, e2]
    rfl
def rangeD (lo : Int) (n : Nat) : List PyData := (List.range n).map fun (i : Nat) => .int (lo + (i : Int))
theorem rangeD_len (lo : Int) (n : Nat) : (rangeD lo n).length = n := by
  unfold rangeD
  rw [List.length_map, List.length_range]
theorem rangeD_get {lo : Int} {n i : Nat} (h : i < n) : (rangeD lo n)[i]? = some (.int (lo + (i : Int))) := by
  unfold rangeD
  rw [List.getElem?_map, List.getElem?_range h]
  rfl
theorem wk_range1 {j : Int} (hm : X.mg "range" = none) (ha : PD X δ ω a (.int j)) (hj : 0 ≤ j ∧ j ≤ 100000) (hg : Gl X "range" := by rfl) (hs : starEach [a] X.env = [(false, eval a X.env)] := by rfl) (he : starEach [a] X.env = (false, eval a X.env) :: starEach [] X.env := by rfl) :
    PWk X δ ω tg (.Call (.Name "range" p) [a] [] pos) (rangeD 0 j.toNat) := by
  refine ⟨_, pi_range1 hg hm (pa_cons pe_w pa_nil he) hs, fun σ H rl R k => ha σ H rl _ fun v H1 s1 d1 => ?_⟩
  cases d1
  refine ⟨j, rfl, by omega, by omega, k _ H1 s1 fun T H2 g => ⟨fun i hi => ?_, ?_, fun i y H3 hi w => ?_⟩⟩
  · rw [rangeD_len] at hi
    exact hi
  · show j.toNat ≤ (rangeD 0 j.toNat).length
    rw [rangeD_len]
    exact Nat.le_refl _
  · obtain ⟨e1, e2⟩ := w
    subst e2
    rw [rangeD_len] at hi
    exact ⟨e1, _, rangeD_get hi, .int _⟩

/-! ### comprehensions -/
/-- the list under way, as an object of one's own -/
def omD (ω : Om) (D : Addr) (o : Od) : Om := ⟨ω.ps, (D, o) :: ω.os⟩
theorem ads_omD {ω : Om} {D : Addr} {o : Od} {b : Addr} : b ∈ ads (omD ω D o) ↔ b = D ∨ b ∈ ads ω := by
  show b ∈ ω.ps ++ D :: ω.os.map (·.1) ↔ b = D ∨ b ∈ ω.ps ++ ω.os.map (·.1)
  simp only [List.mem_append, List.mem_cons]
  constructor
  · rintro (h | h | h)
    · exact .inr (.inl h)
    · exact .inl h
    · exact .inr (.inr h)
  · rintro (h | h | h)
    · exact .inr (.inl h)
    · exact .inl h
    · exact .inr (.inr h)
theorem hid_omD {ω : Om} {D : Addr} {o : Od} {H : Hp} : Same (hid (ads (omD ω D o)) H) (hid (ads ω) H) := hid_more fun b h => ads_omD.mpr (.inr h)
/-- from a heap that has no D to one that has it: what was seen is seen -/
theorem hid_in {ω : Om} {D : Addr} {o : Od} {G H : Hp} (hD : G D = none) (e : Same G H) : Same (hid (ads ω) G) (hid (ads (omD ω D o)) H) := fun b u h => by
  obtain ⟨n, e2⟩ := hid_out h
  refine hid_of (fun z => ?_) (e b u e2)
  rcases ads_omD.mp z with q | q
  · rw [q, hD] at e2
    cases e2
  · exact n q
theorem Rl.omD {K : PySem.W.Frag} {G H : Hp} {σ : L2.St} {δ : De} {D : Addr} {xs : List PyData} {vs : List V} (rl : Rl K G σ δ ω) (hD : G D = none) (e : Same G H) (hv : H D = some (.lst vs)) (hx : DpAll K (hid (ads (omD ω D (.lst (xs.map .im)))) H) vs xs) :
    Rl K H σ δ (omD ω D (.lst (xs.map .im))) := by
  refine ⟨rl.len, fun i r h => ?_, ?_, ?_, there_mono rl.ro.th e⟩
  · obtain ⟨v, h1, h2⟩ := rl.sl i r h
    exact ⟨v, h1, sdv_mono (hid_in hD e) h2⟩
  · intro a o h
    rcases List.mem_cons.mp h with q | q
    · cases q
      exact ⟨vs, hv, im_dpa hx⟩
    · exact odv_mono (hid_in hD e) e (rl.ro.ob a o q)
  · show (D :: ω.os.map (·.1)).Nodup
    refine List.nodup_cons.mpr ⟨fun z => ?_, rl.ro.nd⟩
    exact rl.ro.there D (List.mem_append_right _ z) hD
/-- a write at D leaves what is seen beside it -/
theorem hid_upd {ω : Om} {D : Addr} {o o' : Od} {u : HO} {H : Hp} : Same (hid (ads (FP.omD ω D o)) H) (hid (ads (FP.omD ω D o')) (upd H D u)) := fun b x h => by
  obtain ⟨n, e⟩ := hid_out h
  have nb : b ≠ D := fun z => n (ads_omD.mpr (.inl z))
  refine hid_of (fun z => n ?_) (by rw [upd_ne nb]; exact e)
  rcases ads_omD.mp z with q | q
  · exact ads_omD.mpr (.inl q)
  · exact ads_omD.mpr (.inr q)
theorem same_upd_new {G H : Hp} {D : Addr} {u : HO} (hD : G D = none) (e : Same G H) : Same G (upd H D u) := fun b x h => by
  rw [upd_ne (ne_of_none h hD)]
  exact e b x h
/-- the comprehension's reading: no test -/
theorem lc_data {σ : L2.St} {H : Hp} {Q : VK} {wi : TI} {j : Nat} {te : TE} {items ys : List PyData} (rl : Rl X.K H σ δ ω)
    (hw : ∀ R : It → Hp → Prop, (∀ J H', Same H H' → Wk X.K (Same H') (hid (ads ω) H') J items → R J H') → wi σ H R) (hl : ys.length = items.length) (hz : items.length ≤ 10000)
    (he : ∀ (i : Nat) (d y : PyData), items[i]? = some d → ys[i]? = some y → ∀ D o σ' H', Rl X.K H' σ' (δ.set j (some (.im d))) (omD ω D o) → ∀ Q : VK, (∀ v H2, Same H' H2 → Dp X.K (hid (ads (omD ω D o)) H2) v y → Q v H2) → te σ' H' Q)
    (k : ∀ p vs H', Same H H' → H p = none → H' p = some (.lst vs) → DpAll X.K (hid (p :: ads ω) H') vs ys → Q (.ref p) H') :
    tLc wi (gName j) tYes te [j] σ H Q := by
  refine hw _ fun J H1 s1 w => fun D hD => ?_
  have rl1 := rl.mono s1
  refine ⟨fun i m H2 => m = items.length - i ∧ i ≤ items.length ∧ Same H1 H2 ∧ ∃ vs, H2 D = some (.lst vs) ∧ DpAll X.K (hid (ads (FP.omD ω D (.lst ((ys.take i).map .im)))) H2) vs (ys.take i), ⟨items.length, by omega, Nat.zero_le _, same_new hD, [], upd_same, ?_⟩, ?_⟩
  · rw [List.take_zero]
    exact .nil
  rintro i m H2 ⟨em, hi, s2, vs, hv, dv⟩
  obtain ⟨go, stop, yld⟩ := w H2 s2
  by_cases hlt : i < items.length
  · refine .inr ⟨go i hlt, fun H3 => Same H1 H3 ∧ ∃ vs, H3 D = some (.lst vs) ∧ DpAll X.K (hid (ads (FP.omD ω D (.lst ((ys.take (i + 1)).map .im)))) H3) vs (ys.take (i + 1)), fun H3 ⟨s3, h3⟩ => ⟨items.length - (i + 1), by omega, rfl, hlt, s3, h3⟩, fun x H3 hy => ?_⟩
    obtain ⟨e3, d, ed, dx⟩ := yld i x H3 hlt hy
    subst e3
    have hys : i < ys.length := by omega
    have ey : ys[i]? = some ys[i] := List.getElem?_eq_getElem hys
    show wipe (((wipe σ [j])).set j (some x)) [j] = wipe σ [j] ∧ _
    have ew : wipe σ [j] = σ.set j none := rfl
    refine ⟨?_, ?_⟩
    · show (((σ.set j none).set j (some x)).set j none) = σ.set j none
      rw [List.set_set, List.set_set]
    show te (((wipe σ [j])).set j (some x)) H3 _
    rw [ew, List.set_set]
    have rl3 := (rl1.omD hD s2 hv dv)
    have rl4 := rl3.set (i := j) (x := .im d) (v := x) (dpm (hid_in hD s2) dx)
    refine he i d ys[i] ed ey D _ _ _ rl4 _ fun v H4 s4 d4 => ⟨vs, s4 D _ hv, ?_, same_upd_new hD (s2.trans s4), vs ++ [v], upd_same, ?_⟩
    · rw [dpa_len dv, List.length_take]
      refine Nat.lt_of_le_of_lt (Nat.min_le_left _ _) (Nat.lt_of_lt_of_le hlt (Nat.le_trans hz ?_))
      rw [sizeLine_eq]
      decide
    · rw [List.take_add_one, ey]
      exact dpa_app (dpam hid_upd (dpam (hid_same s4) dv)) (.cons (dpm hid_upd d4) .nil)
  · have e : i = items.length := by omega
    subst e
    refine .inl ⟨stop, ?_⟩
    rw [List.take_of_length_le (by omega)] at dv
    exact k D vs H2 (s1.trans s2) (s1.free hD) hv (dpam (hid_more fun b h => ads_omD.mpr (List.mem_cons.mp h)) dv)
/-- [elt for tg in iter] -/
def tBlk (X : Cx) (scope : Scope) (elt : Expr) : TE := fun σ H Q => ∀ (s : Shared) (H0 : Hp) (C : Addr) (cl : List (Str × Addr)) (fp : List Addr), wpe (X.blk s H0 scope (compEnvC scope cl C X.env) fp) elt σ H Q
theorem pe_blk {scope : Scope} {elt : Expr} (s : Shared) (H0 : Hp) (C : Addr) (cl : List (Str × Addr)) (fp : List Addr) : PE (X.blk s H0 scope (compEnvC scope cl C X.env) fp) elt (tBlk X scope elt) := ⟨fun pins s' σ H Q I h => pe_w.run pins s' σ H Q I (h s H0 C cl fp)⟩
theorem pn_lc {elt : Expr} {scope : Scope} {y : Str} {j : Nat} {items ys : List PyData} (hc : X.calm = true) (hN : X.N.Nodup) (hw : PWs X δ ω tg iter items) (hl : ys.length = items.length) (ok : BlkOk X.N X.env.scope scope [(y, j)])
    (hg : ∀ (s : Shared) (H : Hp) (C : Addr) (cl : List (Str × Addr)) (fp : List Addr), PG (X.blk s H scope (compEnvC scope cl C X.env) fp) tg (gName j))
    (he : ∀ (i : Nat) (d y : PyData), items[i]? = some d → ys[i]? = some y → ∀ D o (s : Shared) (H : Hp) (C : Addr) (cl : List (Str × Addr)) (fp : List Addr), PD (X.blk s H scope (compEnvC scope cl C X.env) fp) (δ.set j (some (.im d))) (omD ω D o) elt y)
    (hz : items.length ≤ 10000) (hs : ∀ x, foldedSetIterable iter X.env x = pure x := by intro _; rfl) : PN X δ ω (.ListComp elt [⟨tg, iter, [], 0⟩] scope pos) ys := fun σ H rl Q k => by
  obtain ⟨wi, h1, h2⟩ := hw
  refine we (pe_lc (own := [(y, j)]) hc hN h1 ok hg (fun _ _ _ _ _ => pts_nil) (fun s H0 C cl fp => pe_blk s H0 C cl fp) hs) ?_
  exact lc_data rl (fun R kk => h2 σ H rl R kk) hl hz (fun i d y hd hy D o σ' H' rl' Q' k' s H0 C cl fp => he i d y hd hy D o s H0 C cl fp σ' H' rl' Q' k') k
end
end FP

namespace FP
open PySem PySem.Spec PyProof.Rows L2
/-! ### statements -/
abbrev osA (ω : Om) : List Addr := ω.os.map (·.1)
structure Stp (T : List (Addr × Str)) (ω ω' : Om) (H H' : Hp) : Prop where
  keep : ∀ b o, H b = some o → b ∉ osA ω → Pt T o → H' b = some o
  new : ∀ a, a ∈ osA ω' → a ∈ osA ω ∨ ∀ o, H a = some o → ¬ Pt T o
  ps : ω'.ps = ω.ps
  tab : LamX.Tabs T H → LamX.Tabs T H'
theorem Stp.of {T : List (Addr × Str)} {ω : Om} {H H' : Hp} (s : Same H H') : Stp T ω ω H H' := ⟨fun b o h _ _ => s b o h, fun a h => .inl h, rfl, fun t => t.ext s⟩
theorem Stp.refl {T : List (Addr × Str)} {ω : Om} {H : Hp} : Stp T ω ω H H := .of (Same.refl H)
theorem Stp.trans {T : List (Addr × Str)} {ω ω1 ω2 : Om} {H H1 H2 : Hp} (a : Stp T ω ω1 H H1) (b : Stp T ω1 ω2 H1 H2) : Stp T ω ω2 H H2 := by
  refine ⟨fun c o h n p => ?_, fun c h => ?_, b.ps.trans a.ps, fun t => b.tab (a.tab t)⟩
  · refine b.keep c o (a.keep c o h n p) (fun z => ?_) p
    rcases a.new c z with q | q
    · exact n q
    · exact q o h p
  · rcases b.new c h with q | q
    · exact a.new c q
    · by_cases hc : c ∈ osA ω
      · exact .inl hc
      · exact .inr fun o h p => q o (a.keep c o h hc p) p
/-- what was seen is seen behind a step -/
theorem Stp.seen {T : List (Addr × Str)} {ω ω' : Om} {H H' : Hp} (s : Stp T ω ω' H H') : Ke T (hid (ads ω) H) (hid (ads ω') H') := fun b o h p => by
  obtain ⟨n, e⟩ := hid_out h
  have n2 : b ∉ osA ω := fun z => n (List.mem_append_right _ z)
  refine hid_of (fun z => ?_) (s.keep b o e n2 p)
  rcases List.mem_append.mp z with q | q
  · rw [s.ps] at q
    exact n (List.mem_append_left _ q)
  · rcases s.new b q with q | q
    · exact n2 q
    · exact q o e p
inductive Out where
  | nx (δ : De) (ω : Om)
  | rt (r : Sd) (ω : Om)
  | ex (C : Addr) (ω : Om)
  | bk (δ : De) (ω : Om)
  | ct (δ : De) (ω : Om)
structure Kt (X : Cx) (W : WX) (T : List (Addr × Str)) (ω : Om) (H : Hp) (D : Ends) (R : Out → Prop) : Prop where
  nx : ∀ δ' ω' σ' H', R (.nx δ' ω') → Stp T ω ω' H H' → Rl X.K H' σ' δ' ω' → D.nx σ' H'
  rt : ∀ r ω' v H', R (.rt r ω') → Stp T ω ω' H H' → Ro X.K H' ω' → SdV X.K (hid (ads ω') H') r v → D.rt v H'
  ex : ∀ C ω' σ' H', R (.ex C ω') → Stp T ω ω' H H' → Ro X.K H' ω' → W (.ref C) none σ' H'
  bk : ∀ δ' ω' σ' H', R (.bk δ' ω') → Stp T ω ω' H H' → Rl X.K H' σ' δ' ω' → D.bk σ' H'
  ct : ∀ δ' ω' σ' H', R (.ct δ' ω') → Stp T ω ω' H H' → Rl X.K H' σ' δ' ω' → D.ct σ' H'
theorem Kt.step {X : Cx} {W : WX} {T : List (Addr × Str)} {ω ω1 : Om} {H H1 : Hp} {D : Ends} {R : Out → Prop} (k : Kt X W T ω H D R) (s : Stp T ω ω1 H H1) : Kt X W T ω1 H1 D R :=
  ⟨fun δ' ω' σ' H' r q l => k.nx δ' ω' σ' H' r (s.trans q) l, fun r ω' v H' h q l z => k.rt r ω' v H' h (s.trans q) l z, fun C ω' σ' H' h q l => k.ex C ω' σ' H' h (s.trans q) l, fun δ' ω' σ' H' r q l => k.bk δ' ω' σ' H' r (s.trans q) l, fun δ' ω' σ' H' r q l => k.ct δ' ω' σ' H' r (s.trans q) l⟩
def S1 (X : Cx) (W : WX) (T : List (Addr × Str)) (st : Stmt) (δ : De) (ω : Om) (R : Out → Prop) : Prop := ∀ σ H D, Rl X.K H σ δ ω → LamX.Tabs T H → Kt X W T ω H D R → wps X st D σ H
def SD (X : Cx) (W : WX) (T : List (Addr × Str)) (ss : List Stmt) (δ : De) (ω : Om) (R : Out → Prop) : Prop := ∀ σ H D, Rl X.K H σ δ ω → LamX.Tabs T H → Kt X W T ω H D R → wpss X ss D σ H
/-- an expression that may write, or raise -/
def EX (X : Cx) (W : WX) (T : List (Addr × Str)) (e : Expr) (δ : De) (ω : Om) (R : Out → Prop) : Prop := ∀ σ H, Rl X.K H σ δ ω → LamX.Tabs T H → ∀ Q : VK,
  (∀ r ω' v H', R (.rt r ω') → Stp T ω ω' H H' → Rl X.K H' σ δ ω' → SdV X.K (hid (ads ω') H') r v → Q v H') → (∀ C ω' σ' H', R (.ex C ω') → Stp T ω ω' H H' → Ro X.K H' ω' → W (.ref C) none σ' H') → wpe X e σ H Q
/-- then the rest -/
def Nxt (X : Cx) (W : WX) (T : List (Addr × Str)) (ss : List Stmt) (R : Out → Prop) : Out → Prop
  | .nx δ ω => SD X W T ss δ ω R
  | o => R o
/-- the value goes to what follows -/
def Val1 (V : Sd → Om → Prop) (R : Out → Prop) : Out → Prop
  | .rt r ω => V r ω
  | .ex C ω => R (.ex C ω)
  | _ => False
section
variable {X : Cx} {W : WX} {T : List (Addr × Str)} {δ : De} {ω : Om} {a b c e tg iter : Expr} {es r : List Expr} {d da db dc dz : PyData} {ds : List PyData} {pos p : Pos} {k : Nat} {x : Str} {R : Out → Prop} {st : Stmt} {ss sa sb : List Stmt}
theorem sd_nil (h : R (.nx δ ω)) : SD X W T [] δ ω R := fun σ H D rl t k => wss pss_nil (k.nx δ ω σ H h .refl rl)
theorem sd_cons (h : S1 X W T st δ ω (Nxt X W T ss R)) : SD X W T (st :: ss) δ ω R := fun σ H D rl t k =>
  wss (pss_cons ps_w pss_w) (h σ H _ rl t ⟨fun δ' ω' σ' H' z q l => z σ' H' D l (q.tab t) (k.step q), k.rt, k.ex, k.bk, k.ct⟩)
theorem PD.ex (h : PD X δ ω e d) (hR : R (.rt (.im d) ω)) : EX X W T e δ ω R := fun σ H rl t Q q _ => h σ H rl Q fun v H' s dv => q _ ω v H' hR (.of s) (rl.mono s) dv
theorem s1_set (i : Nat) {x : Str} {pos' : Pos} (he : EX X W T e δ ω (Val1 (fun r ω' => R (.nx (δ.set i (some r)) ω')) R)) (hN : X.N.Nodup) (hi : X.N[i]? = some x := by rfl) (hx : Loc X.env.scope x := by first | exact Or.inl rfl | exact Or.inr rfl) (hs : swapsWith e (some (.Name x pos')) pos.line X.env = pure false := by rfl)
    (hf : X.fn x = true ∨ X.env.scope.names.lookup x = some .local := by first | exact .inl rfl | exact .inr rfl | assumption) : S1 X W T (.Assign [.Name x pos'] e pos) δ ω R := fun σ H D rl t k =>
  ws (ps_set hN hi hx pe_w hs hf) (he σ H rl t _ (fun r ω' v H' z q l dv => k.nx _ ω' _ H' z q (l.set dv)) (fun C ω' σ' H' z q l => k.ex C ω' σ' H' z q l))
theorem sd_set (i : Nat) {x : Str} {pos' : Pos} (he : PD X δ ω e d) (hk : SD X W T ss (δ.set i (some (.im d))) ω R) (hN : X.N.Nodup) (hi : X.N[i]? = some x := by rfl) (hx : Loc X.env.scope x := by first | exact Or.inl rfl | exact Or.inr rfl) (hs : swapsWith e (some (.Name x pos')) pos.line X.env = pure false := by rfl)
    (hf : X.fn x = true ∨ X.env.scope.names.lookup x = some .local := by first | exact .inl rfl | exact .inr rfl | assumption) : SD X W T (.Assign [.Name x pos'] e pos :: ss) δ ω R :=
  sd_cons (s1_set i (he.ex (show Val1 _ _ _ from hk)) hN hi hx hs hf)
/-- a new list of one's own -/
theorem sd_own (i : Nat) {x : Str} {pos' : Pos} (he : PN X δ ω e ds) (hk : ∀ D, SD X W T ss (δ.set i (some (.ad D))) (omD ω D (.lst (ds.map .im))) R) (hN : X.N.Nodup) (hi : X.N[i]? = some x := by rfl) (hx : Loc X.env.scope x := by first | exact Or.inl rfl | exact Or.inr rfl) (hs : swapsWith e (some (.Name x pos')) pos.line X.env = pure false := by rfl)
    (hf : X.fn x = true ∨ X.env.scope.names.lookup x = some .local := by first | exact .inl rfl | exact .inr rfl | assumption) : SD X W T (.Assign [.Name x pos'] e pos :: ss) δ ω R :=
  sd_cons fun σ H D rl t k => ws (ps_set hN hi hx pe_w hs hf) (he σ H rl _ fun q vs H' s n hv dv => by
    have nq := new_out rl.ro.there n
    have rl2 : Rl X.K H' σ δ (omD ω q (.lst (ds.map .im))) := rl.omD n s hv (dpam (hid_more fun b h => List.mem_cons.mpr (ads_omD.mp h)) dv)
    exact k.nx _ _ _ H' (hk q) ⟨fun b o h _ _ => s b o h, fun a h => by
      rcases List.mem_cons.mp (show a ∈ q :: ω.os.map (·.1) from h) with z | z
      · exact .inr fun o ho => by
          rw [z, n] at ho
          cases ho
      · exact .inl z, rfl, fun t => t.ext s⟩ (rl2.set (x := .ad q) (v := .ref q) rfl))
/-- x = [elt for tg in iter], on one line, x a local -/
theorem sd_setLc (i : Nat) {x : Str} {py cpos : Pos} {elt : Expr} {scope : Scope} {y : Str} {j : Nat} {items ys : List PyData} (hc : X.calm = true) (hN : X.N.Nodup) (hw : PWs X δ ω tg iter items) (hl : ys.length = items.length) (ok : BlkOk X.N X.env.scope scope [(y, j)])
    (hg : ∀ (s : Shared) (H : Hp) (C : Addr) (cl : List (Str × Addr)) (fp : List Addr), PG (X.blk s H scope (compEnvC scope cl C X.env) fp) tg (gName j))
    (he : ∀ (i : Nat) (d y : PyData), items[i]? = some d → ys[i]? = some y → ∀ D o (s : Shared) (H : Hp) (C : Addr) (cl : List (Str × Addr)) (fp : List Addr), PD (X.blk s H scope (compEnvC scope cl C X.env) fp) (δ.set j (some (.im d))) (omD ω D o) elt y)
    (hz : items.length ≤ 10000) (hsw : swapsWith (.ListComp elt [⟨tg, iter, [], 0⟩] scope cpos) (some (.Name x py)) pos.line X.env = pure true) (hk : SD X W T ss (δ.set i (some (.im (.list ys)))) ω R)
    (hy : X.N[i]? = some x := by rfl) (hyl : X.env.scope.names.lookup x = some .local := by rfl) (hs : ∀ x, foldedSetIterable iter X.env x = pure x := by intro _; rfl) : SD X W T (.Assign [.Name x py] (.ListComp elt [⟨tg, iter, [], 0⟩] scope cpos) pos :: ss) δ ω R := by
  obtain ⟨wi, h1, h2⟩ := hw
  refine sd_cons fun σ H D rl t k => ws (ps_setLc (i := i) (own := [(y, j)]) hc hN hy hyl hsw h1 ok hg (fun _ _ _ _ _ => pts_nil) (fun s H0 C cl fp => pe_blk s H0 C cl fp) hs) ?_
  refine lc_data rl (fun R kk => h2 σ H rl R kk) hl hz (fun i d y hd hy D o σ' H' rl' Q' k' s H0 C cl fp => he i d y hd hy D o s H0 C cl fp σ' H' rl' Q' k') (fun p vs H' s n hv dv => ?_)
  exact k.nx _ ω _ H' hk (.of s) ((rl.mono s).set (x := .im (.list ys)) (v := .ref p) (.lst (SqL.of (hid_of (new_out rl.ro.there n) hv)) (dpam hid_cons dv)))
theorem sd_ret (he : PD X δ ω e d) (hR : R (.rt (.im d) ω)) : SD X W T (.Return (some e) pos :: ss) δ ω R :=
  sd_cons fun σ H D rl t k => ws (ps_ret pe_w) (he σ H rl _ fun v H' s dv => k.rt _ ω v H' hR (.of s) (rl.ro.mono s) dv)
theorem sd_retX (he : EX X W T e δ ω R) : SD X W T (.Return (some e) pos :: ss) δ ω R :=
  sd_cons fun σ H D rl t k => ws (ps_ret pe_w) (he σ H rl t _ (fun r ω' v H' z q l dv => k.rt r ω' v H' z q l.ro dv) (fun C ω' σ' H' z q l => k.ex C ω' σ' H' z q l))
/-- a list of one's own is handed back -/
theorem sd_retL (he : PL X δ ω e ds) (hR : R (.rt (.im (.list ds)) ⟨ω.ps, []⟩)) (hps : ∀ p vs H, Ro X.K H ω → SqL X.K H p vs → SqL X.K (hid ω.ps H) p vs) : SD X W T (.Return (some e) pos :: ss) δ ω R :=
  sd_cons fun σ H D rl t k => ws (ps_ret pe_w) (he σ H rl _ fun q vs H' s hv dv => k.rt _ ⟨ω.ps, []⟩ (.ref q) H' hR ⟨fun b o h _ _ => s b o h, fun a h => (List.not_mem_nil h).elim, rfl, fun t => t.ext s⟩ (Ro.nil (there_mono rl.ro.th s)) (by
    show Dp X.K (hid (ads ⟨ω.ps, []⟩) H') (.ref q) (.list ds)
    rw [ads_nil]
    exact .lst (hps q vs H' (rl.ro.mono s) hv) (dpam (hid_more fun b h => List.mem_append_left _ h) dv)))
theorem sd_expr (he : PD X δ ω e d) (hk : SD X W T ss δ ω R) (hs : swapsWith e none pos.line X.env = pure false := by rfl) : SD X W T (.Expr e pos :: ss) δ ω R :=
  sd_cons fun σ H D rl t k => ws (ps_expr pe_w hs) (he σ H rl _ fun v H' s dv => k.nx δ ω σ H' hk (.of s) (rl.mono s))
theorem sd_exprX (he : EX X W T e δ ω (Val1 (fun _ ω' => SD X W T ss δ ω' R) R)) (hs : swapsWith e none pos.line X.env = pure false := by rfl) : SD X W T (.Expr e pos :: ss) δ ω R :=
  sd_cons fun σ H D rl t k => ws (ps_expr pe_w hs) (he σ H rl t _ (fun r ω' v H' z q l dv => k.nx δ ω' σ H' z q l) (fun C ω' σ' H' z q l => k.ex C ω' σ' H' z q l))
theorem sd_setX (i : Nat) {x : Str} {pos' : Pos} (he : EX X W T e δ ω (Val1 (fun r ω' => SD X W T ss (δ.set i (some r)) ω' R) R)) (hN : X.N.Nodup) (hi : X.N[i]? = some x := by rfl) (hx : Loc X.env.scope x := by first | exact Or.inl rfl | exact Or.inr rfl) (hs : swapsWith e (some (.Name x pos')) pos.line X.env = pure false := by rfl)
    (hf : X.fn x = true ∨ X.env.scope.names.lookup x = some .local := by first | exact .inl rfl | exact .inr rfl | assumption) : SD X W T (.Assign [.Name x pos'] e pos :: ss) δ ω R :=
  sd_cons (s1_set i (fun σ H rl t Q q q2 => he σ H rl t Q (fun r ω' v H' z => q r ω' v H' z) (fun C ω' σ' H' z => q2 C ω' σ' H' z)) hN hi hx hs hf)
theorem sd_if {kk : Bool} (h : PTd X δ ω c kk) (h1 : kk = true → SD X W T sa δ ω (Nxt X W T ss R)) (h2 : kk = false → SD X W T sb δ ω (Nxt X W T ss R)) : SD X W T (.If c sa sb pos :: ss) δ ω R :=
  sd_cons fun σ H D rl t k => ws (ps_if pt_w pss_w pss_w) (h σ H rl _ fun H' s => by
    cases kk with
    | true => exact iteT (h1 rfl σ H' D (rl.mono s) (t.ext s) (k.step (.of s)))
    | false => exact iteF (h2 rfl σ H' D (rl.mono s) (t.ext s) (k.step (.of s))))
theorem sd_ifF (h : PTd X δ ω c false) (h2 : SD X W T ss δ ω R) : SD X W T (.If c sa [] pos :: ss) δ ω R := sd_if h (fun z => by cases z) fun _ => sd_nil h2
theorem sd_ifT (h : PTd X δ ω c true) (h1 : SD X W T sa δ ω (Nxt X W T ss R)) : SD X W T (.If c sa sb pos :: ss) δ ω R := sd_if h (fun _ => h1) fun z => by cases z
/-- both ways come together -/
def Jn (J : De → Om → Prop) (R : Out → Prop) : Out → Prop
  | .nx δ ω => J δ ω
  | o => R o
theorem SD.imp {R' : Out → Prop} (h : SD X W T ss δ ω R') (hi : ∀ o, R' o → R o) : SD X W T ss δ ω R := fun σ H D rl t k =>
  h σ H D rl t ⟨fun δ' ω' σ' H' z => k.nx δ' ω' σ' H' (hi _ z), fun r ω' v H' z => k.rt r ω' v H' (hi _ z), fun C ω' σ' H' z => k.ex C ω' σ' H' (hi _ z), fun δ' ω' σ' H' z => k.bk δ' ω' σ' H' (hi _ z), fun δ' ω' σ' H' z => k.ct δ' ω' σ' H' (hi _ z)⟩
theorem sd_ifJ {kk : Bool} (J : De → Om → Prop) (h : PTd X δ ω c kk) (h1 : kk = true → SD X W T sa δ ω (Jn J R)) (h2 : kk = false → SD X W T sb δ ω (Jn J R)) (hk : ∀ δ' ω', J δ' ω' → SD X W T ss δ' ω' R) : SD X W T (.If c sa sb pos :: ss) δ ω R := by
  have im : ∀ o, Jn J R o → Nxt X W T ss R o := fun o z => by
    cases o with
    | nx δ' ω' => exact hk δ' ω' z
    | _ => exact z
  exact sd_if h (fun e => (h1 e).imp im) (fun e => (h2 e).imp im)
/-- a, b, .. = a tuple -/
def setAll : De → List Nat → List PyData → De
  | δ, i :: is, d :: ds => setAll (δ.set i (some (.im d))) is ds
  | δ, _, _ => δ
def gAll : List Nat → TGs
  | [] => gNil
  | i :: is => gCons (gName i) (gAll is)
theorem gAll_ok {K : PySem.W.Frag} {H : Hp} {ω : Om} {Q : L2.St → Hp → Prop} : ∀ {is : List Nat} {ds : List PyData} {vs : List V} {σ : L2.St} {δ : De}, Rl K H σ δ ω → DpAll K (hid (ads ω) H) vs ds → is.length = ds.length → (∀ σ', Rl K H σ' (setAll δ is ds) ω → Q σ' H) → gAll is vs σ H Q
  | [], [], _, σ, δ, rl, .nil, _, k => ⟨rfl, k σ rl⟩
  | i :: is, d :: ds, v :: vs, σ, δ, rl, .cons h1 h2, hl, k => ⟨v, vs, rfl, gAll_ok (rl.set (x := .im d) h1) h2 (Nat.succ.inj hl) k⟩
theorem sd_unp (is : List Nat) {ts : List Expr} {n kk : Nat} {p' : Pos} (he : PD X δ ω e (.tuple ds)) (hg : PG X (.Tuple ts kk p') (gTup X.K n (gAll is))) (hn : ds.length = n) (hi : is.length = n) (hk : SD X W T ss (setAll δ is ds) ω R)
    (hs : swapsWithSole [.Tuple ts kk p'] e pos.line X.env = pure false := by rfl) (hw : swappedStores [.Tuple ts kk p'] e X.env = pure none := by rfl) : SD X W T (.Assign [.Tuple ts kk p'] e pos :: ss) δ ω R :=
  sd_cons fun σ H D rl t k => ws (ps_asg pe_w hg hs hw) (he σ H rl _ fun v H' s dv => by
    cases dv with
    | tup h1 h2 => exact ⟨_, _, rfl, same_sqt hid_sub h1, by rw [dpa_len h2]; exact hn, gAll_ok (rl.mono s) h2 (hi.trans hn.symm) fun σ' l => k.nx _ ω σ' H' hk (.of s) l⟩)
/-- x.append(e), x the list of one's own that was made last -/
theorem sd_app (i : Nat) {x : Str} {p1 apos cpos : Pos} {D : Addr} {xs : List PyData} (he : PD X δ (omD ω D (.lst (xs.map .im))) e d) (hk : SD X W T ss δ (omD ω D (.lst ((xs ++ [d]).map .im))) R) (hz : xs.length < 10000)
    (hd : δ[i]? = some (some (.ad D)) := by rfl) (hN : X.N[i]? = some x := by rfl) (hv : Vis X.env.scope x := by first | exact Or.inl rfl | exact Or.inr (Or.inl rfl) | exact Or.inr (Or.inr rfl))
    (h1 : (x == ("__debug__" : Str)) = false := by decide) (h2 : (x == ("__classdict__" : Str)) = false := by decide)
    (hs : swapsWith (.Call (.Attribute (.Name x p1) "append" apos) [e] [] cpos) none pos.line X.env = pure false := by rfl)
    (hbase : attributeBase (.Name x p1) "append" X.env (eval (.Name x p1) X.env) = eval (.Name x p1) X.env := by rfl)
    (hfew : ((backTo cpos (starEach [e] X.env)).all (fun x => !x.1) && (backToKw cpos (keywordEach [] X.env)).all (fun x => x.1.isSome)
      && decide (([e] : List Expr).length + ([] : List Keyword).length + (if ([] : List Keyword).isEmpty then 0 else 1) < 30)) = true := by rfl)
    (hline : (apos.endLine == cpos.line) = true := by rfl) (hst : starEach [e] X.env = (false, eval e X.env) :: starEach [] X.env := by rfl) :
    SD X W T (.Expr (.Call (.Attribute (.Name x p1) "append" apos) [e] [] cpos) pos :: ss) δ (omD ω D (.lst (xs.map .im))) R :=
  sd_cons fun σ H Dd rl t k => by
    obtain ⟨v, e1, e2⟩ := rl.sl i _ hd
    have e2 : v = .ref D := e2
    subst e2
    obtain ⟨vs, e3, e4⟩ := rl.ro.ob D _ List.mem_cons_self
    refine ws (ps_expr (pe_bm PySem.F.plainAttrs_list PySem.F.slot_list_append PySem.F.type_list_append mt_append (pe_var hN hv h1 h2) (pa_cons pe_w pa_nil hst) hbase hfew hline hst) hs) ⟨_, e1, .inl ⟨rfl, vs, SqL.of e3⟩, ?_⟩
    refine he σ H rl _ fun y H1 s1 d1 => ⟨D, vs, y, rfl, rfl, s1 D _ e3, ?_, ?_⟩
    · rw [dpa_len (dpa_im e4)]
      exact Nat.lt_of_lt_of_le hz (by rw [sizeLine_eq]; decide)
    · have rl1 := rl.mono s1
      have hh : Same (hid (ads (omD ω D (.lst (xs.map .im)))) H1) (hid (ads (omD ω D (.lst ((xs ++ [d]).map .im)))) (upd H1 D (.lst (vs ++ [y])))) := hid_upd
      refine k.nx δ _ σ _ hk ⟨fun b o h n _ => ?_, fun a h => .inl h, rfl, fun t => ?_⟩ ⟨rl1.len, fun j r h => ?_, ?_, rl1.ro.nd, fun a h z => ?_⟩
      · have nb : b ≠ D := fun z => n (by rw [z]; exact List.mem_cons_self)
        rw [upd_ne nb]
        exact s1 b o h
      · have t1 := t.ext s1
        intro q hq
        obtain ⟨ps, a1, a2, a3⟩ := t1 q hq
        have e5 : H1 D = some (.lst vs) := s1 D _ e3
        refine ⟨ps, by rw [upd_ne (ne_of a1 e5 (by intro z; cases z))]; exact a1, a2, fun p' cv hc => ?_⟩
        obtain ⟨c0, b1, b2⟩ := a3 p' cv hc
        refine ⟨c0, b1, by rw [upd_ne (ne_of b2 e5 (by intro z; unfold LamX.CodeO at z; cases z))]; exact b2⟩
      · obtain ⟨v, h1, h2⟩ := rl1.sl j r h
        exact ⟨v, h1, sdv_mono hh h2⟩
      · intro a o h
        rcases List.mem_cons.mp h with q | q
        · cases q
          exact ⟨vs ++ [y], upd_same, im_dpa (dpa_app (dpam hh (dpam (hid_same s1) (dpa_im e4))) (.cons (dpm hh d1) .nil))⟩
        · have na : a ≠ D := fun z => by
            have nd := rl1.ro.nd
            have nd2 : (D :: ω.os.map (·.1)).Nodup := nd
            exact (List.nodup_cons.mp nd2).1 (List.mem_map.mpr ⟨(a, o), q, z⟩)
          have g := rl1.ro.ob a o (List.mem_cons_of_mem _ q)
          exact odv_keep (fun w => sdv_mono hh w) (fun u _ g1 => by rw [upd_ne na]; exact g1) g
      · have hn := rl1.ro.th a h
        by_cases za : a = D
        · rw [za, upd_same] at z
          cases z
        · rw [upd_ne za] at z
          exact hn z
/-- what follows a turn -/
def Turn1 (inv : Nat → De → Om → Prop) (i : Nat) (B R : Out → Prop) : Out → Prop
  | .nx δ ω => inv (i + 1) δ ω
  | .ct δ ω => inv (i + 1) δ ω
  | .bk δ ω => B (.nx δ ω)
  | o => R o
theorem sd_for (j : Nat) {items : List PyData} (inv : Nat → De → Om → Prop) (hw : PWk X δ ω tg iter items) (h0 : inv 0 δ ω)
    (hb : ∀ i d δ' ω', items[i]? = some d → inv i δ' ω' → SD X W T sa (δ'.set j (some (.im d))) ω' (Turn1 inv i (Nxt X W T ss R) R))
    (hd : ∀ δ' ω', inv items.length δ' ω' → SD X W T ss δ' ω' R) (hg : PG X tg (gName j)) (hp : PassesOwn (model X.prog X.w) X.A X.env X.xe) (hc : X.calm = true) (hs : ∀ x, foldedSetIterable iter X.env x = pure x := by intro _; rfl) : SD X W T (.For tg iter sa [] pos :: ss) δ ω R := by
  obtain ⟨wi, h1, h2⟩ := hw
  refine sd_cons fun σ H D rl t k => ws (ps_for hp hc h1 hg pss_w hs) (h2 σ H rl _ fun J H1 s1 w => ?_)
  refine ⟨fun i m σ' H' => ∃ δ' ω', m = items.length - i ∧ i ≤ items.length ∧ inv i δ' ω' ∧ Stp T ω ω' H1 H' ∧ Rl X.K H' σ' δ' ω', ⟨items.length, δ, ω, by omega, Nat.zero_le _, h0, .refl, rl.mono s1⟩, ?_⟩
  rintro i m σ' H' ⟨δ', ω', em, hi, iv, st, rl'⟩
  obtain ⟨go, stop, yld⟩ := w T H' (fun b o z p => (hid_out (st.seen b o z p)).2)
  have k1 := k.step (Stp.of s1 : Stp T ω ω H H1)
  by_cases hlt : i < items.length
  · refine .inr ⟨go i hlt, fun σ2 H2 => ∃ δ2 ω2, inv (i + 1) δ2 ω2 ∧ Stp T ω ω2 H1 H2 ∧ Rl X.K H2 σ2 δ2 ω2, fun σ2 H2 ⟨δ2, ω2, a1, a2, a3⟩ => ⟨items.length - (i + 1), by omega, δ2, ω2, rfl, hlt, a1, a2, a3⟩, fun x H2 hy => ?_⟩
    obtain ⟨e2, d, ed, dx⟩ := yld i x H2 hlt hy
    subst e2
    refine hb i d δ' ω' ed iv _ _ _ (rl'.set (x := .im d) (dp_ke st.seen d x dx)) (st.tab (t.ext s1)) ?_
    have k2 := k1.step st
    exact ⟨fun δ2 ω2 σ2 H2 z q l => ⟨δ2, ω2, z, st.trans q, l⟩, fun r ω2 v H2 z q l dv => k2.rt r ω2 v H2 z q l dv, fun C ω2 σ2 H2 z q l => k2.ex C ω2 σ2 H2 z q l, fun δ2 ω2 σ2 H2 z q l => k2.nx δ2 ω2 σ2 H2 z q l, fun δ2 ω2 σ2 H2 z q l => ⟨δ2, ω2, z, st.trans q, l⟩⟩
  · have e : i = items.length := by omega
    subst e
    exact .inl ⟨stop, (k1.step st).nx δ' ω' σ' H' (hd δ' ω' iv) .refl rl'⟩
/-- a call that may raise -/
theorem ex_call {fr : List PyData → Rs → Prop} {rr : Rs} (G : DefOk X.prog X.w X.K X.mg X.base k x fr) (hr : Room k X.A) (tk : L2N.Takes X W) (ha : PDs X δ ω (a :: es) ds) (hf : fr ds rr) (hR : match rr with | .ok d => R (.rt (.im d) ω) | .er C => R (.ex C ω)) (hg : Gl X x := by rfl)
    (hdb : (x == ("__debug__" : Str)) = false := by decide) (he : starEach (a :: es) X.env = (false, eval a X.env) :: starEach es X.env := by rfl) (hpl : (backTo pos (starEach es X.env)).any (·.1) = false := by rfl) : EX X W T (.Call (.Name x p) (a :: es) [] pos) δ ω R := fun σ H rl t Q q q2 => by
  obtain ⟨f, fd, ps, F, m, kp, b⟩ := G.ex
  refine we (pe_callS (E := WE W) F hr hg m kp b (fun σ => L2N.passAt tk σ) pa_w hdb he hpl) (ha σ H rl _ fun vs H1 s1 d1 => ?_)
  refine ⟨ads ω, ds, rr, there_mono rl.ro.there s1, d1, hf, ?_⟩
  cases rr with
  | ok d => exact fun v H' s' d' => q _ ω v H' hR (.of (s1.trans s')) (rl.mono (s1.trans s')) d'
  | er C => exact fun H' s' => q2 C ω σ H' hR (.of (s1.trans s')) (rl.ro.mono (s1.trans s'))
/-! ### a def -/
def startD (N : List Str) (ds : List PyData) : De := ds.map (fun d => some (.im d)) ++ List.replicate (N.length - ds.length) none
theorem start_rl {K : PySem.W.Frag} {H : Hp} {ps : List Addr} {N : List Str} {vs : List V} (h : DpAll K (hid ps H) vs ds) (hp : ∀ a ∈ ps, H a ≠ none) : Rl K H (L2.start N vs) (startD N ds) ⟨ps, []⟩ := by
  have hl := dpa_len h
  refine ⟨?_, fun i r hi => ?_, Ro.nil hp⟩
  · unfold L2.start startD
    rw [List.length_append, List.length_append, List.length_map, List.length_map, List.length_replicate, List.length_replicate, hl]
  · rw [ads_nil]
    unfold startD at hi
    by_cases hlt : i < ds.length
    · rw [List.getElem?_append_left (by rw [List.length_map]; exact hlt), List.getElem?_map, List.getElem?_eq_getElem hlt] at hi
      cases hi
      obtain ⟨v, h1, h2⟩ := dpa_get h (List.getElem?_eq_getElem hlt)
      refine ⟨v, ?_, h2⟩
      unfold L2.start
      rw [List.getElem?_append_left (by rw [List.length_map, hl]; exact hlt), List.getElem?_map, h1]
      rfl
    · rw [List.getElem?_append_right (by rw [List.length_map]; omega)] at hi
      have := List.getElem?_eq_some_iff.mp hi
      obtain ⟨h1, h2⟩ := this
      rw [List.getElem_replicate] at h2
      cases h2
def Fin (r : Rs) : Out → Prop
  | .rt (.im d) _ => r = .ok d
  | .nx _ _ => r = .ok .none
  | .ex C _ => r = .er C
  | _ => False
abbrev WOf (E : XK) : WX := fun cls d _ H => E cls d H
theorem def_ok {P : Program} {w : World} {K : PySem.W.Frag} {mg : Str → Option Value} {base : Heap} {x qual : Str} {params : Arguments} {body : List Stmt} {scope : Scope} {kws : List (Str × V)} {f : Addr} {fd : FuncData} {N ps : List Str} {k : Nat} {fr : List PyData → Rs → Prop}
    (F : FunD K x qual params body scope [] kws f fd) (hm : mg x = some (.ref f)) (S : FnScope N ps scope) (hb : ∀ (kV doc pm : Value) (an : Option Addr) (cdv ct : Value) (us : List Value), us.length = ps.length → bindArgs (PySem.W.fnOf x qual params body scope .none kV doc pm an cdv ct) ⟨us, []⟩ = pure (ps.zip us))
    (len : ∀ ds r, fr ds r → ds.length = ps.length)
    (hbody : ∀ (cdv : Value) (A : Around) (outer : List Env) (s : Shared) (H : Hp) (E : XK) (qs : List Addr) (ds : List PyData) (r : Rs), Room k (A.deeper (envOfC qual scope s.heap.objs.size f cdv)) → fr ds r →
      SD (cxOf (L2N.CX P w) P w K mg base N qual scope f cdv A outer s H E) (WOf E) [] body (startD N ds) ⟨qs, []⟩ (Fin r)) : DefOk P w K mg base (k + 1) x fr := by
  refine ⟨f, fd, ps, F.ok S (fun vs H Q E h => ?_) (fun cdv A outer s H vs Q E hr h => ?_), hm, F.kp, F.bindsN hb⟩
  · obtain ⟨qs, ds, r, _, h2, h3, _⟩ := h
    rw [dpa_len h2]
    exact len ds r h3
  · obtain ⟨qs, ds, r, h1, h2, h3, h4⟩ := h
    refine ⟨_, pss_w, hbody cdv A outer s H E qs ds r hr h3 _ _ _ (start_rl h2 h1) (fun _ z => nomatch z) ?_⟩
    have same : ∀ {ω' : Om} {H' : Hp}, Stp [] ⟨qs, []⟩ ω' H H' → Same H H' := fun st b o e => st.keep b o e (fun z => nomatch z) (.inl rfl)
    refine ⟨fun δ' ω' σ' H' z st l => ?_, fun r' ω' v H' z st l dv => ?_, fun C ω' σ' H' z st l => ?_, fun _ _ _ _ z => False.elim z, fun _ _ _ _ z => False.elim z⟩
    · have z : r = .ok .none := z
      subst z
      exact h4 .non H' (same st) .non
    · cases r' with
      | im d =>
        have z : r = .ok d := z
        subst z
        exact h4 v H' (same st) (dpm (hid_more fun b hb => List.mem_append_left _ (by rw [st.ps]; exact hb)) dv)
      | ad a => exact False.elim z
    · have z : r = .er C := z
      subst z
      exact h4 H' (same st)
end
end FP

namespace FP
open PySem PySem.Spec PyProof.Rows L2
/-- a tuple times a number below 2: itself by 1, else an empty one -/
def fewSpec (l : Addr) (o : Obj) (k : Int) : PySem.Spec := fun _ R s =>
  s.heap.get? l = some o ∧ (k = 1 → R (.ok (.ret (.ref l))) s) ∧
    (k ≠ 1 → R (.ok (.ret (.ref s.heap.objs.size))) { s with heap := s.heap.push { cls := .type "tuple", data := .seq #[] } })
theorem times_few {l : Addr} {its : Array Value} {n : Nat} {dd : Option Addr} {sl : Array (Option Value)} {k : Int} {t : Tok}
    (ne : its.isEmpty = false) (small : k ≤ 1) (low : -1000 ≤ k) :
    Meets (Builtin.«tuple.__mul__» ⟨[.ref l, .int k t], []⟩) (fewSpec l ⟨.type "tuple", dd, .seq its n, sl⟩ k) := by
  have inIx : ¬ ((decide (k < -(2 ^ 63)) || decide (k ≥ 2 ^ 63)) = true) := by
    rw [Bool.or_eq_true, decide_eq_true_iff, decide_eq_true_iff]
    omega
  have ix := AutoSeq1.idx_int
  refine .of_wp fun prog w A R ⟨hp, g, d, tk, os⟩ ⟨hl, same, new⟩ => ?_
  wp_walk using wpAny_loadPart' hl
  rw [if_neg inIx]
  wp_walk using wpAny_loadPart' hl
  by_cases e : k = 1
  · rw [if_pos (by rw [e, Bool.or_eq_true]; exact .inr rfl)]
    wp_walk using wpAny_loadPart' hl
    exact ⟨_, rfl, same e⟩
  · rw [if_neg (by rw [ne, Bool.false_or, beq_iff_eq]; exact e), if_pos (by rw [Bool.or_eq_true, decide_eq_true_iff]; omega)]
    wp_walk using wpAny_loadPart' hl
    exact ⟨_, rfl, new e⟩
/-- .. which is what the program's sign for it asks -/
theorem eval_few {prog : Program} {w : World} {A : Around} {Q E : Value → Shared → Prop} {s : Shared} {l : Addr} {its : Array Value} {n : Nat}
    {dd : Option Addr} {sl : Array (Option Value)} {k : Int} {t : Tok} (at_ : s.heap.get? l = some ⟨.type "tuple", dd, .seq its n, sl⟩)
    (ne : its.isEmpty = false) (small : k ≤ 1) (low : -1000 ≤ k) (same : k = 1 → Q (.ref l) s)
    (new : k ≠ 1 → Q (.ref s.heap.objs.size) { s with heap := s.heap.push { cls := .type "tuple", data := .seq #[] } }) :
    wpAny (model prog w) A (binaryOp .Mult (.ref l) (.int k t)) Q E s := by
  have isTup : s.TypeIs (.ref l) "tuple" := ⟨_, at_, rfl⟩
  have isInt := fun z : Shared => typeIs_int z k t
  have own : wpAny (model prog w) A (call (.builtin "tuple.__mul__") [.ref l, .int k t]) Q E s :=
    call_meets F.slot_tuple_mul isTup F.entry_tuple_mul (F.args_tuple_mul_2 _ _) (times_few ne small low) ⟨at_, same, new⟩
  have first := int_rmul_tuple k t l its n dd sl
  exact wpAny_binaryOp_repeat_ref (by decide) isTup isInt noFill_tuple_mul F.fills_int_mul F.slot_int_rmul repeat_tuple F.slot_int_index.lookup
    (call_meets F.slot_int_rmul (isInt s) F.entry_int_rmul (F.args_int_rmul_2 _ _) first ⟨at_, rfl, isTup, own⟩)

def rRepA (K : PySem.W.Frag) : R2 := fun x y H Q => ∃ l k xs, x = .ref l ∧ y = .int k ∧ SqT K H l xs ∧ xs ≠ [] ∧ -1000 ≤ k ∧ k ≤ 1000 ∧ xs.length ≤ 1000 ∧ (k = 1 → Q (.ref l) H) ∧ (k ≠ 1 → ∀ p, H p = none → Q (.ref p) (upd H p (.tup (List.replicate k.toNat xs).flatten)))
section
variable {X : Cx}
theorem op_repA : OpR X (binaryOp .Mult) (rRepA X.K) := by
  rintro pins s σ H x y v u Q I rx ry ⟨l, k, xs, rfl, rfl, tup, some, low, high, len, same, new⟩
  by_cases small : k ≤ 1
  case neg => exact op_repT pins s σ H _ _ v u Q I rx ry ⟨l, k, xs, rfl, rfl, tup, some, by omega, high, len, new (by omega)⟩
  cases rx
  rcases ry with ⟨t, rfl⟩
  rcases I.tuple tup with ⟨its, r, ⟨⟨c, dd, da, sl⟩, at_, isT, n, isS⟩, _⟩
  cases show c = _ from isT
  cases show da = _ from isS
  refine eval_few at_ ?_ small low (fun e => ⟨.ref l, H, I, rfl, same e⟩) fun e => ?_
  · match its, xs, r with
    | a :: b, _, _ => rfl
    | [], [], _ => exact absurd rfl some
  have none := new e
  rw [show k.toNat = 0 by omega] at none
  have I' := I.laid (t' := s.toks) (o := .tup []) (fun b o q => Heap.get?_push_of_some _ q) (Nat.le_refl _) ⟨Nat.zero_le _, [], .nil, IsTup.new _ _⟩
  exact ⟨.ref s.heap.objs.size, _, I', rfl, none _ (I.hok.fresh (Nat.le_refl _))⟩
/-- a text times an int -/
def rRepS : R2 := fun x y H Q => ∃ z k, x = .str z ∧ y = .int k ∧ -1000 ≤ k ∧ k ≤ 1000 ∧ z.length ≤ 1000 ∧ Q (.str ⟨(List.replicate k.toNat z.cps.toList).flatten.toArray⟩) H
theorem rep_foldl (a : Array Nat) : ∀ (m : Nat) (b : Array Nat), (List.foldl (fun x1 x2 => x1 ++ x2) b (List.replicate m a)) = b ++ (List.replicate m a.toList).flatten.toArray
  | 0, b => by simp
  | m + 1, b => by
    rw [List.replicate_succ, List.replicate_succ, List.foldl_cons, rep_foldl a m, List.flatten_cons]
    apply Array.ext'
    simp
theorem op_repS : OpR X (binaryOp .Mult) rRepS := by
  intro pins s σ H x y v u Q I rx ry h
  obtain ⟨z, k, rfl, rfl, h1, h2, hz, q⟩ := h
  obtain ⟨t, rfl⟩ := rx
  obtain ⟨t', rfl⟩ := ry
  have c0 : (decide (k < -(2 ^ 63 : Int)) || decide (k ≥ 2 ^ 63)) = false := by
    rw [decide_eq_false (by omega), decide_eq_false (by omega)] <;> rfl
  have hm : z.length * k.toNat ≤ 1000 * 1000 := Nat.mul_le_mul hz (by omega)
  refine PySem.P.mul_str c0 (fun h _ => ?_) (fun _ _ => ?_) ?_
  · have a1 : (1000 : Int) ≤ (2 ^ 63 - 1) / k := by
      rw [Int.le_ediv_iff_mul_le (by omega)]
      omega
    omega
  · show decide (z.length * k.toNat > sizeLine) = false
    rw [sizeLine_eq]
    exact decide_eq_false (by omega)
  · by_cases hk : k < 1
    · rw [if_pos hk]
      have e0 : k.toNat = 0 := by omega
      rw [e0] at q
      exact ⟨by decide, .str _, H, I.tok _, ⟨_, rfl⟩, q⟩
    · rw [if_neg hk]
      by_cases hc : (k == 1 || z.length == 0) = true
      · rw [if_pos hc]
        have ez : (⟨(List.replicate k.toNat z.cps.toList).flatten.toArray⟩ : Str) = z := by
          rcases (Bool.or_eq_true _ _).mp hc with e | e
          · have e1 : k = 1 := beq_iff_eq.mp e
            subst e1
            show (⟨(List.replicate 1 z.cps.toList).flatten.toArray⟩ : Str) = z
            simp
          · have e1 : z.cps.toList = [] := by
              have e2 : z.cps.size = 0 := beq_iff_eq.mp e
              apply List.eq_nil_of_length_eq_zero
              rw [Array.length_toList]
              exact e2
            have e3 : z = ⟨#[]⟩ := by
              obtain ⟨c⟩ := z
              have : c = #[] := Array.toList_inj.mp (by rw [e1])
              rw [this]
            rw [e3]
            have e4 : (List.replicate k.toNat ([] : List Nat)).flatten = [] := by simp
            show (⟨(List.replicate k.toNat ([] : List Nat)).flatten.toArray⟩ : Str) = ⟨#[]⟩
            rw [e4]
        rw [ez] at q
        exact ⟨.str z, H, I, ⟨_, rfl⟩, q⟩
      · rw [if_neg hc, rep_foldl, Array.empty_append]
        refine ⟨?_, .str _, H, I.tok _, ⟨_, rfl⟩, q⟩
        show (List.replicate k.toNat z.cps.toList).flatten.toArray.size ≤ sizeLine
        rw [List.size_toArray, PyProof.Rows.lm_len_rep_flat, sizeLine_eq, Array.length_toList]
        have hm2 : k.toNat * z.cps.size ≤ 1000 * 1000 := Nat.mul_le_mul (by omega) hz
        omega
end
/-! ### sequences by data -/
/-- a list that stands by itself -/
def PLt (X : Cx) (δ : De) (ω : Om) (e : Expr) (ds : List PyData) : Prop :=
  ∀ σ H, Rl X.K H σ δ ω → ∀ Q : VK, (∀ p vs H', Same H H' → H' p = some (.lst vs) → DpAll X.K (hid (ads ω) H') vs ds → Q (.ref p) H') → wpe X e σ H Q
section
variable {X : Cx} {δ : De} {ω : Om} {a b c e : Expr} {es : List Expr} {d da db dc dz : PyData} {ds dt : List PyData} {pos p : Pos}
theorem PLt.pl (h : PLt X δ ω e ds) : PL X δ ω e ds := fun σ H r Q k => h σ H r Q fun p vs H' s h1 h2 => k p vs H' s (SqL.of h1) h2
theorem PN.plt (h : PN X δ ω e ds) : PLt X δ ω e ds := fun σ H r Q k => h σ H r Q fun p vs H' s _ h1 h2 => k p vs H' s h1 (dpam hid_cons h2)
theorem plt_var (i : Nat) {x : Str} {p : Addr} {xs : List PyData} (hm : (p, Od.lst (xs.map .im)) ∈ ω.os) (hd : δ[i]? = some (some (.ad p)) := by rfl) (hN : X.N[i]? = some x := by rfl) (hv : Vis X.env.scope x := by first | exact Or.inl rfl | exact Or.inr (Or.inl rfl) | exact Or.inr (Or.inr rfl))
    (h1 : (x == ("__debug__" : Str)) = false := by decide) (h2 : (x == ("__classdict__" : Str)) = false := by decide) : PLt X δ ω (.Name x pos) xs := fun σ H r Q k => by
  obtain ⟨v, e1, e2⟩ := r.sl i _ hd
  obtain ⟨vs, e3, e4⟩ := r.ro.ob _ _ hm
  have e2 : v = .ref p := e2
  subst e2
  exact we (pe_var hN hv h1 h2) ⟨_, e1, k p vs H (Same.refl H) e3 (dpa_im e4)⟩
theorem flat_one {α : Type} (n : Nat) (x : α) : (List.replicate n [x]).flatten = List.replicate n x := by
  induction n with
  | zero => rfl
  | succ n ih => rw [List.replicate_succ, List.flatten_cons, ih, List.replicate_succ] <;> rfl
theorem rd_repT {K : PySem.W.Frag} {k : Int} (hne : ds ≠ []) (h1 : -1000 ≤ k) (h2 : k ≤ 1000) (hz : ds.length ≤ 1000) : RD K (rRepA K) (.tuple ds) (.int k) (.tuple (List.replicate k.toNat ds).flatten) := fun ps x y H t hx hy Q q => by
  cases hy
  cases hx with
  | tup h3 h4 =>
    rename_i l vs
    have hl := dpa_len h4
    refine ⟨l, k, vs, rfl, rfl, same_sqt hid_sub h3, fun z => hne ?_, h1, h2, by omega, fun e => ?_, fun e p hp => ?_⟩
    · subst z
      exact List.eq_nil_of_length_eq_zero (by rw [← hl]; rfl)
    · have e1 : k.toNat = 1 := by omega
      rw [e1] at q
      have e2 : (List.replicate 1 ds).flatten = ds := by simp
      rw [e2] at q
      exact q _ H (Same.refl H) (.tup h3 h4)
    · exact q _ _ (same_new hp) (.tup (SqT.of (hid_of (new_out t hp) upd_same)) (dpam (hid_same (same_new hp)) (dpa_rep h4 _)))
theorem pd_repT {k : Int} (ha : PD X δ ω a (.tuple ds)) (hb : PD X δ ω b (.int k)) (hne : ds ≠ []) (h1 : -1000 ≤ k) (h2 : k ≤ 1000) (hz : ds.length ≤ 1000) : PD X δ ω (.BinOp a .Mult b pos) (.tuple (List.replicate k.toNat ds).flatten) := pd_op op_repA (rd_repT hne h1 h2 hz) ha hb
/-- (x,) * k -/
theorem pd_rep1 {k : Int} (ha : PD X δ ω a (.tuple [d])) (hb : PD X δ ω b (.int k)) (h1 : -1000 ≤ k) (h2 : k ≤ 1000) : PD X δ ω (.BinOp a .Mult b pos) (.tuple (List.replicate k.toNat d)) :=
  (pd_repT ha hb (by simp) h1 h2 (by simp)).eq (by rw [flat_one])
theorem rd_catT {K : PySem.W.Frag} (hz : ds.length + dt.length ≤ 10000) : RD K (rCatA K) (.tuple ds) (.tuple dt) (.tuple (ds ++ dt)) := fun ps x y H t hx hy Q q => by
  cases hx with
  | tup h3 h4 =>
    cases hy with
    | tup h5 h6 =>
      rename_i l vs m us
      have hl := dpa_len h4
      have hm := dpa_len h6
      refine ⟨l, m, vs, us, rfl, rfl, same_sqt hid_sub h3, same_sqt hid_sub h5, by rw [hl, hm, sizeLine_eq]; omega, fun z => ?_, fun _ z => ?_, fun _ _ p hp => ?_⟩
      · subst z
        cases h4
        exact q _ H (Same.refl H) (.tup h5 h6)
      · subst z
        cases h6
        rw [List.append_nil] at q
        exact q _ H (Same.refl H) (.tup h3 h4)
      · exact q _ _ (same_new hp) (.tup (SqT.of (hid_of (new_out t hp) upd_same)) (dpam (hid_same (same_new hp)) (dpa_app h4 h6)))
theorem pd_catT (ha : PD X δ ω a (.tuple ds)) (hb : PD X δ ω b (.tuple dt)) (hz : ds.length + dt.length ≤ 10000) : PD X δ ω (.BinOp a .Add b pos) (.tuple (ds ++ dt)) := pd_op op_catA (rd_catT hz) ha hb
theorem rd_repS {K : PySem.W.Frag} {z : Str} {k : Int} (h1 : -1000 ≤ k) (h2 : k ≤ 1000) (hz : z.length ≤ 1000) : RD K rRepS (.str z) (.int k) (.str ⟨(List.replicate k.toNat z.cps.toList).flatten.toArray⟩) := fun ps x y H t hx hy Q q => by
  cases hx
  cases hy
  exact ⟨z, k, rfl, rfl, h1, h2, hz, q _ H (Same.refl H) (.str _)⟩
theorem pd_repS {z : Str} {k : Int} (ha : PD X δ ω a (.str z)) (hb : PD X δ ω b (.int k)) (h1 : -1000 ≤ k) (h2 : k ≤ 1000) (hz : z.length ≤ 1000) : PD X δ ω (.BinOp a .Mult b pos) (.str ⟨(List.replicate k.toNat z.cps.toList).flatten.toArray⟩) := pd_op op_repS (rd_repS h1 h2 hz) ha hb
theorem pd_catS {y z : Str} (ha : PD X δ ω a (.str y)) (hb : PD X δ ω b (.str z)) (hz : y.length + z.length ≤ 100000) : PD X δ ω (.BinOp a .Add b pos) (.str (y ++ z)) := pd_op op_add_str (fun ps x w H t hx hy Q q => by
  cases hx
  cases hy
  exact ⟨y, z, rfl, rfl, Nat.le_trans hz (by rw [sizeLine_eq]; decide), q _ H (Same.refl H) (.str _)⟩) ha hb
theorem pn_cat (ha : PLt X δ ω a ds) (hb : PLt X δ ω b dt) (hz : ds.length + dt.length ≤ 10000) : PN X δ ω (.BinOp a .Add b pos) (ds ++ dt) := fun σ H rl Q k =>
  we (pe_op op_cat pe_w pe_w) (ha σ H rl _ fun q vs H1 s1 h1 d1 => hb σ H1 (rl.mono s1) _ fun r us H2 s2 h2 d2 =>
    ⟨q, r, vs, us, rfl, rfl, s2 q _ h1, h2, by rw [dpa_len d1, dpa_len d2, sizeLine_eq]; omega, fun p hp => k p _ _ ((s1.trans s2).trans (same_new hp)) ((s1.trans s2).free hp) upd_same (dpam (hid_new hp (same_new hp)) (dpa_app (dpam (hid_same s2) d1) d2))⟩)
theorem pn_rep {k : Int} (ha : PLt X δ ω a ds) (hb : PD X δ ω b (.int k)) (h1 : -1000 ≤ k) (h2 : k ≤ 1000) (hz : ds.length ≤ 1000) : PN X δ ω (.BinOp a .Mult b pos) (List.replicate k.toNat ds).flatten := fun σ H rl Q q =>
  we (pe_op op_rep pe_w pe_w) (ha σ H rl _ fun l vs H1 s1 h3 d1 => hb σ H1 (rl.mono s1) _ fun y H2 s2 d2 => by
    cases d2
    refine ⟨l, k, vs, rfl, rfl, s2 l _ h3, by omega, by omega, ?_, fun p hp => q p _ _ ((s1.trans s2).trans (same_new hp)) ((s1.trans s2).free hp) upd_same (dpam (hid_new hp (same_new hp)) (dpam (hid_same s2) (dpa_rep d1 _)))⟩
    have a1 : vs.length * k.toNat ≤ 1000 * 1000 := Nat.mul_le_mul (by rw [dpa_len d1]; exact hz) (by omega)
    rw [sizeLine_eq]
    omega)
theorem pn_rep1 {k : Int} (ha : PLt X δ ω a [d]) (hb : PD X δ ω b (.int k)) (h1 : -1000 ≤ k) (h2 : k ≤ 1000) : PN X δ ω (.BinOp a .Mult b pos) (List.replicate k.toNat d) := by
  have h := pn_rep (pos := pos) ha hb h1 h2 (by simp)
  rw [flat_one] at h
  exact h
/-! ### slices -/
def cutD (xs : List PyData) (lo hi : Option Int) : List PyData := (xs.drop (HT.sIx xs.length 0 lo)).take (HT.sIx xs.length xs.length hi - HT.sIx xs.length 0 lo)
theorem cut_dp {K : PySem.W.Frag} {H : Hp} {vs : List V} (h : DpAll K H vs ds) (lo hi : Option Int) : DpAll K H (cutV vs lo hi) (cutD ds lo hi) := by
  unfold cutV cutD
  rw [dpa_len h]
  exact dpa_take _ (dpa_drop _ h)
/-- a part of a slice -/
def PO1 (X : Cx) (δ : De) (ω : Om) : Option Expr → Option Int → Prop
  | none, o => o = none
  | some e, o => ∃ i, o = some i ∧ PD X δ ω e (.int i)
def wpo (X : Cx) : Option Expr → TO
  | none => tNoPart
  | some e => tPart (wpe X e)
theorem po_w {o : Option Expr} : PO X o (wpo X o) := by
  cases o with
  | none => exact po_none
  | some e => exact po_some pe_w
theorem po_run {o : Option Expr} {i : Option Int} (h : PO1 X δ ω o i) : ∀ σ H, Rl X.K H σ δ ω → ∀ Q : Option Int → Hp → Prop, (∀ H', Same H H' → Q i H') → wpo X o σ H Q := fun σ H rl Q k => by
  cases o with
  | none =>
    have e : i = none := h
    subst e
    exact k H (Same.refl H)
  | some e =>
    obtain ⟨j, e1, h1⟩ := h
    subst e1
    exact h1 σ H rl _ fun v H1 s1 d1 => by
      cases d1
      exact ⟨j, rfl, k H1 s1⟩
theorem pd_slT {lo hi : Option Expr} {i j : Option Int} {p2 : Pos} (ha : PD X δ ω a (.tuple ds)) (hl : PO1 X δ ω lo i) (hh : PO1 X δ ω hi j) : PD X δ ω (.Subscript a (.Slice lo hi none p2) pos) (.tuple (cutD ds i j)) := fun σ H rl Q k =>
  we (pe_slice sl_tupA pe_w po_w po_w) (ha σ H rl _ fun v H1 s1 d1 => po_run hl σ H1 (rl.mono s1) _ fun H2 s2 => po_run hh σ H2 (rl.mono (s1.trans s2)) _ fun H3 s3 => by
    have s13 := (s1.trans s2).trans s3
    have d3 := dpm (hid_same (s2.trans s3)) d1
    cases d3 with
    | tup h1 h2 =>
      rename_i l vs
      refine ⟨l, vs, rfl, same_sqt hid_sub h1, fun z => ?_, fun _ p hp => k _ _ (s13.trans (same_new hp)) (.tup (SqT.of (hid_of (new_out (there_mono rl.ro.there s13) hp) upd_same)) (dpam (hid_same (same_new hp)) (cut_dp h2 i j)))⟩
      have e : cutD ds i j = ds := by
        unfold cutD
        rw [← dpa_len h2, z.1, z.2, List.drop_zero, Nat.sub_zero, dpa_len h2, List.take_length]
      rw [e] at k
      exact k _ H3 s13 (.tup h1 h2))
theorem pn_slL {lo hi : Option Expr} {i j : Option Int} {p2 : Pos} (ha : PL X δ ω a ds) (hl : PO1 X δ ω lo i) (hh : PO1 X δ ω hi j) : PN X δ ω (.Subscript a (.Slice lo hi none p2) pos) (cutD ds i j) := fun σ H rl Q k =>
  we (pe_slice sl_list pe_w po_w po_w) (ha σ H rl _ fun l vs H1 s1 h1 d1 => po_run hl σ H1 (rl.mono s1) _ fun H2 s2 => po_run hh σ H2 (rl.mono (s1.trans s2)) _ fun H3 s3 =>
    ⟨l, vs, rfl, (s2.trans s3).seq h1, fun p hp => k p _ _ (((s1.trans s2).trans s3).trans (same_new hp)) (((s1.trans s2).trans s3).free hp) upd_same (dpam (hid_new hp (same_new hp)) (cut_dp (dpam (hid_same (s2.trans s3)) d1) i j))⟩)
/-! ### join -/
theorem dpa_strs {K : PySem.W.Frag} {H : Hp} : ∀ {ys : List Str} {vs : List V}, DpAll K H vs (ys.map .str) → vs = ys.map V.str
  | [], _, h => by
    cases h
    rfl
  | b :: bs, _, h => by
    cases h with
    | cons x y =>
      cases x
      rw [List.map_cons, dpa_strs y]
theorem pd_join {z : Str} {ys : List Str} {apos : Pos} (ha : PD X δ ω a (.str z)) (hb : PL X δ ω b (ys.map .str)) (hz : (ys.map (·.length)).sum + ys.length * z.length ≤ 16777216) (hs : starEach [b] X.env = [(false, eval b X.env)] := by rfl)
    (hbase : attributeBase a "join" X.env (eval a X.env) = eval a X.env := by rfl) (hline : (apos.endLine == pos.line) = true := by rfl) : PD X δ ω (.Call (.Attribute a "join" apos) [b] [] pos) (.str (Txt.join z ys)) := fun σ H rl Q k =>
  we (pe_join pe_w pe_w hs hbase hline) (ha σ H rl _ fun v H1 s1 d1 => by
    cases d1
    refine ⟨⟨_, rfl⟩, hb σ H1 (rl.mono s1) _ fun l vs H2 s2 h2 d2 => ?_⟩
    have e := dpa_strs d2
    subst e
    exact ⟨z, l, ys, rfl, rfl, .inl h2, hz, k _ H2 (s1.trans s2) (.str _)⟩)
end
end FP

namespace FP
open PySem PySem.Spec PyProof.Rows L2
/-! ### the law -/
def spL (K : PySem.W.Frag) (T : List (Addr × Str)) : Sp := fun vs H Q _ => ∃ (a : Addr) (ns : List Int), vs = [.ref a] ∧ SqL K H a (ns.map V.int) ∧ ns.length ≤ 63 ∧ (∀ z ∈ ns, Builtin.Int.intBits z ≤ 1048576) ∧ LamX.Tabs T H ∧ ∀ H', Q (.bl true) H'
theorem dpa_ints {K : PySem.W.Frag} {H : Hp} : ∀ ns : List Int, DpAll K H (ns.map V.int) (ns.map .int)
  | [] => .nil
  | n :: ns => .cons (.int n) (dpa_ints ns)
def FinT : Out → Prop
  | .rt (.im d) _ => d = .bool true
  | _ => False
theorem law_ok {P : Program} {w : World} {K : PySem.W.Frag} {mg : Str → Option Value} {base : Heap} {x qual y : Str} {params : Arguments} {body : List Stmt} {scope : Scope} {dV kV doc pm cdv ct oc : Value} {an od : Option Addr} {osl : Array (Option Value)} {f : Addr} {N : List Str} {k : Nat} {T : List (Addr × Str)}
    (lk : K.lookup f = some ⟨oc, od, .func (PySem.W.fnOf x qual params body scope dV kV doc pm an cdv ct), osl⟩) (hcd : PySem.W.codeIn K cdv qual = true) (S : FnScope N [y] scope)
    (hbody : ∀ (A : Around) (outer : List Env) (s : Shared) (H : Hp) (E : XK) (ns : List Int), Room k (A.deeper (envOfC qual scope s.heap.objs.size f cdv)) → ns.length ≤ 63 → (∀ z ∈ ns, Builtin.Int.intBits z ≤ 1048576) →
      SD (cxOf (L2N.CX P w) P w K mg base N qual scope f cdv A outer s H E) (WOf E) T body (startD N [.list (ns.map .int)]) ⟨[], []⟩ FinT) :
    FnOk P w K mg base (L2N.CX P w) (k + 1) f (PySem.W.fnOf x qual params body scope dV kV doc pm an cdv ct) [y] (spL K T) := by
  refine fn_of lk hcd S (fun vs H Q E h => ?_) (fun A outer s H vs Q E hr h => ?_)
  · obtain ⟨a, ns, rfl, _⟩ := h
    rfl
  · obtain ⟨a, ns, rfl, h1, h2, h3, h4, h5⟩ := h
    refine ⟨_, pss_w, hbody A outer s H E ns hr h2 h3 _ _ _ (start_rl (vs := [.ref a]) (.cons (.lst (by rw [hid_nil]; exact h1) (dpa_ints ns)) .nil) (fun _ z => nomatch z)) h4 ?_⟩
    refine ⟨fun _ _ _ _ z => False.elim z, fun r' ω' v H' z st l dv => ?_, fun _ _ _ _ z => False.elim z, fun _ _ _ _ z => False.elim z, fun _ _ _ _ z => False.elim z⟩
    cases r' with
    | im d =>
      have z : d = .bool true := z
      subst z
      cases dv
      exact h5 H'
    | ad a => exact False.elim z

/-! ### told: a lambda handed to a def that calls it -/
def TT0 : (XK → Hp → VK → Prop) → Hp → VK → Prop := fun tl H Q => tl (fun _ _ _ => False) H Q
theorem told0 {X : Cx} {Ng : List Str} {x a q : Str} {sg : Scope} {g : Addr} {cdg : Value} {p1 p2 p3 p8 : Pos} {hd : ExceptHandler} {hs : List ExceptHandler} (h0 : ∀ f : Addr, (L2.start Ng [V.ref f])[0]? = some (some (V.ref f))) :
    LamX.GivesTo X Ng x sg g cdg [.Try [.Return (some (.Call (.Name a p1) [] [] p2)) p3] (hd :: hs) [] [] p8] a q TT0 := by
  intro f c' s H Q tl act hc h
  refine ⟨_, pss_one (ps_try_thru0 (X := (cxOf C8.CX0 X.prog X.w X.K X.mg X.base Ng x sg g cdg X.A X.stack s H C8.E0).nox) (pss_one (ps_ret (pos := p3) (act (fun _ _ _ _ => False) [] (fun _ _ => False) (fun _ _ _ => False) p1 p2 LamX.takes0 (fun _ _ _ _ z => z))))), ?_⟩
  exact ⟨h0 f, hc, h⟩
/-- what the told rule asks of the maker's def -/
structure LamT (X : Cx) (T : List (Addr × Str)) : Prop where
  ex : ∃ c P, LamX.TabB X.base X.mg c P ∧ X.env.code = .ref c ∧ (P, X.env.qual ++ "<lambda>") ∈ T ∧ ∀ p ∈ T, p.1 = P → p.2 = X.env.qual ++ "<lambda>"
/-- the def that calls what it gets -/
structure Told (K : PySem.W.Frag) (mg : Str → Option Value) (x : Str) (st : Stmt) : Prop where
  ex : ∃ g fd, FunD K x x (defArgs st) (defBody st) (defScope st) [] [] g fd ∧ mg x = some (.ref g)
theorem extN_ke {T : List (Addr × Str)} (hT : T ≠ []) {H H' : Hp} (e : LamX.ExtN H H') : Ke T H H' := fun b o h p => e b o h (p.resolve_left hT)
theorem rl_ext {K : PySem.W.Frag} {T : List (Addr × Str)} {H H' : Hp} {σ : L2.St} {δ : De} {ω : Om} (e : LamX.ExtN H H') (hps : ω.ps = []) (rl : Rl K H σ δ ω) : Rl K H' σ δ ω := by
  have hh : LamX.ExtN (hid (ads ω) H) (hid (ads ω) H') := fun b o z n => hid_of (hid_out z).1 (e b o (hid_out z).2 n)
  have hk : Ke [(0, Str.ofString "")] (hid (ads ω) H) (hid (ads ω) H') := fun b o z p => hh b o z (p.resolve_left (by simp))
  have hsd : ∀ {r : Sd} {v : V}, SdV K (hid (ads ω) H) r v → SdV K (hid (ads ω) H') r v := fun {r v} z => by
    cases r with
    | im d => exact dp_ke hk d v z
    | ad a => exact z
  refine ⟨rl.len, fun i r h => ?_, fun a o h => ?_, rl.ro.nd, fun a h => ?_⟩
  · obtain ⟨v, h1, h2⟩ := rl.sl i r h
    exact ⟨v, h1, hsd h2⟩
  · have g := rl.ro.ob a o h
    exact odv_keep (fun w => hsd w) (fun u nt g1 => e a _ g1 nt) g
  · rw [hps] at h
    cases h
section
variable {X : Cx} {W : WX} {T : List (Addr × Str)} {δ : De} {ω : Om} {d : PyData} {pos p : Pos} {k : Nat} {R : Out → Prop}
theorem ex_told0 {x a : Str} {st : Stmt} {Ng : List Str} {p1 p2 p3 p8 lpos : Pos} {hd : ExceptHandler} {hs : List ExceptHandler} {params : Arguments} {body : Expr} {scope : Scope} (G : Told X.K X.mg x st) (L : LamT X T) (hT : T ≠ []) (hps : ω.ps = []) (hr : Room (k + 2) X.A)
    (hst : defBody st = [.Try [.Return (some (.Call (.Name a p1) [] [] p2)) p3] (hd :: hs) [] [] p8]) (S : FnScope Ng [a] (defScope st)) (hNg : Ng[0]? = some a) (hva : Vis (defScope st) a) (h0 : ∀ f : Addr, (L2.start Ng [V.ref f])[0]? = some (some (V.ref f)))
    (hbn : ∀ (kV doc pm : Value) (an : Option Addr) (cdv ct : Value) (us : List Value), us.length = [a].length → bindArgs (PySem.W.fnOf x x (defArgs st) (defBody st) (defScope st) .none kV doc pm an cdv ct) ⟨us, []⟩ = pure ([a].zip us))
    (hL : LamX.lamSB X.env.scope scope = true) (hdef : defaultsOf params X.env = ([], [])) (hbind : ∀ (q : Str) (cl : List (Str × Addr)) (pm cv ctv : Value), bindArgs (PySem.W.kla_fn "<lambda>" q params body scope cl pm cv ctv) ⟨[], []⟩ = pure [])
    (hb : ∀ (A : Around) (outer : List Env) (s : Shared) (H : Hp) (E : XK) (f c' : Addr), Room k (A.deeper (LamX.lamEnv X scope s.heap.objs.size f c')) → PD (LamX.lamCx X A outer s H E scope f c') δ ω body d) (hR : R (.rt (.im d) ω))
    (hg : Gl X x := by rfl) (hdb : (x == ("__debug__" : Str)) = false := by decide) (hd1 : (a == ("__debug__" : Str)) = false := by decide) (hcd1 : (a == ("__classdict__" : Str)) = false := by decide) : EX X W T (.Call (.Name x p) [.Lambda params body scope lpos] [] pos) δ ω R := fun σ H rl t Q q _ => by
  obtain ⟨g, fd, F, hm⟩ := G.ex
  obtain ⟨c, P, TB, hcode, hmT, hu⟩ := L.ex
  obtain ⟨oc, od, dV, kV, doc, pm, an, cdv, ct, osl, rfl, lk, hcd, hD, hK⟩ := F.ex
  have edV : dV = .none := by
    rcases hD with ⟨_, e⟩ | ⟨e, _⟩
    · exact e
    · exact absurd rfl e
  subst edV
  have hG : LamX.GivesTo X Ng x (defScope st) g cdv (defBody st) a (X.env.qual ++ "<lambda>") TT0 := by
    rw [hst]
    exact told0 h0
  refine we (LamX.pe_lamcall (T := T) (TT := TT0) (t := fun E σ H Q => ∀ (A : Around) (outer : List Env) (s : Shared) (H0 : Hp) (f c' : Addr), Room k (A.deeper (LamX.lamEnv X scope s.heap.objs.size f c')) → wpe (LamX.lamCx X A outer s H0 E scope f c') body σ H Q)
    hg hm F.kp lk hcd (F.bindsN hbn) S hNg hva hG TB hcode hmT hu hr (LamX.lamS_by hL) hdef hbind (fun A outer s H0 E f c' hr' => ⟨fun pins s' σ' H' Q' I h => pe_w.run pins s' σ' H' Q' I (h A outer s H0 f c' hr')⟩) hdb hd1 hcd1) ?_
  refine ⟨t, fun H1 eN T1 => ?_⟩
  show ∀ (A : Around) (outer : List Env) (s : Shared) (H0 : Hp) (f c' : Addr), Room k (A.deeper (LamX.lamEnv X scope s.heap.objs.size f c')) → wpe (LamX.lamCx X A outer s H0 (fun _ _ _ => False) scope f c') body σ H1 Q
  intro A outer s H0 f c' hr'
  have rl1 : Rl X.K H1 σ δ ω := rl_ext (T := T) eN hps rl
  refine hb A outer s H0 _ f c' hr' σ H1 rl1 Q fun v H2 s2 d2 => q _ ω v H2 hR ⟨fun b o h _ p => s2 b o (eN b o h (p.resolve_left hT)), fun a h => .inl h, rfl, fun _ => T1.ext s2⟩ (rl1.mono s2) d2
end
end FP

namespace FP
open PySem PySem.Spec PyProof.Rows L2
/-! ### raise -/
structure ExcF (K : PySem.W.Frag) (mg : Str → Option Value) (x : Str) (C : Addr) : Prop where
  xP : PySem.W.excIn K C He.veBase "ValueError.__new__" = true
  gP : mg x = some (.ref C)
  kP : PySem.W.keepIn K (.ref C) = true
  bP : PySem.W.subIn K (.ref C) (.type "BaseException") = some true
  tP : PySem.W.typeIn K (.ref C) = some (.type "type")
section
variable {X : Cx} {W : WX} {T : List (Addr × Str)} {δ : De} {ω : Om} {pos p : Pos} {R : Out → Prop} {ss : List Stmt}
theorem sd_raise {x m : Str} {C : Addr} {j : Nat} {p2 pos2 : Pos} (F : ExcF X.K X.mg x C) (tk : L2N.Takes X W) (hR : R (.ex C ω)) (hc : X.calm = true) (hg : Gl X x := by rfl) (hdb : (x == ("__debug__" : Str)) = false := by decide) :
    SD X W T (.Raise (some (.Call (.Name x p) [.Constant (.str m) j p2] [] pos)) none pos2 :: ss) δ ω R :=
  sd_cons fun σ H D rl t k => ws (L2N.ps_raise hc tk (L2N.pmk_own PySem.F.excBase_ValueError F.xP F.gP F.kP (raises_own F.bP F.tP) hg hdb)) (k.ex C ω σ H hR .refl rl.ro)
/-- a call as a statement: it may raise -/
theorem sd_callX {a : Expr} {es : List Expr} {x : Str} {k : Nat} {ds : List PyData} {fr : List PyData → Rs → Prop} {rr : Rs} {pos2 : Pos} (G : DefOk X.prog X.w X.K X.mg X.base k x fr) (hr : Room k X.A) (tk : L2N.Takes X W) (ha : PDs X δ ω (a :: es) ds) (hf : fr ds rr)
    (h1 : ∀ d, rr = .ok d → SD X W T ss δ ω R) (h2 : ∀ C, rr = .er C → R (.ex C ω)) (hg : Gl X x := by rfl)
    (hdb : (x == ("__debug__" : Str)) = false := by decide) (he : starEach (a :: es) X.env = (false, eval a X.env) :: starEach es X.env := by rfl) (hpl : (backTo pos (starEach es X.env)).any (·.1) = false := by rfl)
    (hs : swapsWith (.Call (.Name x p) (a :: es) [] pos) none pos2.line X.env = pure false := by rfl) : SD X W T (.Expr (.Call (.Name x p) (a :: es) [] pos) pos2 :: ss) δ ω R :=
  sd_exprX (ex_call G hr tk ha hf (by
    cases rr with
    | ok d => exact h1 d rfl
    | er C => exact h2 C rfl) hg hdb he hpl) hs
end
end FP

namespace FP
open PySem PySem.Spec PyProof.Rows L2
/-! ### data that may be compared -/
def Shp (n : Nat) (d : PyData) : Prop := d.canLay0 = true ∧ d.depth ≤ n
theorem shp_all {n : Nat} : ∀ {ds : List PyData}, (∀ x ∈ ds, Shp n x) → PyData.canLayAll0 ds = true ∧ PyData.depthAll ds ≤ n
  | [], _ => ⟨rfl, Nat.zero_le _⟩
  | x :: xs, h => by
    obtain ⟨a, b⟩ := shp_all (ds := xs) fun y hy => h y (List.mem_cons_of_mem _ hy)
    obtain ⟨c, d⟩ := h x List.mem_cons_self
    constructor
    · show (x.canLay0 && PyData.canLayAll0 xs) = true
      rw [c, a]
      rfl
    · show max x.depth (PyData.depthAll xs) ≤ n
      omega
theorem Shp.tup {n : Nat} {ds : List PyData} (h : ∀ x ∈ ds, Shp n x) : Shp (n + 1) (.tuple ds) := ⟨(shp_all h).1, by
  show PyData.depthAll ds + 1 ≤ n + 1
  have := (shp_all h).2
  omega⟩
theorem Shp.lst {n : Nat} {ds : List PyData} (h : ∀ x ∈ ds, Shp n x) : Shp (n + 1) (.list ds) := ⟨(shp_all h).1, by
  show PyData.depthAll ds + 1 ≤ n + 1
  have := (shp_all h).2
  omega⟩
theorem Shp.int {n : Nat} (i : Int) : Shp n (.int i) := ⟨rfl, Nat.zero_le _⟩
theorem Shp.non {n : Nat} : Shp n .none := ⟨rfl, Nat.zero_le _⟩
theorem Shp.bl {n : Nat} (b : Bool) : Shp n (.bool b) := ⟨rfl, Nat.zero_le _⟩
theorem Shp.str {n : Nat} {z : Str} (h : PyData.strOk z = true) : Shp n (.str z) := ⟨h, Nat.zero_le _⟩
theorem Shp.ok {n : Nat} {d : PyData} (h : Shp n d) (hn : n ≤ 64 := by decide) : SeqAt.shaped d = true := by
  unfold SeqAt.shaped
  rw [h.1, decide_eq_true (Nat.le_trans h.2 hn)]
  rfl
theorem Shp.refl {n : Nat} {d : PyData} (h : Shp n d) : PyData.eqv d d = true := SeqAt.eqv_refl d h.1
end FP

namespace FP
open PySem PySem.Spec PyProof.Rows L2
/-! ### expressions that make lambdas -/
def PX (X : Cx) (T : List (Addr × Str)) (δ : De) (ω : Om) (e : Expr) (d : PyData) : Prop := ∀ σ H, Rl X.K H σ δ ω → LamX.Tabs T H → ∀ Q : VK, (∀ v H', Stp T ω ω H H' → Rl X.K H' σ δ ω → Dp X.K (hid (ads ω) H') v d → Q v H') → wpe X e σ H Q
def PXt (X : Cx) (T : List (Addr × Str)) (δ : De) (ω : Om) (e : Expr) (k : Bool) : Prop := ∀ σ H, Rl X.K H σ δ ω → LamX.Tabs T H → ∀ Q : Bool → Hp → Prop, (∀ H', Stp T ω ω H H' → Rl X.K H' σ δ ω → Q k H') → wpt X e σ H Q
def PXw (X : Cx) (T : List (Addr × Str)) (δ : De) (ω : Om) (e : Expr) (k : Bool) : Prop := ∀ σ H, Rl X.K H σ δ ω → LamX.Tabs T H → ∀ Q : Bool → Hp → Prop, (∀ H', Stp T ω ω H H' → Rl X.K H' σ δ ω → Q k H') → wpw X e σ H Q
def PXs (X : Cx) (T : List (Addr × Str)) (δ : De) (ω : Om) (es : List Expr) (ds : List PyData) : Prop := ∀ σ H, Rl X.K H σ δ ω → LamX.Tabs T H → ∀ Q : List V → Hp → Prop, (∀ vs H', Stp T ω ω H H' → Rl X.K H' σ δ ω → DpAll X.K (hid (ads ω) H') vs ds → Q vs H') → wpa X es σ H Q
section
variable {X : Cx} {W : WX} {T : List (Addr × Str)} {δ : De} {ω : Om} {a b c e : Expr} {es r : List Expr} {d da db dz : PyData} {ds : List PyData} {pos p : Pos} {k x y : Bool} {R : Out → Prop} {ss sa sb : List Stmt}
theorem PD.px (h : PD X δ ω e d) : PX X T δ ω e d := fun σ H rl t Q q => h σ H rl Q fun v H' s dv => q v H' (.of s) (rl.mono s) dv
theorem PTd.xt (h : PTd X δ ω e k) : PXt X T δ ω e k := fun σ H rl t Q q => h σ H rl Q fun H' s => q H' (.of s) (rl.mono s)
theorem PXw.xt (h : PXw X T δ ω e k) : PXt X T δ ω e k := fun σ H rl t Q q => wt (PW.pt pw_w) (h σ H rl t Q q)
theorem xt_cmp {op : CmpOp} {r : R2} (ho : OpR X (compareOp op) r) (hr : RD X.K r da db (.bool k)) (ha : PX X T δ ω a da) (hb : PX X T δ ω b db) (hm : behindInMarks op b = false) : PXt X T δ ω (.Compare a [op] [b] pos) k := fun σ H rl t Q q =>
  wt (pt_cmpR ho pe_w pe_w hm) (ha σ H rl t _ fun x H1 s1 l1 d1 => hb σ H1 l1 (s1.tab t) _ fun y H2 s2 l2 d2 =>
    hr _ x y H2 l2.ro.there (dp_ke s2.seen da x d1) d2 _ fun z H3 s3 d3 => by
      cases d3
      exact ⟨_, rfl, q H3 ((s1.trans s2).trans (.of s3)) (l2.mono s3)⟩)
theorem xt_not (h : PXt X T δ ω e k) : PXt X T δ ω (.UnaryOp .Not e pos) (!k) := fun σ H rl t Q q => wt (pt_not pt_w) (h σ H rl t _ fun H1 s1 l1 => q H1 s1 l1)
theorem xw_or1 (h : PXt X T δ ω a k) : PXw X T δ ω (.BoolOp .Or [a] pos) k := fun σ H rl t Q q => ww (pw_or1 pt_w) (h σ H rl t Q q)
theorem xw_and1 (h : PXt X T δ ω a k) : PXw X T δ ω (.BoolOp .And [a] pos) k := fun σ H rl t Q q => ww (pw_and1 pt_w) (h σ H rl t Q q)
theorem xw_or (h : PXt X T δ ω a x) (h2 : x = false → PXw X T δ ω (.BoolOp .Or (b :: r) pos) y) : PXw X T δ ω (.BoolOp .Or (a :: b :: r) pos) (x || y) := fun σ H rl t Q q =>
  ww (pw_or pt_w pw_w) (h σ H rl t _ fun H1 s1 l1 => by
    cases x with
    | true => exact iteT (q H1 s1 l1)
    | false => exact iteF (h2 rfl σ H1 l1 (s1.tab t) Q fun H2 s2 l2 => q H2 (s1.trans s2) l2))
theorem xw_and (h : PXt X T δ ω a x) (h2 : x = true → PXw X T δ ω (.BoolOp .And (b :: r) pos) y) : PXw X T δ ω (.BoolOp .And (a :: b :: r) pos) (x && y) := fun σ H rl t Q q =>
  ww (pw_and pt_w pw_w) (h σ H rl t _ fun H1 s1 l1 => by
    cases x with
    | true => exact iteT (h2 rfl σ H1 l1 (s1.tab t) Q fun H2 s2 l2 => q H2 (s1.trans s2) l2)
    | false => exact iteF (q H1 s1 l1))
theorem sd_setx (i : Nat) {x : Str} {pos' : Pos} (he : PX X T δ ω e d) (hk : SD X W T ss (δ.set i (some (.im d))) ω R) (hN : X.N.Nodup) (hi : X.N[i]? = some x := by rfl) (hx : Loc X.env.scope x := by first | exact Or.inl rfl | exact Or.inr rfl) (hs : swapsWith e (some (.Name x pos')) pos.line X.env = pure false := by rfl)
    (hf : X.fn x = true ∨ X.env.scope.names.lookup x = some .local := by first | exact .inl rfl | exact .inr rfl | assumption) : SD X W T (.Assign [.Name x pos'] e pos :: ss) δ ω R :=
  sd_cons (s1_set i (fun σ H rl t Q q _ => he σ H rl t Q fun v H' s l dv => q (.im d) ω v H' hk s l dv) hN hi hx hs hf)
theorem sd_ifx {kk : Bool} (h : PXt X T δ ω c kk) (h1 : kk = true → SD X W T sa δ ω (Nxt X W T ss R)) (h2 : kk = false → SD X W T sb δ ω (Nxt X W T ss R)) : SD X W T (.If c sa sb pos :: ss) δ ω R :=
  sd_cons fun σ H D rl t k => ws (ps_if pt_w pss_w pss_w) (h σ H rl t _ fun H' s l => by
    cases kk with
    | true => exact iteT (h1 rfl σ H' D l (s.tab t) (k.step s))
    | false => exact iteF (h2 rfl σ H' D l (s.tab t) (k.step s)))
theorem sd_ifxF (h : PXt X T δ ω c false) (h2 : SD X W T ss δ ω R) : SD X W T (.If c sa [] pos :: ss) δ ω R := sd_ifx h (fun z => by cases z) fun _ => sd_nil h2
theorem pxs_nil : PXs X T δ ω [] [] := fun σ H rl t Q k => wa pa_nil (k [] H .refl rl .nil)
theorem pxs_cons (ha : PX X T δ ω e d) (hr : PXs X T δ ω es ds) (hs : starEach (e :: es) X.env = (false, eval e X.env) :: starEach es X.env := by rfl) : PXs X T δ ω (e :: es) (d :: ds) := fun σ H rl t Q k =>
  wa (pa_cons pe_w pa_w hs) (ha σ H rl t _ fun v H1 s1 l1 d1 => hr σ H1 l1 (s1.tab t) _ fun vs H2 s2 l2 d2 => k (v :: vs) H2 (s1.trans s2) l2 (.cons (dp_ke s2.seen d v d1) d2))
end
section
variable {X : Cx} {T : List (Addr × Str)} {δ : De} {ω : Om} {d : PyData} {pos p : Pos} {k : Nat}
theorem px_told0 {x a : Str} {st : Stmt} {Ng : List Str} {p1 p2 p3 p8 lpos : Pos} {hd : ExceptHandler} {hs : List ExceptHandler} {params : Arguments} {body : Expr} {scope : Scope} (G : Told X.K X.mg x st) (L : LamT X T) (hT : T ≠ []) (hps : ω.ps = []) (hr : Room (k + 2) X.A)
    (hst : defBody st = [.Try [.Return (some (.Call (.Name a p1) [] [] p2)) p3] (hd :: hs) [] [] p8]) (S : FnScope Ng [a] (defScope st)) (hNg : Ng[0]? = some a) (hva : Vis (defScope st) a) (h0 : ∀ f : Addr, (L2.start Ng [V.ref f])[0]? = some (some (V.ref f)))
    (hbn : ∀ (kV doc pm : Value) (an : Option Addr) (cdv ct : Value) (us : List Value), us.length = [a].length → bindArgs (PySem.W.fnOf x x (defArgs st) (defBody st) (defScope st) .none kV doc pm an cdv ct) ⟨us, []⟩ = pure ([a].zip us))
    (hb : ∀ (A : Around) (outer : List Env) (s : Shared) (H : Hp) (E : XK) (f c' : Addr), Room k (A.deeper (LamX.lamEnv X scope s.heap.objs.size f c')) → PD (LamX.lamCx X A outer s H E scope f c') δ ω body d)
    (hL : LamX.LamS X.env.scope scope) (hdef : defaultsOf params X.env = ([], []) := by rfl) (hbind : ∀ (q : Str) (cl : List (Str × Addr)) (pm cv ctv : Value), bindArgs (PySem.W.kla_fn "<lambda>" q params body scope cl pm cv ctv) ⟨[], []⟩ = pure [] := by intros; rfl)
    (hg : Gl X x := by rfl) (hdb : (x == ("__debug__" : Str)) = false := by decide) (hd1 : (a == ("__debug__" : Str)) = false := by decide) (hcd1 : (a == ("__classdict__" : Str)) = false := by decide) : PX X T δ ω (.Call (.Name x p) [.Lambda params body scope lpos] [] pos) d := fun σ H rl t Q q => by
  obtain ⟨g, fd, F, hm⟩ := G.ex
  obtain ⟨c, P, TB, hcode, hmT, hu⟩ := L.ex
  obtain ⟨oc, od, dV, kV, doc, pm, an, cdv, ct, osl, rfl, lk, hcd, hD, hK⟩ := F.ex
  have edV : dV = .none := by
    rcases hD with ⟨_, e⟩ | ⟨e, _⟩
    · exact e
    · exact absurd rfl e
  subst edV
  have hG : LamX.GivesTo X Ng x (defScope st) g cdv (defBody st) a (X.env.qual ++ "<lambda>") TT0 := by
    rw [hst]
    exact told0 h0
  refine we (LamX.pe_lamcall (T := T) (TT := TT0) (t := fun E σ H Q => ∀ (A : Around) (outer : List Env) (s : Shared) (H0 : Hp) (f c' : Addr), Room k (A.deeper (LamX.lamEnv X scope s.heap.objs.size f c')) → wpe (LamX.lamCx X A outer s H0 E scope f c') body σ H Q)
    hg hm F.kp lk hcd (F.bindsN hbn) S hNg hva hG TB hcode hmT hu hr hL hdef hbind (fun A outer s H0 E f c' hr' => ⟨fun pins s' σ' H' Q' I h => pe_w.run pins s' σ' H' Q' I (h A outer s H0 f c' hr')⟩) hdb hd1 hcd1) ?_
  refine ⟨t, fun H1 eN T1 => ?_⟩
  show ∀ (A : Around) (outer : List Env) (s : Shared) (H0 : Hp) (f c' : Addr), Room k (A.deeper (LamX.lamEnv X scope s.heap.objs.size f c')) → wpe (LamX.lamCx X A outer s H0 (fun _ _ _ => False) scope f c') body σ H1 Q
  intro A outer s H0 f c' hr'
  have rl1 : Rl X.K H1 σ δ ω := rl_ext (T := T) eN hps rl
  refine hb A outer s H0 _ f c' hr' σ H1 rl1 Q fun v H2 s2 d2 => q v H2 ⟨fun b o h _ p => s2 b o (eN b o h (p.resolve_left hT)), fun a h => .inl h, rfl, fun _ => T1.ext s2⟩ (rl1.mono s2) d2
end
end FP

namespace FP
open PySem PySem.Spec PyProof.Rows L2
/-! ### the law's end -/
theorem law_at {l : PySem.W.OpenLaw} {w : World} {K : PySem.W.Frag} {mg : Str → Option Value} {h : Heap} {fa : List He.Fa} {fn : List He.DefD} {ts : List He.Tab} {ex : PySem.W.Frag → Bool} {params : Arguments} {body : List Stmt} {scope : Scope} {f : Addr} {N : List Str} {k : Nat} {x : Str}
    (KX : K.In h) (G : h.Ns mainGlobals mg) (hfa : mg "law" = some (.ref f)) (c : He.SaysX fa fn ts [("law", none)] ex w h K) (hd : (⟨("law", none), "law", "law", params, body, scope, [], []⟩ : He.DefD) ∈ fn) (hg : He.Fa.glo "law" ∈ fa) (S : FnScope N [x] scope)
    (hb : ∀ (kV doc pm : Value) (an : Option Addr) (cdv ct : Value) (us : List Value), us.length = [x].length → bindArgs (PySem.W.fnOf "law" "law" params body scope .none kV doc pm an cdv ct) ⟨us, []⟩ = pure ([x].zip us))
    (hbody : ∀ (base : Heap), K.In base → base.Ns mainGlobals mg → ∀ (T : List (Addr × Str)) (cdv : Value) (A : Around) (outer : List Env) (s : Shared) (H : Hp) (E : XK) (ns : List Int), T ≠ [] → LamT (cxOf (L2N.CX l.prog w) l.prog w K mg base N "law" scope f cdv A outer s H E) T →
      Room k (A.deeper (envOfC "law" scope s.heap.objs.size f cdv)) → ns.length ≤ 63 → (∀ z ∈ ns, Builtin.Int.intBits z ≤ 1048576) →
      SD (cxOf (L2N.CX l.prog w) l.prog w K mg base N "law" scope f cdv A outer s H E) (WOf E) T body (startD N [.list (ns.map .int)]) ⟨[], []⟩ FinT) :
    LamX.LawAtS l w K (L2N.CX l.prog w) (k + 1) 63 x mg f h := by
  have cd := c.t.d
  obtain ⟨fd, F⟩ := cd.defs hd
  have e := hfa.symm.trans (He.glo_ok KX G (cd.facts hg))
  cases e
  obtain ⟨oc, od, dV, kV, doc, pm, an, cdv, ct, osl, rfl, lk, hcd, hD, hK⟩ := F.ex
  have edV : dV = .none := by
    rcases hD with ⟨_, e⟩ | ⟨e, _⟩
    · exact e
    · exact absurd rfl e
  subst edV
  obtain ⟨cc, rfl⟩ := He.codeIn_ref hcd
  have ec : He.codeOf K ("law", none) = cc := He.codeOf_eq lk rfl
  have mem : (("law", none) : He.Defn) ∈ ([("law", none)] : List He.Defn) := List.mem_singleton.mpr rfl
  have hbA := FunD.bindsA (ps := [x]) F hb
  refine ⟨_, [He.cT K ("law", none)], spL K [((He.cT K ("law", none)).2, (Str.ofString "law" ++ ".<locals>.") ++ "<lambda>")], fun p hp => ?_, fun p hp => ?_, fun p hp => ?_, fun s u => hbA s [u] rfl, fun H a ns h1 h2 h3 h4 => ?_, fun base hB hN hTB => ?_⟩
  · rw [List.mem_singleton.mp hp]
    exact c.empty _ mem
  · rw [List.mem_singleton.mp hp]
    exact c.out _ mem
  · rw [List.mem_singleton.mp hp]
    exact PySem.W.codeHd_of_K KX (c.hd _ mem)
  · refine ⟨a, ns, rfl, h4, h1, h2, fun p hp => ?_, fun _ => rfl⟩
    rw [List.mem_singleton.mp hp]
    exact LamX.TabS.nil (h3 _ (List.mem_singleton.mpr rfl))
  · refine law_ok lk hcd S fun A outer s H E ns hr h1 h2 => hbody base hB hN _ (.ref cc) A outer s H E ns (by simp) ⟨cc, (He.cT K ("law", none)).2, ?_, rfl, List.mem_singleton.mpr rfl, fun p hp _ => by rw [List.mem_singleton.mp hp]; rfl⟩ hr h1 h2
    have z := hTB _ (List.mem_singleton.mpr rfl)
    have e1 : (He.cT K ("law", none)).1 = cc := ec
    rw [← e1]
    exact z
theorem cx_none {P : Program} {w : World} {H : Hp} {s : Shared} {e : Value} {s' : Shared} (h : L2N.CX P w [] H s (fun _ _ _ => False) e s') : False := by
  obtain ⟨_, _, _, _, _, _, _, _, _, _, _, _, z⟩ := h
  exact z.elim
theorem exc_of {K : PySem.W.Frag} {mg : Str → Option Value} {h : Heap} (KX : K.In h) (G : h.Ns mainGlobals mg) {x : Str} (c1 : (He.Fa.glo x).ok K = true) (c2 : (He.Fa.exc x).ok K = true) : ExcF K mg x (He.ga K x) := by
  obtain ⟨a, b, c, d⟩ := He.exc_ok c2
  exact ⟨a, He.glo_ok KX G c1, b, c, d⟩
theorem gld_int {K : PySem.W.Frag} {mg : Str → Option Value} {h : Heap} (KX : K.In h) (G : h.Ns mainGlobals mg) {x : Str} {i : Int} (c : (He.Fa.int x i).ok K = true) : GlD K mg x (.int i) := by
  obtain ⟨t, e⟩ := He.int_ok KX G c
  exact ⟨.int i, _, e, ⟨t, rfl⟩, fun _ => .int i⟩
end FP

namespace FP
open PySem PySem.Spec PyProof.Rows L2 HotX L2H
/-! ### while an exception is handled: a list is walked to its end -/
section
variable {prog : Program} {w : World} {A : Around} {E : Value → Shared → Prop} {s : Shared}
theorem next_end_hot {it l p : Addr} {i : Nat} {items : Array Value} {Q : Option Value → Shared → Prop} (hot : HotAt A p s.heap) (hp : p ≠ it) (hi : s.heap.IsListIter it l i) (hl : s.heap.IsList l items) (hx : items[i]? = none)
    (hQ : ∀ h', (∀ b o, b ≠ it → s.heap.get? b = some o → h'.get? b = some o) → Q none { s with heap := h' }) : wpAny (model prog w) A (pyNext (.ref it)) Q E s := by
  obtain ⟨oi, gi, ci, di⟩ := id hi
  obtain ⟨ol, gl, _, nl, dl⟩ := hl
  obtain ⟨hh, oe, ve, ge, de, ce⟩ := hot
  unfold pyNext
  refine wpAny_bind (wpAny_attempt (wpAny_callSpecial?_slot (name := Str.ofString "__next__") hi.typeIs slot_listiter_next (wpAny_call_entry slot_listiter_next hi.typeIs entry_listiter_next ?_ (args_listiter_next _))))
  show wpAny _ _ (field (.ref it) 0 >>= _) _ _ s
  refine wpAny_bind (wpAny_field gi di (x := .ref l) rfl ?_)
  show wpAny _ _ (if (Value.ref l == Value.none) = true then _ else _) _ _ s
  rw [if_neg (c := (Value.ref l == Value.none) = true) Bool.false_ne_true]
  show wpAny _ _ (field (.ref it) 1 >>= _) _ _ s
  refine wpAny_bind (wpAny_field gi di (x := .int i 0) rfl ?_)
  show wpAny _ _ (seqItems? (.ref l) >>= _) _ _ _
  refine wpAny_bind (wpAny_seqItems gl dl ?_)
  simp only [Int.toNat_natCast, hx]
  refine wpAny_bind (wpAny_rule (wpAny_bind (wpAny_setField gi di (by simp) ?_)))
  show wpAny _ _ (newExc (.type "StopIteration") [] >>= fun e => raiseNew e) _ _ _
  have ge1 : (s.heap.update it (Obj.mapFields (·.setIfInBounds 0 Value.none))).get? p = some oe := (Heap.get?_update_other _ _ (Ne.symm hp)).trans ge
  have old : ∀ b o, b ≠ it → s.heap.get? b = some o → (s.heap.update it (Obj.mapFields (·.setIfInBounds 0 Value.none))).get? b = some o := fun b o n z => (Heap.get?_update_other _ _ (Ne.symm n)).trans z
  refine wpAny_bind ?_
  simp only [newExc, newTuple]
  refine wpAny_bind (wpAny_newObj_type (wpAny_bind (m := firstArgMember _ _) (wpAny_of_eq (a := Value.none) (by first | rfl | (simp only [firstArgMember]; rfl)) (wpAny_newObj_type ?_ (by size_fits)))) (by size_fits))
  refine raiseNew_hot ⟨hh, oe, ve, Heap.get?_push_of_some _ (Heap.get?_push_of_some _ ge1), de, ce⟩ (Nat.ne_of_lt (Heap.lt_size (Heap.get?_push_of_some _ ge1))) (Heap.get?_push_size _ rfl) rfl (by first | (simp; done) | (simp; omega) | (simp only [Array.size_append]; simp; omega)) ?_
  refine wpAny_bind (wpAny_isInstance (T := "StopIteration") (b := true) ⟨_, Heap.get?_update_self _ (Heap.get?_push_size _ rfl) rfl, rfl⟩ isSubtype_stop (wpAny_pure (hQ _ fun b o n z => ?_)))
  rw [Heap.get?_update_other _ _ (Nat.ne_of_gt (Heap.lt_size (Heap.get?_push_of_some _ (old b o n z))))]
  exact Heap.get?_push_of_some _ (Heap.get?_push_of_some _ (old b o n z))
end
end FP

namespace FP
open PySem PySem.Spec PyProof.Rows L2 HotX L2H
/-- a list that is walked while p is handled -/
theorem walk_hot {prog : Program} {w : World} {A : Around} {it l p : Addr} {items : Array Value} (hl : l ≠ it) (hp : p ≠ it) :
    WalksS prog w A it [it, l, p] [it] (fun a b => b = a) items.size (fun i v => items[i]? = some v) (fun i s => s.heap.IsListIter it l i ∧ s.heap.IsList l items ∧ HotAt A p s.heap) where
  sub := fun b hb => by
    rw [List.mem_singleton.mp hb]
    exact List.mem_cons_self
  grefl := fun _ => rfl
  gtrans := fun _ _ _ a b => b.trans a
  frame := fun i s h' tk st _ k => by
    obtain ⟨s1, s2, hh, oe, ve, ge, de, ce⟩ := st
    exact ⟨s1.at fun o e => k it (by simp) o e, s2.at fun o e => k l (by simp) o e, hh, oe, ve, k p (by simp) _ ge, de, ce⟩
  item := fun i s Q E hi st q => by
    obtain ⟨s1, s2, hh, oe, ve, ge, de, ce⟩ := st
    refine wpAny_pyNext_list_item s1 s2 (x := items[i]) (by simp [hi]) fun h' t sb => q _ _ (by simp [hi]) ⟨t, s2.extBut sb.extBut hl, hh, oe, ve, (sb.2 p hp).trans ge, de, ce⟩ ⟨fun b o hb e => (sb.2 b fun z => hb (by simp [z])).trans e, rfl, rfl, rfl, Nat.le_refl _⟩
  done := fun s Q E st q => by
    obtain ⟨s1, s2, h⟩ := st
    exact next_end_hot h hp s1 s2 (by simp) fun h' k => q _ ⟨fun b o hb e => k b o (fun z => hb (by simp [z])) e, rfl, rfl, rfl, Nat.le_refl _⟩
  self := fun _ _ _ _ st h => wpAny_pyIter_listiter st.1 h
theorem preSum_take {f : Nat → Int} {ns : List Int} (h : ∀ i, i < ns.length → f i = ns.getD i 0) : ∀ j, j ≤ ns.length → preSum f j = (ns.take j).sum
  | 0, _ => by simp [preSum]
  | j + 1, hj => by
    have e : ns.take (j + 1) = ns.take j ++ [ns.getD j 0] := by
      rw [List.take_add_one]
      simp [List.getElem?_eq_getElem (show j < ns.length by omega)]
    rw [preSum, preSum_take h j (by omega), h j (by omega), e, List.sum_append]
    simp
/-- sum(xs) of a list of whole numbers, while an exception is handled -/
theorem cr_sumH {X : Cx} (hc : HotC X) : CallR X (.builtin "sum") (rSum X.K) := by
  intro pins s σ H vs us Q I r h
  obtain ⟨a, ns, rfl, hs, q⟩ := h
  obtain ⟨its, rv, hl, _⟩ := I.list hs
  obtain ⟨p, hh, oe, ve, ge, de, ce⟩ := hc.at I
  rw [Vals.ref1 r]
  have lt : a < s.heap.objs.size := by
    obtain ⟨_, e, _⟩ := hl.isList
    exact Heap.lt_size e
  have ltp : p < s.heap.objs.size := Heap.lt_size ge
  have len : its.length = ns.length := by
    rw [← rv.length, List.length_map]
  refine call_sum_walkAnyS (wpAny_pyIter_list hl.isList ?_)
  refine ⟨_, _, _, _, _, _, _, fun i => ns.getD i 0, rfl, walk_hot (l := a) (p := p) (items := its.toArray) (Nat.ne_of_lt lt) (Nat.ne_of_lt ltp), ⟨⟨_, Heap.get?_push_size _ rfl, rfl, rfl⟩, hl.isList.push _, hh, oe, ve, Heap.get?_push_of_some _ ge, de, ce⟩, fun b hb => ?_, fun i v hv => ?_, fun s' t' m => ?_⟩
  · rw [Heap.size_push]
    rcases List.mem_cons.mp hb with z | hb
    · rw [z]
      exact Nat.lt_succ_self _
    · rcases List.mem_cons.mp hb with z | hb
      · rw [z]
        exact Nat.lt_succ_of_lt lt
      · rw [List.mem_singleton.mp hb]
        exact Nat.lt_succ_of_lt ltp
  · have hi : i < ns.length := by
      have := (Array.getElem?_eq_some_iff.mp hv).1
      simp at this
      omega
    have e1 : (ns.map V.int)[i]? = some (V.int (ns.getD i 0)) := by
      rw [List.getElem?_map, List.getElem?_eq_getElem hi, List.getD_eq_getElem?_getD, List.getElem?_eq_getElem hi]
      rfl
    obtain ⟨u, hu, ru⟩ := rv.get e1
    have e2 : some v = some u := by
      rw [← hv, ← hu]
      simp
    cases e2
    exact ru
  · have e := preSum_take (f := fun i => ns.getD i 0) (ns := ns) (fun _ _ => rfl) ns.length (Nat.le_refl _)
    have e2 : its.toArray.size = ns.length := by simp [len]
    rw [e2, e, List.take_length]
    obtain ⟨m1, m2, m3, m4, m5⟩ := m
    obtain ⟨h', g', d', k', o'⟩ := s'
    cases m2
    cases m3
    cases m4
    exact ⟨.int _, H, I.kept (h' := h') (t' := k') fun b o z => m1 b o (fun n => by
      rw [List.mem_singleton.mp n] at z
      exact absurd (Heap.lt_size z) (Nat.lt_irrefl _)) (Heap.get?_push_of_some _ z), ⟨_, rfl⟩, q⟩
end FP

namespace FP
open PySem PySem.Spec PyProof.Rows L2 HotX L2H
/-- [elt for name in a list], while an exception is handled; what comes out lies on no heap -/
def tLh (K : PySem.W.Frag) (j : Nat) (tl te : TE) : TE := fun σ H Q => tl σ H fun v G => ∃ (a : Addr) (xs ys : List V), v = .ref a ∧ SqL K G a xs ∧ ys.length = xs.length ∧ xs.length ≤ 1000 ∧
  (∀ (i : Nat) (x y : V), xs[i]? = some x → ys[i]? = some y → ∀ G1, Same G G1 → ∀ R : VK, (∀ G2, Same G1 G2 → R y G2) → te (σ.set j (some x)) G1 R) ∧
  ∀ D G1, G D = none → Same G G1 → G1 D = some (.lst ys) → Q (.ref D) G1
section
variable {X : Cx}
theorem pe_lcH {elt l : Expr} {scope : Scope} {y : Str} {py pos : Pos} {j : Nat} {tl te : TE} (hc : HotC X) (hN : X.N.Nodup) (hl : PE X l tl) (ok : BlkOk X.N X.env.scope scope [(y, j)])
    (hg : ∀ (s : Shared) (H : Hp) (C : Addr) (cl : List (Str × Addr)) (fp : List Addr), PG (X.blk s H scope (compEnvC scope cl C X.env) fp) (.Name y py) (gName j))
    (he : ∀ (s : Shared) (H : Hp) (C : Addr) (cl : List (Str × Addr)) (fp : List Addr), PE (X.blk s H scope (compEnvC scope cl C X.env) fp) elt te)
    (hs : ∀ x, foldedSetIterable l X.env x = pure x := by intro _; rfl) : PE X (.ListComp elt [⟨.Name y py, l, [], 0⟩] scope pos) (tLh X.K j tl te) := by
  refine ⟨fun pins s0 σ H Q I h => ?_⟩
  have clo : ∀ z ∈ scope.names, z.2 = .free → ∃ c, X.env.cells.lookup z.1 = some c := fun z hz e => I.ok.has _ ((ok.free z hz e).elim .inl .inr)
  rw [eval_ListComp]
  refine wpAny_comprehension_free (use := none) rfl hs (closure_ok clo) ok.kind (fun z hz e => by rw [ok.uniq z hz, e]) (thn (hl.run pins s0 σ H _ I h) fun lv sa hx => ?_)
  obtain ⟨v, G, Ia, rv, a, xs, ys, ev, hsq, hlen, hsm, hstep, hend⟩ := hx
  subst ev
  obtain rfl : lv = Value.ref a := rv
  obtain ⟨its, rits, pl, _⟩ := Ia.list hsq
  obtain ⟨pp, hot1, hpn⟩ := hc
  have PP := Ia.pin pp (List.mem_append_left _ hpn)
  obtain ⟨hh, ve, de, ce⟩ := hot1
  -- the iterator, then the new list
  refine wpAny_pyIter_list pl.isList (wpAny_newObj_type (newEnv_comp ?_) (by show 0 ≤ sizeLine; decide))
  generalize eI : sa.heap.objs.size = it
  have fI : FpOk X pins G it := Ia.fpOk (Nat.le_of_eq eI) (Ia.hok.fresh (Nat.le_of_eq eI))
  generalize eb : ({ sa with heap := sa.heap.push { cls := .type "list_iterator", data := .fields #[.ref a, .int 0 0] } } : Shared) = sb
  have hb : sb.heap = sa.heap.push { cls := .type "list_iterator", data := .fields #[.ref a, .int 0 0] } := by rw [← eb]
  have Ib : Inv X pins σ G sb := by
    rw [← eb]
    exact Ia.kept (t' := sa.toks) fun b o e => Heap.get?_push_of_some _ e
  have turn0 : sb.heap.IsListIter it a 0 := by
    rw [hb, ← eI]
    exact ⟨_, Heap.get?_push_size _ rfl, rfl, rfl⟩
  have szI : it < sb.heap.objs.size := by
    obtain ⟨_, e, _⟩ := turn0
    exact Heap.lt_size e
  generalize eD : sb.heap.objs.size = D
  have nD : G D = none := Ib.hok.fresh (Nat.le_of_eq eD)
  have ItD : it ≠ D := by
    rw [← eD]
    exact Nat.ne_of_lt szI
  generalize ec : ({ sb with heap := sb.heap.push { cls := .type "list", data := .seq ([] : List Value).toArray } } : Shared) = sc
  have hcH : sc.heap = sb.heap.push { cls := .type "list", data := .seq ([] : List Value).toArray } := by rw [← ec]
  have Ic : Inv X pins σ (upd G D (.lst [])) sc := by
    rw [← ec]
    refine Ib.laid (t' := sb.toks) (fun b o e => Heap.get?_push_of_some _ e) (Nat.le_of_eq eD) ⟨Nat.zero_le _, [], 0, .nil, ?_⟩
    rw [← eD]
    exact Heap.get?_push_size _ rfl
  have fIc : FpOk X pins (upd G D (.lst [])) it := ⟨by rw [upd_ne ItD]; exact fI.1, fI.2⟩
  have szc : it < sc.heap.objs.size := by
    rw [hcH, Heap.size_push]
    exact Nat.lt_succ_of_lt szI
  have all1 : ∀ b ∈ [it], FpOk X pins (upd G D (.lst [])) b ∧ b < sc.heap.objs.size := fun b hb1 => by
    rw [List.mem_singleton.mp hb1]
    exact ⟨fIc, szc⟩
  have Id := block_start Ic ok hN all1
  have pg := hg sc (upd G D (.lst [])) sc.heap.objs.size (cellsFrom (sc.heap.objs.size + 1) scope.names (cloFrom X.env.cells scope.names [])) [it]
  have pe := he sc (upd G D (.lst [])) sc.heap.objs.size (cellsFrom (sc.heap.objs.size + 1) scope.names (cloFrom X.env.cells scope.names [])) [it]
  have PPc := Ic.pin pp (List.mem_append_left _ hpn)
  have nPit : pp.1 ≠ it := fI.2.2.2.2.2 pp (List.mem_append_left _ hpn)
  have nPstk : pp.1 ∉ frs X.stack := fun z => (List.mem_cons.mp (Ic.stkSub pp.1 z)).elim PPc.2.2.1 PPc.2.2.2.1
  show codeAny _ _ (.compStart (.ListComp elt [⟨.Name y py, l, [], 0⟩] scope pos) 0 (.ref it) (.ref D) (compEnvC scope (cellsFrom (sc.heap.objs.size + 1) scope.names (cloFrom X.env.cells scope.names [])) sc.heap.objs.size X.env)) (compPost (model X.prog X.w) X.A X.xe none _ (.ref D) sc.heap.objs.size) { sc with heap := pushCells (sc.heap.push { cls := .type "dict", data := .dict #[] }) scope.names }
  generalize eE : compEnvC scope (cellsFrom (sc.heap.objs.size + 1) scope.names (cloFrom X.env.cells scope.names [])) sc.heap.objs.size X.env = ce1 at Id pg pe ⊢
  have eL : ce1.locals = sc.heap.objs.size := by
    subst eE
    rfl
  generalize ed : ({ sc with heap := pushCells (sc.heap.push { cls := .type "dict", data := .dict #[] }) scope.names } : Shared) = sd at Id ⊢
  have turnD : sd.heap.IsListIter it a 0 := turn0.at fun o e => by
    rw [← ed]
    refine pushCells_keeps _ _ _ _ (Heap.get?_push_of_some _ ?_)
    rw [hcH]
    exact Heap.get?_push_of_some _ e
  -- what holds at the i-th turn
  have hotIn : ∀ {σ' : L2.St} {H' : Hp} {s' : Shared} {pins' : List (Addr × Obj)}, Inv (X.blk sc (upd G D (.lst [])) scope ce1 [it]) pins' σ' H' s' → HotAt X.A pp.1 s'.heap := fun {σ' H' s' pins'} J =>
    ⟨hh, pp.2, ve, J.base.keep pp.1 pp.2 PPc.1 PPc.2.1 nPstk (fun z => nPit (List.mem_singleton.mp z)), de, ce⟩
  have free1 : ∀ {σ' : L2.St} {H' : Hp} {s' : Shared}, Inv (X.blk sc (upd G D (.lst [])) scope ce1 [it]) [] σ' H' s' → H' it = none → FpOk (X.blk sc (upd G D (.lst [])) scope ce1 [it]) [] H' it := fun {σ' H' s'} J n =>
    ⟨n, (J.ok.exf it List.mem_cons_self).1, J.ok.exfs it List.mem_cons_self, .inl List.mem_cons_self, (J.ok.exf it List.mem_cons_self).2, fun q hq => nomatch (show q ∈ ([] : List (Addr × Obj)) from hq)⟩
  have sqIn : ∀ {H' : Hp}, (∀ b o, b ≠ D → G b = some o → H' b = some o) → SqL X.K H' a xs := fun {H'} k => by
    have s1 : Same G (upd H' D (.lst [])) := fun b o e => by
      by_cases z : b = D
      · rw [z, nD] at e
        cases e
      · rw [upd_ne z]
        exact k b o z e
    rcases hsq with (g | ⟨o, g⟩) | g
    · exact .inl (.inl (k a _ (fun z => by rw [z, nD] at g; cases g) g))
    · exact .inl (.inr ⟨o, k a _ (fun z => by rw [z, nD] at g; cases g) g⟩)
    · exact .inr g
  have loop : codeAny (model X.prog X.w) X.A (.compLoop (.ListComp elt [⟨.Name y py, l, [], 0⟩] scope pos) 0 (.ref it) (.ref D) ce1) (compPost (model X.prog X.w) X.A X.xe none (EP X pins σ Q) (.ref D) sc.heap.objs.size) sd := by
    refine compLoop_any (fun m s' => ∃ i H', m = xs.length - i ∧ i ≤ xs.length ∧ Inv (X.blk sc (upd G D (.lst [])) scope ce1 [it]) [] (wipe σ [j]) H' s' ∧ s'.heap.IsListIter it a i ∧ H' it = none ∧ H' D = some (.lst (ys.take i)) ∧ ∀ b o, b ≠ D → G b = some o → H' b = some o) ?_ xs.length
      ⟨0, _, by omega, Nat.zero_le _, Id, turnD, fIc.1, by rw [List.take_zero]; exact upd_same, fun b o n e => by rw [upd_ne n]; exact e⟩
    rintro m s5 ⟨i, H5, em, hi, I5, t5, n5, d5, k5⟩
    obtain ⟨its5, r5, pl5, _⟩ := I5.list (sqIn k5)
    have F5 := free1 I5 n5
    by_cases hlt : i < xs.length
    · have ex : xs[i]? = some xs[i] := List.getElem?_eq_getElem hlt
      have ey : ys[i]? = some ys[i] := List.getElem?_eq_getElem (by omega)
      obtain ⟨u, hu, ru⟩ := r5.get ex
      refine wpAny_pyNext_list_item t5 pl5.isList (x := u) (by simpa using hu) fun h6 t6 sb6 => ?_
      have I6 : Inv (X.blk sc (upd G D (.lst [])) scope ce1 [it]) [] (wipe σ [j]) H5 { s5 with heap := h6 } := I5.turned (t' := s5.toks) (fun b o n e => (sb6.2 b n).trans e) F5.1 F5.2.1 F5.2.2.2.1 F5.2.2.2.2.1 F5.2.2.2.2.2
      obtain ⟨o6, e6, c6, q6⟩ := id t6
      refine go_of (s := { s5 with heap := h6 }) e6 c6 q6 (by decide) ?_
      have I7 := I6.pinned (fp := [it]) (fun b hb1 => by rw [List.mem_singleton.mp hb1]; exact free1 I6 n5) (fun b hb1 => by
        rw [List.mem_singleton.mp hb1]
        exact ⟨o6, e6, fun v z => by rw [q6] at z; cases z⟩)
      refine thnF (pg.run _ _ _ H5 xs[i] u (fun σ8 H8 => σ8 = σ.set j (some xs[i]) ∧ H8 = H5) I7 ru ⟨by show ((σ.set j none).set j (some xs[i])) = _; rw [List.set_set], rfl⟩) fun _ s8 w8 => ?_
      obtain ⟨σ8, H8, I8, w8, w9⟩ := w8
      subst w8
      subst w9
      refine wpAny_tests_nil ?_
      simp only [if_true]
      -- the element; D hidden away
      have s1 : ∃ G1, Same G G1 ∧ True := ⟨G, Same.refl G, trivial⟩
      refine thnF (pe.run _ s8 _ H8 (fun z H9 => z = ys[i] ∧ H9 D = some (.lst (ys.take i)) ∧ ∀ b o, H8 b = some o → H9 b = some o) I8 ?_) fun uz s9 w => ?_
      · refine hstep i xs[i] ys[i] ex ey H8 (fun b o e => k5 b o (fun z => by rw [z, nD] at e; cases e) e) _ fun G2 s2 => ⟨rfl, s2 D _ d5, fun b o e => s2 b o e⟩
      · obtain ⟨z, H9, I9, r9, z9, d9, k9⟩ := w
        subst z9
        refine app_ok (X := X.blk sc (upd G D (.lst [])) scope ce1 [it]) I9 d9 (by rw [List.length_take]; exact Nat.lt_of_le_of_lt (Nat.min_le_left _ _) (Nat.lt_of_lt_of_le hlt (Nat.le_trans hsm (by rw [sizeLine_eq]; decide)))) r9 fun s11 I11 => ?_
        have P11 := I11.pin (it, o6) (List.mem_append_right _ (List.mem_append_right _ (mem_pinsAt List.mem_cons_self e6)))
        refine ⟨xs.length - (i + 1), by omega, i + 1, _, rfl, hlt, (I11.unpinned (pins := [])).weak (by show (σ.set j none).length = (σ.set j (some xs[i])).length; rw [List.length_set, List.length_set]) (fun q v e => ?_), ⟨o6, P11.1, c6, q6⟩, P11.2.1, ?_, fun b o n e => ?_⟩
        · have e : (σ.set j none)[q]? = some (some v) := e
          by_cases hq : j = q
          · subst hq
            by_cases hz : j < σ.length
            · rw [List.getElem?_set_self hz] at e
              cases e
            · rw [List.getElem?_eq_none (by rw [List.length_set]; omega)] at e
              cases e
          · rw [List.getElem?_set_ne hq] at e ⊢
            exact e
        · rw [upd_same, List.take_add_one, ey]
          rfl
        · rw [upd_ne n]
          exact k9 b o (k5 b o n e)
    · have ei : i = xs.length := by omega
      subst ei
      refine next_end_hot (hotIn I5) nPit t5 pl5.isList (by have := r5.length; simp; omega) fun h6 k6 => ?_
      have I6 : Inv (X.blk sc (upd G D (.lst [])) scope ce1 [it]) [] (wipe σ [j]) H5 { s5 with heap := h6 } := I5.turned (t' := s5.toks) (fun b o n e => k6 b o n e) F5.1 F5.2.1 F5.2.2.2.1 F5.2.2.2.2.1 F5.2.2.2.2.2
      have I7 : Inv X pins σ H5 { s5 with heap := h6 } := Ic.call' (ch := [it]) I6.os I6.base I6.hok I6.bare fun b hb1 => by
        rw [List.mem_singleton.mp hb1]
        exact ⟨fIc.2.2.2.1, fIc.2.1, fIc.2.2.2.2.1, fIc.2.2.2.2.2⟩
      have nC : H5 sc.heap.objs.size = none := by
        have z : H5 ce1.locals = none := I6.free
        rw [eL] at z
        exact z
      obtain ⟨mm, hn, _⟩ := I6.loc
      have hn : ({ s5 with heap := h6 } : Shared).heap.Ns ce1.locals mm := hn
      rw [eL] at hn
      obtain ⟨f0, f1, f2, f3, f4, f5⟩ := Ic.fpOk (H' := H5) (Nat.le_refl sc.heap.objs.size) nC
      refine ⟨mm, hn, fun h'' sb2 => ⟨.ref D, H5, I7.turned (t' := s5.toks) (fun b o n e => (sb2.2 b n).trans e) f0 f1 f3 f4 f5, rfl, ?_⟩⟩
      rw [← hlen, List.take_length] at d5
      exact hend D H5 nD (fun b o e => k5 b o (fun z => by rw [z, nD] at e; cases e) e) d5
  exact codeAny_compStart_list loop (wpAny_pyIter_listiter turnD loop)
end
end FP

namespace FP
open PySem PySem.Spec PyProof.Rows L2 HotX L2H
/-! ### isinstance of the exception that is handled -/
theorem call_isP {X : Cx} {q : Addr × Obj} {D : Addr} (hq : q ∈ X.pn) (C : ExcC X.K D) (z1 : q.2.cls = .ref D) (z2 : q.2.dict = none) (hf : ∃ vs, q.2.data = .fields vs) : CallR X (.builtin "isinstance") (rIsE X.K D q.1) := by
  intro pins s σ H xs us Q I r h
  obtain ⟨c, cv, b, rfl, hcv, e, k⟩ := h
  cases r with
  | cons r1 r2 =>
    cases r2 with
    | cons r3 r4 =>
      cases r4
      cases r1
      have e3 := hcv _ r3
      subst e3
      have got := (I.pin q (List.mem_append_left _ hq)).1
      obtain ⟨vs, hv⟩ := hf
      have J : PySem.W.InstAt s.heap q.1 q.2 D none := by
        obtain ⟨qa, oc, od, oda, osl⟩ := q
        dsimp only at z1 z2 hv got ⊢
        subst z1 z2 hv
        exact ⟨got, rfl, rfl, trivial⟩
      exact PySem.W.kia_one (PySem.W.handS_kitx_exc C.hg C.hk C.hs C.hd C.ha C.hn C.ht C.hm) I.kIn J e (fun z => nomatch z) fun t => ⟨.bl b, H, I.kept (t' := t) fun _ _ z => z, rfl, k⟩
/-- what the head says of a class whose instances are asked -/
def excB (K : PySem.W.Frag) (D : Addr) : Bool :=
  He.eqO (PySem.W.findIn K (.ref D) "__getattribute__") (some (some (.builtin "BaseException.__getattribute__"))) && (He.eqO (PySem.W.findIn K (.ref D) "__getattr__") (some none) && (decide (PySem.W.subIn K (.ref D) (.type "BaseException") = some true) && (PySem.W.hasDictIn K D &&
  (He.eqO (PySem.W.findIn K (.ref D) "__class__") (some (some (.builtin "object.__class__"))) && (He.eqO (PySem.W.specialIn K (.builtin "object.__class__") "__get__") (some (some (.builtin "getset_descriptor.__get__"))) && (decide (PySem.W.takesIn K (.builtin "object.__class__") = some true) && decide (PySem.W.mroIn K D (.type "object") = some true)))))))
theorem excB_ok {K : PySem.W.Frag} {D : Addr} (h : excB K D = true) : ExcC K D := by
  obtain ⟨h1, h⟩ := He.ba h
  obtain ⟨h2, h⟩ := He.ba h
  obtain ⟨h3, h⟩ := He.ba h
  obtain ⟨h4, h⟩ := He.ba h
  obtain ⟨h5, h⟩ := He.ba h
  obtain ⟨h6, h⟩ := He.ba h
  obtain ⟨h7, h⟩ := He.ba h
  exact ⟨He.eqO_ok h1, He.eqO_ok h2, of_decide_eq_true h3, h4, He.eqO_ok h5, He.eqO_ok h6, of_decide_eq_true h7, of_decide_eq_true h⟩
/-- what a word about exceptions of class D finds: the classes asked, the answers -/
def wordB (K : PySem.W.Frag) (D : Str) (cs : List (Str × Bool)) : Bool :=
  excB K (He.ga K D) && (cs.all (fun c => decide (PySem.W.kitOne K (.ref (He.ga K D)) (.ref (He.ga K c.1)) = some c.2)) && decide (PySem.W.kitOne K (.ref (He.ga K D)) (.type "ValueError") = some true))
theorem wordB_ok {K : PySem.W.Frag} {D : Str} {cs : List (Str × Bool)} (h : wordB K D cs = true) : ExcC K (He.ga K D) ∧ (∀ c ∈ cs, PySem.W.kitOne K (.ref (He.ga K D)) (.ref (He.ga K c.1)) = some c.2) ∧ PySem.W.kitOne K (.ref (He.ga K D)) (.type "ValueError") = some true := by
  obtain ⟨h1, h⟩ := He.ba h
  obtain ⟨h2, h3⟩ := He.ba h
  exact ⟨excB_ok h1, fun c hc => of_decide_eq_true (List.all_eq_true.mp h2 c hc), of_decide_eq_true h3⟩
/-- the pinned exception of class D -/
structure Pin (X : Cx) (q : Addr × Obj) (D : Addr) : Prop where
  m : q ∈ X.pn
  C : ExcC X.K D
  z1 : q.2.cls = .ref D
  z2 : q.2.dict = none
  hf : ∃ vs, q.2.data = .fields vs
section
variable {X : Cx} {δ : De} {ω : Om} {a b c e : Expr} {es : List Expr} {d : PyData} {ds : List PyData} {pos p p1 p2 : Pos} {q : Addr × Obj} {D : Addr} {k : Bool}
theorem pd_isP (i : Nat) {y x : Str} {cv : V} {u : Value} (Z : Pin X q D) (hn : PE X (.Name x p2) (tC cv)) (hu : ∀ v, RelV cv v → v = u) (hk : PySem.W.kitOne X.K (.ref D) u = some k) (hm : X.mg "isinstance" = none) (hd : δ[i]? = some (some (.ad q.1)) := by rfl) (hN : X.N[i]? = some y := by rfl)
    (hv : Vis X.env.scope y := by first | exact Or.inl rfl | exact Or.inr (Or.inl rfl) | exact Or.inr (Or.inr rfl)) (h1 : (y == ("__debug__" : Str)) = false := by decide) (h2 : (y == ("__classdict__" : Str)) = false := by decide) (hg : Gl X "isinstance" := by rfl)
    (he : starEach [.Name y p1, .Name x p2] X.env = (false, eval (.Name y p1) X.env) :: starEach [.Name x p2] X.env := by rfl) (he2 : starEach [.Name x p2] X.env = (false, eval (.Name x p2) X.env) :: starEach [] X.env := by rfl) (hpl : (backTo pos (starEach [.Name x p2] X.env)).any (·.1) = false := by rfl) :
    PD X δ ω (.Call (.Name "isinstance" p) [.Name y p1, .Name x p2] [] pos) (.bool k) := fun σ H rl Q r => by
  obtain ⟨v, e1, e2⟩ := rl.sl i _ hd
  have e2 : v = .ref q.1 := e2
  subst e2
  exact we (pe_callB (call_isP Z.m Z.C Z.z1 Z.z2 Z.hf) hg hm (by decide +kernel) (pa_cons (pe_var hN hv h1 h2) (pa_cons hn pa_nil he2) he) (he := he) (hpl := hpl)) ⟨_, e1, cv, u, k, rfl, hu, hk, r _ H (Same.refl H) (.bl _)⟩
theorem pd_intB (hm : X.mg "int" = none) (ha : PD X δ ω a (.bool k)) (hg : Gl X "int" := by rfl) (he : starEach [a] X.env = (false, eval a X.env) :: starEach [] X.env := by rfl) : PD X δ ω (.Call (.Name "int" p) [a] [] pos) (.int (if k then 1 else 0)) :=
  pd_callTy call_int1 (fun ps vs H _ h Q r => by
    cases h with
    | cons h1 h2 =>
      cases h2
      cases h1
      exact .inr ⟨k, rfl, r _ H (Same.refl H) (.int _)⟩) hm (by decide +kernel) (pds_cons ha pds_nil he) hg (by decide) (by decide) he (by rfl)
/-- sum([elt for y in l]), of truths, while an exception is handled -/
theorem pd_sumH {elt l : Expr} {scope : Scope} {y : Str} {py lpos : Pos} {j : Nat} {bs : List Bool} (hc : HotC X) (hN : X.N.Nodup) (hl : PL X δ ω l (bs.map .bool)) (hz : bs.length ≤ 1000) (ok : BlkOk X.N X.env.scope scope [(y, j)])
    (hg : ∀ (s : Shared) (H : Hp) (C : Addr) (cl : List (Str × Addr)) (fp : List Addr), PG (X.blk s H scope (compEnvC scope cl C X.env) fp) (.Name y py) (gName j))
    (he : ∀ (b : Bool) (s : Shared) (H : Hp) (C : Addr) (cl : List (Str × Addr)) (fp : List Addr), PD (X.blk s H scope (compEnvC scope cl C X.env) fp) (δ.set j (some (.im (.bool b)))) ω elt (.int (if b then 1 else 0)))
    (hm : X.mg "sum" = none) (hgs : Gl X "sum" := by rfl) (hs : ∀ x, foldedSetIterable l X.env x = pure x := by intro _; rfl)
    (hst : starEach [.ListComp elt [⟨.Name y py, l, [], 0⟩] scope lpos] X.env = (false, eval (.ListComp elt [⟨.Name y py, l, [], 0⟩] scope lpos) X.env) :: starEach [] X.env := by rfl) :
    PD X δ ω (.Call (.Name "sum" p) [.ListComp elt [⟨.Name y py, l, [], 0⟩] scope lpos] [] pos) (.int (bs.map fun b => if b then 1 else 0).sum) := fun σ H rl Q r =>
  we (pe_callB (cr_sumH hc) hgs hm boot_sum (pa_cons (pe_lcH (j := j) hc hN pe_w ok hg (fun s H0 C cl fp => pe_blk s H0 C cl fp) hs) pa_nil hst) (he := hst)) (hl σ H rl _ fun a vs G s1 h1 h2 => by
    have ev : vs = bs.map V.bl := dpa_bl h2
    subst ev
    refine ⟨a, _, bs.map fun b => V.int (if b then 1 else 0), rfl, h1, by simp, by simpa using hz, fun i x y ex ey G1 s2 R kk s H0 C cl fp => ?_, fun D G1 nD s2 hD => ?_⟩
    · obtain ⟨b, eb, rfl⟩ : ∃ b, bs[i]? = some b ∧ x = V.bl b := by
        rw [List.getElem?_map] at ex
        cases e : bs[i]? with
        | none =>
          rw [e] at ex
          cases ex
        | some b =>
          rw [e] at ex
          cases ex
          exact ⟨b, rfl, rfl⟩
      rw [List.getElem?_map, eb] at ey
      cases ey
      refine he b s H0 C cl fp _ G1 (((rl.mono s1).mono s2).set (x := .im (.bool b)) (.bl b)) R fun v G2 s3 dv => ?_
      cases dv
      exact kk G2 s3
    · refine ⟨D, bs.map fun b => if b then 1 else 0, rfl, SqL.of ?_, r _ G1 (s1.trans s2) (.int _)⟩
      rw [List.map_map]
      exact hD)
/-- l.index(True) of a list of truths -/
theorem pd_idxT {l : Expr} {apos : Pos} {bs : List Bool} {j m : Nat} (hl : PL X δ ω l (bs.map .bool)) (hj : bs[j]? = some true) (hn : ∀ i, i < j → bs[i]? = some false)
    (hbase : attributeBase l "index" X.env (eval l X.env) = eval l X.env := by rfl)
    (hfew : ((backTo pos (starEach [.Constant (.bool true) m p1] X.env)).all (fun x => !x.1) && (backToKw pos (keywordEach [] X.env)).all (fun x => x.1.isSome)
      && decide (([.Constant (.bool true) m p1] : List Expr).length + ([] : List Keyword).length + (if ([] : List Keyword).isEmpty then 0 else 1) < 30)) = true := by rfl)
    (hline : (apos.endLine == pos.line) = true := by rfl) (hs : starEach [.Constant (.bool true) m p1] X.env = (false, eval (.Constant (.bool true) m p1) X.env) :: starEach [] X.env := by rfl) :
    PD X δ ω (.Call (.Attribute l "index" apos) [.Constant (.bool true) m p1] [] pos) (.int (j : Nat)) := fun σ H rl Q r =>
  we (pe_bm PySem.F.plainAttrs_list PySem.F.slot_list_index (by first | rfl | kernel_rfl | decide +kernel) mt_index pe_w (pa_cons pe_bl pa_nil hs) hbase hfew hline hs) (hl σ H rl _ fun a vs G s1 h1 h2 => by
    have ev : vs = bs.map V.bl := dpa_bl h2
    subst ev
    refine ⟨.inl ⟨rfl, _, h1⟩, a, _, _, j, .bl true, rfl, rfl, h1, rfl, ?_, ?_, rfl, fun m z lt e => ?_, r _ G s1 (.int _)⟩
    · rw [List.all_map]
      exact List.all_eq_true.mpr fun _ _ => rfl
    · rw [List.getElem?_map, hj]
      rfl
    · rw [List.getElem?_map, hn m lt] at e
      cases e
      rfl)
end
end FP

namespace FP
open PySem PySem.Spec PyProof.Rows L2 HotX L2H
/-! ### a word about the exception that is handled -/
structure WordOk (P : Program) (w : World) (K : PySem.W.Frag) (mg : Str → Option Value) (base : Heap) (k : Nat) (wd : Str) (fw : Addr → PyData → Prop) : Prop where
  ex : ∃ g, mg wd = some (.ref g) ∧ PySem.W.keepIn K (.ref g) = true ∧ ∀ (A : Around) (outer : List Env) (s : Shared) (H : Hp) (q : Addr × Obj) (C : Addr) (d : PyData) (ps : List Addr) (Q : VK), fw C d → RoomH k A → Hot1 A q → PinOk outer H s q → q.2.cls = .ref C → q.2.dict = none →
    Env0 P w K mg base A outer s H → (∀ a ∈ ps, H a ≠ none) → (∀ v H', Same H H' → Dp K (hid ps H') v d → Q v H') → codeAny (model P w) A (.call (.ref g) ⟨[.ref q.1], []⟩) (CR C8.CX0 outer P w H s Q C8.E0) s
theorem start1 {K : PySem.W.Frag} {H : Hp} {ps : List Addr} {N : List Str} {a : Addr} {n : Nat} (hn : N.length = n + 1) (hp : ∀ a ∈ ps, H a ≠ none) : Rl K H (L2.start N [.ref a]) (some (.ad a) :: List.replicate n none) ⟨ps, []⟩ := by
  refine ⟨?_, fun i r h => ?_, Ro.nil hp⟩
  · unfold L2.start
    simp [hn]
  · cases i with
    | zero =>
      cases h
      exact ⟨.ref a, rfl, rfl⟩
    | succ i =>
      rw [List.getElem?_cons_succ, List.getElem?_replicate] at h
      split at h
      · cases h
      · cases h
/-- such a def, by its body -/
theorem word_ok {P : Program} {w : World} {K : PySem.W.Frag} {mg : Str → Option Value} {base : Heap} {x : Str} {params : Arguments} {body : List Stmt} {scope : Scope} {kws : List (Str × V)} {f : Addr} {fd : FuncData} {N : List Str} {y : Str} {k n : Nat} {fw : Addr → PyData → Prop}
    (F : FunD K x x params body scope [] kws f fd) (hm : mg x = some (.ref f)) (S : FnScope N [y] scope) (hn : N.length = n + 1)
    (hb : ∀ (kV doc pm : Value) (an : Option Addr) (cdv ct : Value) (us : List Value), us.length = [y].length → bindArgs (PySem.W.fnOf x x params body scope .none kV doc pm an cdv ct) ⟨us, []⟩ = pure ([y].zip us))
    (hbody : ∀ (cdv : Value) (A : Around) (outer : List Env) (s : Shared) (H : Hp) (q : Addr × Obj) (C : Addr) (d : PyData) (ps : List Addr), fw C d → Hot1 A q → q.2.cls = .ref C → q.2.dict = none → RoomH k (A.deeper (envOfC x scope s.heap.objs.size f cdv)) →
      SD (cxH C8.CX0 P w K mg base N x scope f cdv A outer s H C8.E0 q) (fun _ _ _ _ => False) [] body (some (.ad q.1) :: List.replicate n none) ⟨ps, []⟩ (Fin (.ok d))) : WordOk P w K mg base (k + 1) x fw := by
  have hbs := FunD.bindsN (ps := [y]) F hb
  have kp := F.kp
  obtain ⟨oc, od, dV, kV, doc, pm, an, cdv, ct, osl, rfl, lk, hcd, hD, hK⟩ := F.ex
  refine ⟨f, hm, kp, fun A outer s H q C d ps Q hf hr hot pin c1 c2 e0 hp hQ => ?_⟩
  have old : ∀ b o, base.get? b = some o → s.heap.get? b = some o := fun b o e => (e0.bs b o e).1
  have inK : K.In s.heap := e0.mod.kin.keeps old
  have bnd := hbs s [.ref q.1] inK rfl
  refine codeAny_call_function hr.depth (inK _ _ lk) rfl S.co S.gen rfl (PySem.W.codeRec_of inK hcd) (bnd _ _ _ _ (wpAny_newFunctionEnv_cells S.kind (fun z hz => ?_) fun env he s1 x1 => ?_))
  · rcases S.par z.1 (List.of_mem_zip hz).1 with t | t
    · exact .inl t
    · exact .inr ⟨t, PySem.W.cellsFrom_some _ _ _ (.inl t)⟩
  subst he
  refine ⟨(e0.mod.nolimit.keeps old).keeps x1.toInCall.keep, codeAny_func ?_⟩
  have I : Inv (cxH C8.CX0 P w K mg base N x scope f cdv A outer s H C8.E0 q) [] (L2.start N [.ref q.1]) H s1 := inv_startH (us := [.ref q.1]) S pin e0 rfl (.cons rfl .nil) x1
  have go := hbody cdv A outer s H q C d ps hf hot c1 c2 (hr.deeper _) (L2.start N [.ref q.1]) H { nx := fun _ H' => Q .non H', rt := Q } (start1 hn hp) (fun _ z => nomatch z) ?_
  · refine wpAny_mono (pss_w.run [] s1 _ H _ I go) (fun fl s2 hs => ?_) fun _ _ z => z
    cases fl with
    | ret u =>
      obtain ⟨v, σ', H', J, rv, z⟩ := hs
      exact ⟨v, H', J.os, J.bare, J.base, J.hok, rv, z⟩
    | next =>
      obtain ⟨σ', H', J, z⟩ := hs
      exact ⟨.non, H', J.os, J.bare, J.base, J.hok, rfl, z⟩
    | brk =>
      obtain ⟨_, _, _, z⟩ := hs
      exact z.elim
    | cont =>
      obtain ⟨_, _, _, z⟩ := hs
      exact z.elim
  · have same : ∀ {ω' : Om} {H' : Hp}, Stp [] ⟨ps, []⟩ ω' H H' → Same H H' := fun st b o e => st.keep b o e (fun z => nomatch z) (.inl rfl)
    refine ⟨fun δ' ω' σ' H' z st l => ?_, fun r' ω' v H' z st l dv => ?_, fun _ _ _ _ z => (nomatch z), fun _ _ _ _ z => False.elim z, fun _ _ _ _ z => False.elim z⟩
    · cases z
      exact hQ .non H' (same st) .non
    · cases r' with
      | im d' =>
        cases z
        exact hQ v H' (same st) (dpm (hid_more fun b hb => List.mem_append_left _ (by rw [st.ps]; exact hb)) dv)
      | ad a => exact False.elim z
/-- the word is called, in the suite -/
theorem pe_word {X : Cx} {q : Addr × Obj} {k i : Nat} {wd n : Str} {fw : Addr → PyData → Prop} {C : Addr} {d : PyData} {p5 p6 p7 : Pos} (G : WordOk X.prog X.w X.K X.mg X.base k wd fw) (hr : RoomH k X.A) (hot : Hot1 X.A q) (hq : q ∈ X.pn) (c1 : q.2.cls = .ref C) (c2 : q.2.dict = none) (hf : fw C d)
    (hg : Gl X wd) (hN : X.N[i]? = some n) (hv : Vis X.env.scope n) (hdb : (wd == ("__debug__" : Str)) = false := by decide) (h1 : (n == ("__debug__" : Str)) = false := by decide) (h2 : (n == ("__classdict__" : Str)) = false := by decide)
    (he : starEach [.Name n p6] X.env = (false, eval (.Name n p6) X.env) :: starEach [] X.env := by rfl) :
    PE X (.Call (.Name wd p5) [.Name n p6] [] p7) (fun σ H Q => σ[i]? = some (some (.ref q.1)) ∧ ∃ ps, (∀ a ∈ ps, H a ≠ none) ∧ ∀ v H', Same H H' → Dp X.K (hid ps H') v d → Q v H') := by
  obtain ⟨g, m, kp, run⟩ := G.ex
  refine ⟨fun pins s σ H Q I h => ?_⟩
  obtain ⟨hs, ps, hp, hQ⟩ := h
  have ha : PA X [.Name n p6] (tCons (fun σ H Q => ∃ v, σ[i]? = some (some v) ∧ Q v H) tNil) := pa_cons (pe_var hN hv h1 h2) pa_nil he
  refine wpAny_Call_Name_kw (ld_glob I hg m (PySem.W.callWith_K (h₀ := X.base) I.ok.mod.kin kp (thn (ha.run p7 pins s σ H (fun vs H1 => vs = [V.ref q.1] ∧ H1 = H) I ⟨_, hs, rfl, rfl⟩) fun us s1 w => ?_) he (by rfl)) hdb)
  obtain ⟨vs, H1, J, rv, ev, eH⟩ := w
  subst ev
  subst eH
  refine ⟨J.kIn, ?_⟩
  rw [Vals.ref1 rv]
  have P1 := J.pin q (List.mem_append_left _ hq)
  have pin : PinOk X.stack H1 s1 q := ⟨P1.1, P1.2.1, fun z => (List.mem_cons.mp (J.stkSub q.1 z)).elim P1.2.2.1 P1.2.2.2.1, P1.2.2.2.2⟩
  refine wpAny_call (codeAny_mono (run X.A X.stack s1 H1 q C d ps Q hf hr hot pin c1 c2 J.env0 hp hQ) fun r s2 z => ?_)
  cases r with
  | error e => exact False.elim z
  | ok fl =>
    cases fl with
    | ret u => exact J.after z
    | next => exact False.elim z
    | brk => exact False.elim z
    | cont => exact False.elim z
end FP

namespace FP
open PySem PySem.Spec PyProof.Rows L2 HotX L2H
/-! ### an expression that answers or raises -/
def PR (X : Cx) (W : WX) (δ : De) (ω : Om) (e : Expr) (r : Rs) : Prop := ∀ σ H, Rl X.K H σ δ ω → ∀ Q : VK, RsQ X.K (ads ω) H Q (fun cls d H' => W cls d σ H') r → wpe X e σ H Q
section
variable {X : Cx} {W : WX} {δ : De} {ω : Om} {a e : Expr} {es : List Expr} {d : PyData} {ds : List PyData} {pos p : Pos} {k : Nat} {x : Str}
theorem PD.pr (h : PD X δ ω e d) : PR X W δ ω e (.ok d) := fun σ H rl Q q => h σ H rl Q q
theorem pr_call {fr : List PyData → Rs → Prop} {rr : Rs} (G : DefOk X.prog X.w X.K X.mg X.base k x fr) (hr : Room k X.A) (tk : L2N.Takes X W) (ha : PDs X δ ω (a :: es) ds) (hf : fr ds rr) (hg : Gl X x := by rfl)
    (hdb : (x == ("__debug__" : Str)) = false := by decide) (he : starEach (a :: es) X.env = (false, eval a X.env) :: starEach es X.env := by rfl) (hpl : (backTo pos (starEach es X.env)).any (·.1) = false := by rfl) : PR X W δ ω (.Call (.Name x p) (a :: es) [] pos) rr := fun σ H rl Q q => by
  obtain ⟨f, fd, ps, F, m, kp, b⟩ := G.ex
  refine we (pe_callS (E := WE W) F hr hg m kp b (fun σ => L2N.passAt tk σ) pa_w hdb he hpl) (ha σ H rl _ fun vs H1 s1 d1 => ⟨ads ω, ds, rr, there_mono rl.ro.there s1, d1, hf, ?_⟩)
  cases rr with
  | ok d => exact fun v H' s' d' => q v H' (s1.trans s') d'
  | er C => exact fun H' s' => q H' (s1.trans s')
end
/-! ### a lambda whose exceptions have no context -/
abbrev lamN (X : Cx) (A : Around) (outer : List Env) (s : Shared) (H : Hp) (E : XK) (scope : Scope) (f c' : Addr) : Cx :=
  (LamX.lamCx X A outer s H E scope f c').tr [] (fun e t => wpAny (model X.prog X.w) (A.deeper (LamX.lamEnv X scope s.heap.objs.size f c')) (leaving (LamX.lamEnv X scope s.heap.objs.size f c') e) (fun _ t' => L2N.CX X.prog X.w outer H s E e t') (fun e' t' => L2N.CX X.prog X.w outer H s E e' t') t)
theorem lamN_takes {X : Cx} {A : Around} {outer : List Env} {s : Shared} {H : Hp} {E : XK} {scope : Scope} {f c' : Addr} : L2N.Takes (lamN X A outer s H E scope f c') (WOf E) := L2N.takes_of rfl rfl rfl rfl
/-- it is called, where what it lets out is taken -/
theorem pe_lamN {X Z : Cx} {pins : List (Addr × Obj)} {σ : L2.St} {H : Hp} {s : Shared} {f c' : Addr} {pm ctv : Value} {params : Arguments} {body : Expr} {scope : Scope} {k i : Nat} {a : Str} {W : WX} {p1 p2 : Pos}
    (hP : Z.prog = X.prog) (hw : Z.w = X.w) (hK : Z.K = X.K) (hm : Z.mg = X.mg) (hB : Z.base = X.base) (h0 : Z.s_0 = s) (hH : Z.H_0 = H) (hex : Z.ex = []) (hfs : Z.fs = frs X.stack)
    (I : Inv X pins σ H s) (L : LamX.LamS X.env.scope scope) (hf : s.heap.get? f = some (PySem.W.kla_obj "<lambda>" (X.env.qual ++ "<lambda>") params body scope (cloFrom X.env.cells scope.names []) pm c' ctv)) (hfn : H f = none) (hfr : f ∉ frs X.stack)
    (hbind : bindArgs (PySem.W.kla_fn "<lambda>" (X.env.qual ++ "<lambda>") params body scope (cloFrom X.env.cells scope.names []) pm (.ref c') ctv) ⟨[], []⟩ = pure []) (tk : L2N.Takes Z W) (hr : Room (k + 1) Z.A)
    (hN : Z.N[i]? = some a) (hv : Vis Z.env.scope a) (hd : (a == ("__debug__" : Str)) = false := by decide) (hcd : (a == ("__classdict__" : Str)) = false := by decide) :
    PE Z (.Call (.Name a p1) [] [] p2) (fun τ G Q => τ[i]? = some (some (.ref f)) ∧ G c' = some (LamX.CodeO c' (X.env.qual ++ "<lambda>")) ∧
      ∀ (A : Around) (outer : List Env) (t : Shared), Room k (A.deeper (LamX.lamEnv X scope t.heap.objs.size f c')) → wpe (lamN X A outer t G (WE W τ) scope f c') body σ G Q) := by
  obtain ⟨zp, zw, zk, zmg, zb, zA, zN, zs, zh, zenv, zo, zst, zex, zfn, zc, zpn, zxe⟩ := Z
  dsimp only at hP hw hK hm hB h0 hH hex
  subst hP hw hK hm hB h0 hH hex
  refine ⟨fun pinsZ sZ τ G Q IZ h => ?_⟩
  obtain ⟨t1, t2, t3⟩ := h
  refine wpAny_Call_Name_kw (thn ((pe_var (pos := p1) (i := i) hN hv hd hcd).run pinsZ sZ τ G (fun v G1 => v = .ref f ∧ G1 = G) IZ ⟨.ref f, t1, rfl, rfl⟩) fun u s1 w => ?_)
  obtain ⟨v, G1, J, rv, ev, eG⟩ := w
  subst ev
  subst eG
  obtain rfl : u = Value.ref f := rv
  have un : Un (frs X.stack) [] zh G1 zs.heap s1.heap := by
    rw [← hfs]
    exact J.base
  have gf := un.keep f _ hf hfn hfr (fun z => nomatch z)
  have rc : codeAny (model X.prog X.w) zA (.call (.ref f) ⟨[], []⟩) (CR (L2N.CX X.prog X.w) zst X.prog X.w G1 s1 Q (WE W τ)) s1 := by
    obtain ⟨⟨oc, vs, tt, g1, g2, g3⟩, _, _⟩ := J.hok c' _ t2
    refine PySem.W.kla_callFunE hr.depth gf rfl L.co L.gen rfl ⟨c', oc, vs, tt, rfl, g1, g2, g3⟩ ?_
    rw [hbind]
    refine wpAny_pure (wpAny_newFunctionEnv (fun y hy => (L.own y hy).2) (fun y hy => (nomatch hy)) (fun h2 n2 b2 => ⟨J.nolimit.fresh _ b2, ?_⟩) L.kind)
    show codeAny _ _ (.expr body (LamX.lamEnv X scope s1.heap.objs.size f c')) _ _
    have J2 := (LamX.lam_start2 (E := WE W τ) (scope := scope) (f := f) (c' := c') (tk := s1.toks + ([] : List (Str × Value)).length) I L J.env0 hr.hd un n2 (fun b o e => b2.extBut b o (Nat.ne_of_lt (Heap.lt_size e)) (Heap.get?_push_of_some _ e))).toTry (fun e t => wpAny (model X.prog X.w) (zA.deeper (LamX.lamEnv X scope s1.heap.objs.size f c')) (leaving (LamX.lamEnv X scope s1.heap.objs.size f c') e) (fun _ t' => L2N.CX X.prog X.w zst G1 s1 (WE W τ) e t') (fun e' t' => L2N.CX X.prog X.w zst G1 s1 (WE W τ) e' t') t)
    refine PySem.W.kla_codeExpr (wpAny_mono (pe_w.run [] _ σ G1 Q J2 (t3 zA zst s1 (hr.deeper _))) (fun v s3 z => ?_) fun e s3 z => z)
    obtain ⟨v1, G3, J3, r3, q3⟩ := z
    exact ⟨v1, G3, J3.os, J3.bare, J3.base, J3.hok, r3, q3⟩
  refine PySem.W.callWith_F0 ⟨_, _, _, _, gf⟩ (wpAny_call (codeAny_mono rc fun r s2 z => ?_))
  · cases r with
    | error e => exact L2N.passAt tk τ pinsZ G1 s1 e s2 J z
    | ok fl =>
      cases fl with
      | ret u => exact J.after z
      | next => exact False.elim z
      | brk => exact False.elim z
      | cont => exact False.elim z
end FP

namespace FP
open PySem PySem.Spec PyProof.Rows L2 HotX L2H
theorem takesF {X : Cx} : L2N.Takes X (fun _ _ _ _ => False) := fun _ _ x => by
  obtain ⟨_, _, _, _, _, _, _, _, _, _, _, _, _, _, _, _, z⟩ := x
  cases z
/-- told: what the lambda answers, or the word about what it raised -/
def ToldD (K : PySem.W.Frag) (CS : Addr) (fw : Addr → PyData → Prop) (d : PyData) : Rs → Prop
  | .ok d' => d' = d
  | .er C => fw C d ∧ PySem.W.exmOne K (.ref C) (.ref CS) = some true
section
variable {X : Cx} {T : List (Addr × Str)} {δ : De} {ω : Om} {d : PyData} {pos p : Pos} {k : Nat}
theorem px_told {x a e n wd : Str} {st : Stmt} {Ng : List Str} {CS : Addr} {fw : Addr → PyData → Prop} {r : Rs} {p1 p2 p3 p4 p5 p6 p7 p8 p9 p10 lpos : Pos} {params : Arguments} {body : Expr} {scope : Scope} (G : Told X.K X.mg x st) (L : LamT X T) (hT : T ≠ []) (hps : ω.ps = []) (hr : Room (k + 2) X.A)
    (WK : WordOk X.prog X.w X.K X.mg X.base (k + 1) wd fw)
    (hst : defBody st = [.Try [.Return (some (.Call (.Name a p1) [] [] p2)) p3] [.ExceptHandler (some (.Name e p4)) (some n) [.Return (some (.Call (.Name wd p5) [.Name n p6] [] p7)) p8] p9] [] [] p10]) (S : FnScope Ng [a] (defScope st)) (hNd : Ng.Nodup) (hNg : Ng[0]? = some a) (hva : Vis (defScope st) a)
    (hN1 : Ng[1]? = some n) (hkn : (defScope st).names.lookup n = some .local) (hge : (defScope st).names.lookup e = some .globalImplicit) (hgw : (defScope st).names.lookup wd = some .globalImplicit) (hme : X.mg e = some (.ref CS))
    (hbn : ∀ (kV doc pm : Value) (an : Option Addr) (cdv ct : Value) (us : List Value), us.length = [a].length → bindArgs (PySem.W.fnOf x x (defArgs st) (defBody st) (defScope st) .none kV doc pm an cdv ct) ⟨us, []⟩ = pure ([a].zip us))
    (hb : ∀ (A : Around) (outer : List Env) (s : Shared) (H : Hp) (E : XK) (f c' : Addr), Room k (A.deeper (LamX.lamEnv X scope s.heap.objs.size f c')) → PR (lamN X A outer s H E scope f c') (WOf E) δ ω body r)
    (hd : ToldD X.K CS fw d r) (hL : LamX.LamS X.env.scope scope) (hdef : defaultsOf params X.env = ([], []) := by rfl) (hbind : ∀ (q : Str) (cl : List (Str × Addr)) (pm cv ctv : Value), bindArgs (PySem.W.kla_fn "<lambda>" q params body scope cl pm cv ctv) ⟨[], []⟩ = pure [] := by intros; rfl)
    (hg : Gl X x := by rfl) (hdb : (x == ("__debug__" : Str)) = false := by decide) (hd1 : (a == ("__debug__" : Str)) = false := by decide) (hcd1 : (a == ("__classdict__" : Str)) = false := by decide) (hde : (e == ("__debug__" : Str)) = false := by decide) (hdw : (wd == ("__debug__" : Str)) = false := by decide)
    (hdn : (n == ("__debug__" : Str)) = false := by decide) (hcn : (n == ("__classdict__" : Str)) = false := by decide) : PX X T δ ω (.Call (.Name x p) [.Lambda params body scope lpos] [] pos) d := fun σ H rl tb Q q => by
  obtain ⟨g, fd, F, hm⟩ := G.ex
  obtain ⟨c, P, TB, hcode, hmT, hu⟩ := L.ex
  have hbs := FunD.bindsN (ps := [a]) F hbn
  have kp := F.kp
  obtain ⟨oc, od, dV, kV, doc, pm, an, cdv, ct, osl, rfl, lk, hcd, hD, hK⟩ := F.ex
  unfold wpe
  intro pins s I
  refine wpAny_Call_Name_kw (ld_glob I hg hm ?_ hdb)
  refine PySem.W.callWith_K (h₀ := X.base) I.ok.mod.kin kp ?_ (by rfl) (by rfl)
  show wpAny _ _ (spliced ((false, eval (.Lambda params body scope lpos) X.env) :: backTo pos (starEach [] X.env))) _ _ s
  refine Calls.spliced_cons (LamX.lam_make2 I TB hcode hmT hu tb hdef (hL.has I.ok) fun f c' pm' ctv H1 s' I1 eN T1 hf hfn hfr hco => Calls.spliced_nil ⟨I1.kIn, ?_⟩)
  have rl1 : Rl X.K H1 σ δ ω := rl_ext (T := T) eN hps rl
  have done : ∀ v H2, Same H1 H2 → Dp X.K (hid (ads ω) H2) v d → Q v H2 := fun v H2 s2 d2 => q v H2 ⟨fun b o h _ p => s2 b o (eN b o h (p.resolve_left hT)), fun a h => .inl h, rfl, fun _ => T1.ext s2⟩ (rl1.mono s2) d2
  refine wpAny_call (codeAny_mono (R := CR C8.CX0 X.stack X.prog X.w H1 s' Q C8.E0) (LamX.run_ofS (N := Ng) (ps := [a]) (us := [.ref f]) (vs := [.ref f]) lk hcd S hr I1.env0 (hbs s' [.ref f] I1.kIn rfl) (.cons rfl .nil) rfl fun hr' => ?_) fun rr s2 z => ?_)
  · rw [hst]
    -- the def's own context
    have tryW := L2N.ps_try_as (X := (cxOf C8.CX0 X.prog X.w X.K X.mg X.base Ng x (defScope st) g cdv X.A X.stack s' H1 C8.E0).nox) (x := e) (n := n) (c := .ref CS) (i := 1) (np := p4) (pos := p10) (pos' := p9) (b₀ := .Return (some (.Call (.Name wd p5) [.Name n p6] [] p7)) p8) (suite := [])
      (body := [.Return (some (.Call (.Name a p1) [] [] p2)) p3]) (Wout := fun _ _ _ _ => False)
      (tb := fun W D τ G => τ[0]? = some (some (.ref f)) ∧ G c' = some (LamX.CodeO c' (X.env.qual ++ "<lambda>")) ∧ ∀ (A : Around) (outer : List Env) (t : Shared), Room k (A.deeper (LamX.lamEnv X scope t.heap.objs.size f c')) → wpe (lamN X A outer t G (WE W τ) scope f c') body σ G D.rt)
      (ts := fun b cls dd D τ G => ∃ C, cls = .ref C ∧ dd = none ∧ fw C d ∧ τ[1]? = some (some (.ref b)) ∧ (∀ a ∈ ads ω, G a ≠ none) ∧ ∀ v G', Same G G' → Dp X.K (hid (ads ω) G') v d → D.rt v G')
      rfl rfl hNd hN1 hkn ⟨hge, hde, .inl hme⟩ takesF
      (fun W pn xe tk _ => pss_one (ps_ret (pe_lamN (X := X) (Z := ((cxOf C8.CX0 X.prog X.w X.K X.mg X.base Ng x (defScope st) g cdv X.A X.stack s' H1 C8.E0).nox).tr pn xe) rfl rfl rfl rfl rfl rfl rfl rfl rfl I1 hL hf hfn hfr (hbind _ _ _ _ _) tk hr' hNg hva hd1 hcd1)))
      (fun b oe cls dd pn hz hfd => ⟨fun pins2 s2 τ G D J h => ?_⟩)
    · refine ⟨_, (pss_one tryW).nox, ?_⟩
      refine ⟨rfl, hco, fun A outer t hr2 => ?_⟩
      refine hb A outer t H1 _ f c' hr2 σ H1 rl1 Q ?_
      cases r with
      | ok d' =>
        cases hd
        exact done
      | er C =>
        intro H2 s2
        exact ⟨true, hd.2, fun _ b nb => ⟨C, rfl, rfl, hd.1, by
          rw [List.getElem?_set_self]
          unfold L2.start
          have := (List.getElem?_eq_some_iff.mp hN1).1
          simp
          omega, there_mono rl1.ro.there s2, fun v G' s3 dv => done v G' (s2.trans s3) dv⟩, fun z => by cases z⟩
    · obtain ⟨C, rfl, rfl, hfw, h1, h2, h3⟩ := h
      obtain ⟨vs, hv⟩ := hfd
      have pw := pe_word (X := ((cxOf C8.CX0 X.prog X.w X.K X.mg X.base Ng x (defScope st) g cdv X.A X.stack s' H1 C8.E0).nox).suite b ((b, oe) :: pn)) (q := (b, oe)) (i := 1) (p5 := p5) (p6 := p6) (p7 := p7) WK ⟨(roomH_of hr').dp, (roomH_of hr').un⟩ ⟨rfl, vs, hv, hz.2.2 vs hv⟩ List.mem_cons_self hz.1 hz.2.1 hfw hgw hN1 (.inl hkn) hdw hdn hcn
      exact (pss_one (ps_ret (pos := p8) pw)).run pins2 s2 τ G D J ⟨h1, ads ω, h2, h3⟩
  · cases rr with
    | error e => exact False.elim z
    | ok fl =>
      cases fl with
      | ret u => exact I1.after z
      | next => exact False.elim z
      | brk => exact False.elim z
      | cont => exact False.elim z
end
end FP

namespace FP
open PySem PySem.Spec PyProof.Rows L2
section
variable {X : Cx} {W : WX} {T : List (Addr × Str)} {δ : De} {ω : Om} {a b c e : Expr} {es : List Expr} {d da db dz : PyData} {ds dt : List PyData} {pos p : Pos} {k : Bool} {x : Str} {R : Out → Prop} {ss : List Stmt}
theorem pd_neg {i : Int} (ha : PD X δ ω a (.int i)) : PD X δ ω (.UnaryOp .USub a pos) (.int (-i)) := fun σ H rl Q q =>
  we (pe_un un_neg pe_w) (ha σ H rl _ fun v H1 s1 d1 => by
    cases d1
    exact ⟨i, rfl, q _ H1 s1 (.int _)⟩)
/-- list of a tuple -/
theorem pn_listT (hm : X.mg "list" = none) (ha : PD X δ ω a (.tuple ds)) (hg : Gl X "list" := by rfl) (he : starEach [a] X.env = (false, eval a X.env) :: starEach [] X.env := by rfl) : PN X δ ω (.Call (.Name "list" p) [a] [] pos) ds := fun σ H rl Q k =>
  we (pe_callTy call_list_of hg hm (by decide +kernel) (pa_cons pe_w pa_nil he) (he := he)) (ha σ H rl _ fun v H1 s1 d1 => by
    cases d1 with
    | tup h1 h2 => exact ⟨_, _, rfl, .inr (same_sqt hid_sub h1), fun l hl => k l _ _ (s1.trans (same_new hl)) (s1.free hl) upd_same (dpam (hid_new hl (same_new hl)) h2)⟩)
/-- is not None -/
theorem rd_notN {K : PySem.W.Frag} (hd : da ≠ .none) : RD K (fun x y H Q => y = .non ∧ Q (.bl (!decide (x = .non))) H) da .none (.bool true) := fun ps x y H _ hx hy Q q => by
  cases hy
  refine ⟨rfl, ?_⟩
  have e : decide (x = .non) = false := decide_eq_false fun z => by
    subst z
    cases hx
    exact hd rfl
  rw [e]
  exact q _ H (Same.refl H) (.bl _)
theorem rd_notN0 {K : PySem.W.Frag} : RD K (fun x y H Q => y = .non ∧ Q (.bl (!decide (x = .non))) H) .none .none (.bool false) := fun ps x y H _ hx hy Q q => by
  cases hx
  cases hy
  exact ⟨rfl, q _ H (Same.refl H) (.bl _)⟩
/-- a list of one's own that is compared -/
theorem pt_neL (hu : X.A.units + 64 < cLine) (h1 : SeqAt.shaped (.list ds) = true) (h2 : SeqAt.shaped db = true) (ha : PL X δ ω a ds) (hb : PD X δ ω b db) : PTd X δ ω (.Compare a [.NotEq] [b] pos) (!PyData.eqv (.list ds) db) := fun σ H rl Q q =>
  wt (pt_cmpR (op_neD hu) pe_w pe_w (nomark _)) (ha σ H rl _ fun p vs H1 s1 h3 d1 => hb σ H1 (rl.mono s1) _ fun y H2 s2 d2 =>
    ⟨.list ds, db, .lst (s2.seq h3) (dpam hid_sub (dpam (hid_same s2) d1)), dpm hid_sub d2, h1, h2, _, rfl, q H2 (s1.trans s2)⟩)
/-- the two lists that were made last, the other way round -/
theorem ads_swap {ps : List Addr} {o1 o2 : Addr × Od} {os : List (Addr × Od)} {H : Hp} : hid (ads ⟨ps, o1 :: o2 :: os⟩) H = hid (ads ⟨ps, o2 :: o1 :: os⟩) H := by
  funext z
  have e : (z ∈ ads ⟨ps, o1 :: o2 :: os⟩) ↔ (z ∈ ads ⟨ps, o2 :: o1 :: os⟩) := by
    show z ∈ ps ++ o1.1 :: o2.1 :: os.map (·.1) ↔ z ∈ ps ++ o2.1 :: o1.1 :: os.map (·.1)
    simp only [List.mem_append, List.mem_cons]
    constructor <;> (rintro (h | h | h | h) <;> simp [h])
  unfold hid
  by_cases h : z ∈ ads ⟨ps, o1 :: o2 :: os⟩
  · rw [if_pos h, if_pos (e.mp h)]
  · rw [if_neg h, if_neg (fun g => h (e.mpr g))]
theorem sd_swap {ps : List Addr} {o1 o2 : Addr × Od} {os : List (Addr × Od)} (h : SD X W T ss δ ⟨ps, o2 :: o1 :: os⟩ R) : SD X W T ss δ ⟨ps, o1 :: o2 :: os⟩ R := fun σ H D rl t k => by
  have mem : ∀ z : Addr, z ∈ osA ⟨ps, o2 :: o1 :: os⟩ → z ∈ osA ⟨ps, o1 :: o2 :: os⟩ := fun z hz => by
    have hz : z ∈ o2.1 :: o1.1 :: os.map (·.1) := hz
    show z ∈ o1.1 :: o2.1 :: os.map (·.1)
    simp only [List.mem_cons] at hz ⊢
    rcases hz with h | h | h <;> simp [h]
  have mem2 : ∀ z : Addr, z ∈ osA ⟨ps, o1 :: o2 :: os⟩ → z ∈ osA ⟨ps, o2 :: o1 :: os⟩ := fun z hz => by
    have hz : z ∈ o1.1 :: o2.1 :: os.map (·.1) := hz
    show z ∈ o2.1 :: o1.1 :: os.map (·.1)
    simp only [List.mem_cons] at hz ⊢
    rcases hz with h | h | h <;> simp [h]
  have st0 : Stp T ⟨ps, o1 :: o2 :: os⟩ ⟨ps, o2 :: o1 :: os⟩ H H := ⟨fun b o e _ _ => e, fun z hz => .inl (mem z hz), rfl, fun t => t⟩
  refine h σ H D ⟨rl.len, fun i r hi => ?_, fun z o hz => ?_, ?_, rl.ro.th⟩ t (k.step st0)
  · obtain ⟨v, h1, h2⟩ := rl.sl i r hi
    rw [ads_swap] at h2
    exact ⟨v, h1, h2⟩
  · have g := rl.ro.ob z o (by
      have hz : (z, o) ∈ o2 :: o1 :: os := hz
      show (z, o) ∈ o1 :: o2 :: os
      simp only [List.mem_cons] at hz ⊢
      rcases hz with h | h | h <;> simp [h])
    rw [ads_swap] at g
    exact g
  · have nd : (o1.1 :: o2.1 :: os.map (·.1)).Nodup := rl.ro.nd
    show (o2.1 :: o1.1 :: os.map (·.1)).Nodup
    exact (List.Perm.swap o2.1 o1.1 _).nodup nd
/-! ### lists of what is told -/
theorem app_step {K : PySem.W.Frag} {H : Hp} {σ : L2.St} {D : Addr} {xs : List PyData} {vs : List V} {y : V} (rl : Rl K H σ δ (omD ω D (.lst (xs.map .im)))) (e3 : H D = some (.lst vs)) (e4 : Paired (SdV K (hid (ads (omD ω D (.lst (xs.map .im)))) H)) (xs.map .im) vs)
    (d1 : Dp K (hid (ads (omD ω D (.lst (xs.map .im)))) H) y d) : Stp T (omD ω D (.lst (xs.map .im))) (omD ω D (.lst ((xs ++ [d]).map .im))) H (upd H D (.lst (vs ++ [y]))) ∧ Rl K (upd H D (.lst (vs ++ [y]))) σ δ (omD ω D (.lst ((xs ++ [d]).map .im))) := by
  have hh : Same (hid (ads (omD ω D (.lst (xs.map .im)))) H) (hid (ads (omD ω D (.lst ((xs ++ [d]).map .im)))) (upd H D (.lst (vs ++ [y])))) := hid_upd
  refine ⟨⟨fun b o h n _ => ?_, fun a h => .inl h, rfl, fun t => ?_⟩, ⟨rl.len, fun j r h => ?_, fun z o h => ?_, rl.ro.nd, fun z h hz => ?_⟩⟩
  · have nb : b ≠ D := fun z => n (by rw [z]; exact List.mem_cons_self)
    rw [upd_ne nb]
    exact h
  · intro q hq
    obtain ⟨ps, a1, a2, a3⟩ := t q hq
    refine ⟨ps, by rw [upd_ne (ne_of a1 e3 (by intro z; cases z))]; exact a1, a2, fun p' cv hc => ?_⟩
    obtain ⟨c0, b1, b2⟩ := a3 p' cv hc
    exact ⟨c0, b1, by rw [upd_ne (ne_of b2 e3 (by intro z; unfold LamX.CodeO at z; cases z))]; exact b2⟩
  · obtain ⟨v, h1, h2⟩ := rl.sl j r h
    exact ⟨v, h1, sdv_mono hh h2⟩
  · rcases List.mem_cons.mp h with q | q
    · cases q
      exact ⟨vs ++ [y], upd_same, im_dpa (dpa_app (dpam hh (dpa_im e4)) (.cons (dpm hh d1) .nil))⟩
    · have nd2 : (D :: ω.os.map (·.1)).Nodup := rl.ro.nd
      have na : z ≠ D := fun zz => (List.nodup_cons.mp nd2).1 (List.mem_map.mpr ⟨(z, o), q, zz⟩)
      have g := rl.ro.ob z o (List.mem_cons_of_mem _ q)
      exact odv_keep (fun w => sdv_mono hh w) (fun u _ g1 => by rw [upd_ne na]; exact g1) g
  · have hn := rl.ro.th z h
    by_cases za : z = D
    · rw [za, upd_same] at hz
      cases hz
    · rw [upd_ne za] at hz
      exact hn hz
theorem sd_appx (i : Nat) {p1 apos cpos : Pos} {D : Addr} {xs : List PyData} (he : PX X T δ (omD ω D (.lst (xs.map .im))) e d) (hk : SD X W T ss δ (omD ω D (.lst ((xs ++ [d]).map .im))) R) (hz : xs.length < 10000)
    (hd : δ[i]? = some (some (.ad D)) := by rfl) (hN : X.N[i]? = some x := by rfl) (hv : Vis X.env.scope x := by first | exact Or.inl rfl | exact Or.inr (Or.inl rfl) | exact Or.inr (Or.inr rfl))
    (h1 : (x == ("__debug__" : Str)) = false := by decide) (h2 : (x == ("__classdict__" : Str)) = false := by decide)
    (hs : swapsWith (.Call (.Attribute (.Name x p1) "append" apos) [e] [] cpos) none pos.line X.env = pure false := by rfl)
    (hbase : attributeBase (.Name x p1) "append" X.env (eval (.Name x p1) X.env) = eval (.Name x p1) X.env := by rfl)
    (hfew : ((backTo cpos (starEach [e] X.env)).all (fun x => !x.1) && (backToKw cpos (keywordEach [] X.env)).all (fun x => x.1.isSome)
      && decide (([e] : List Expr).length + ([] : List Keyword).length + (if ([] : List Keyword).isEmpty then 0 else 1) < 30)) = true := by rfl)
    (hline : (apos.endLine == cpos.line) = true := by rfl) (hst : starEach [e] X.env = (false, eval e X.env) :: starEach [] X.env := by rfl) :
    SD X W T (.Expr (.Call (.Attribute (.Name x p1) "append" apos) [e] [] cpos) pos :: ss) δ (omD ω D (.lst (xs.map .im))) R :=
  sd_cons fun σ H Dd rl t k => by
    obtain ⟨v, e1, e2⟩ := rl.sl i _ hd
    have e2 : v = .ref D := e2
    subst e2
    obtain ⟨vs, e3, e4⟩ := rl.ro.ob D _ List.mem_cons_self
    refine ws (ps_expr (pe_bm PySem.F.plainAttrs_list PySem.F.slot_list_append PySem.F.type_list_append mt_append (pe_var hN hv h1 h2) (pa_cons pe_w pa_nil hst) hbase hfew hline hst) hs) ⟨_, e1, .inl ⟨rfl, vs, SqL.of e3⟩, he σ H rl t _ fun y H1 s1 l1 d1 => ?_⟩
    obtain ⟨us, f3, f4⟩ := l1.ro.ob D _ List.mem_cons_self
    obtain ⟨g1, g2⟩ := app_step (T := T) l1 f3 f4 d1
    exact ⟨D, us, y, rfl, rfl, f3, by rw [dpa_len (dpa_im f4)]; exact Nat.lt_of_lt_of_le hz (by rw [sizeLine_eq]; decide), k.nx δ _ σ _ hk (s1.trans g1) g2⟩
/-- x = [..], a new list of what is told -/
theorem sd_ownx (i : Nat) {pos' lpos : Pos} (he : PXs X T δ ω es ds) (hk : ∀ D, SD X W T ss (δ.set i (some (.ad D))) (omD ω D (.lst (ds.map .im))) R) (hz : ds.length ≤ 1000) (hN : X.N.Nodup) (hi : X.N[i]? = some x := by rfl) (hx : Loc X.env.scope x := by first | exact Or.inl rfl | exact Or.inr rfl)
    (hs : swapsWith (.List es lpos) (some (.Name x pos')) pos.line X.env = pure false := by rfl) (hf : X.fn x = true ∨ X.env.scope.names.lookup x = some .local := by first | exact .inl rfl | exact .inr rfl | assumption) : SD X W T (.Assign [.Name x pos'] (.List es lpos) pos :: ss) δ ω R :=
  sd_cons fun σ H D rl t k => ws (ps_set hN hi hx (pe_lst pa_w) hs hf) (he σ H rl t _ fun vs H1 s1 l1 d1 => ⟨Nat.le_of_lt (small1000 (by rw [dpa_len d1]; exact hz)), fun q hq => by
    have l2 : Rl X.K (upd H1 q (.lst vs)) σ δ (omD ω q (.lst (ds.map .im))) := l1.omD hq (same_new hq) upd_same (dpam (hid_in hq (same_new hq)) d1)
    refine k.nx _ _ _ _ (hk q) (s1.trans ⟨fun b o h _ _ => same_new hq b o h, fun z h => ?_, rfl, fun t => t.ext (same_new hq)⟩) (l2.set (x := .ad q) (v := .ref q) rfl)
    rcases List.mem_cons.mp (show z ∈ q :: ω.os.map (·.1) from h) with w | w
    · exact .inr fun o ho => by
        rw [w, hq] at ho
        cases ho
    · exact .inl w⟩)
end
end FP

namespace FP
open PySem PySem.Spec PyProof.Rows L2
section
variable {X : Cx} {W : WX} {T : List (Addr × Str)} {δ : De} {ω : Om} {iter : Expr} {pos : Pos} {R : Out → Prop} {ss sa : List Stmt}
/-- for a, b, .. in ..: tuples -/
theorem sd_forU (is : List Nat) {n kk : Nat} {ts : List Expr} {p' : Pos} {items : List (List PyData)} (inv : Nat → De → Om → Prop) (hw : PWk X δ ω (.Tuple ts kk p') iter (items.map .tuple)) (h0 : inv 0 δ ω)
    (hb : ∀ i ds δ' ω', items[i]? = some ds → inv i δ' ω' → SD X W T sa (setAll δ' is ds) ω' (Turn1 inv i (Nxt X W T ss R) R))
    (hd : ∀ δ' ω', inv items.length δ' ω' → SD X W T ss δ' ω' R) (hn : ∀ ds ∈ items, ds.length = n) (hi : is.length = n) (hg : PG X (.Tuple ts kk p') (gTup X.K n (gAll is))) (hp : PassesOwn (model X.prog X.w) X.A X.env X.xe) (hc : X.calm = true) (hs : ∀ x, foldedSetIterable iter X.env x = pure x := by intro _; rfl) : SD X W T (.For (.Tuple ts kk p') iter sa [] pos :: ss) δ ω R := by
  obtain ⟨wi, h1, h2⟩ := hw
  refine sd_cons fun σ H D rl t k => ws (ps_for hp hc h1 hg pss_w hs) (h2 σ H rl _ fun J H1 s1 w => ?_)
  refine ⟨fun i m σ' H' => ∃ δ' ω', m = items.length - i ∧ i ≤ items.length ∧ inv i δ' ω' ∧ Stp T ω ω' H1 H' ∧ Rl X.K H' σ' δ' ω', ⟨items.length, δ, ω, by omega, Nat.zero_le _, h0, .refl, rl.mono s1⟩, ?_⟩
  rintro i m σ' H' ⟨δ', ω', em, hi2, iv, st, rl'⟩
  obtain ⟨go, stop, yld⟩ := w T H' (fun b o z p => (hid_out (st.seen b o z p)).2)
  rw [List.length_map] at go stop yld
  have k1 := k.step (Stp.of s1 : Stp T ω ω H H1)
  by_cases hlt : i < items.length
  · refine .inr ⟨go i hlt, fun σ2 H2 => ∃ δ2 ω2, inv (i + 1) δ2 ω2 ∧ Stp T ω ω2 H1 H2 ∧ Rl X.K H2 σ2 δ2 ω2, fun σ2 H2 ⟨δ2, ω2, a1, a2, a3⟩ => ⟨items.length - (i + 1), by omega, δ2, ω2, rfl, hlt, a1, a2, a3⟩, fun x H2 hy => ?_⟩
    obtain ⟨e2, d, ed, dx⟩ := yld i x H2 hlt hy
    subst e2
    have eds : items[i]? = some items[i] := List.getElem?_eq_getElem hlt
    rw [List.getElem?_map, eds] at ed
    cases ed
    have dx2 := dp_ke st.seen _ x dx
    have k2 := k1.step st
    cases dx2 with
    | tup g1 g2 =>
      refine ⟨_, _, rfl, same_sqt hid_sub g1, by rw [dpa_len g2]; exact hn _ (List.getElem_mem hlt), gAll_ok rl' g2 (hi.trans (hn _ (List.getElem_mem hlt)).symm) fun σ3 l3 => ?_⟩
      refine hb i _ δ' ω' eds iv _ _ _ l3 (st.tab (t.ext s1)) ?_
      exact ⟨fun δ2 ω2 σ2 H2 z q l => ⟨δ2, ω2, z, st.trans q, l⟩, fun r ω2 v H2 z q l dv => k2.rt r ω2 v H2 z q l dv, fun C ω2 σ2 H2 z q l => k2.ex C ω2 σ2 H2 z q l, fun δ2 ω2 σ2 H2 z q l => k2.nx δ2 ω2 σ2 H2 z q l, fun δ2 ω2 σ2 H2 z q l => ⟨δ2, ω2, z, st.trans q, l⟩⟩
  · have e : i = items.length := by omega
    subst e
    exact .inl ⟨stop, (k1.step st).nx δ' ω' σ' H' (hd δ' ω' iv) .refl rl'⟩
end
end FP

namespace FP
open PySem PySem.Spec PyProof.Rows L2
/-! ### match: a tuple of data, patterns of a word and names -/
@[irreducible] def wpm (X : Cx) (cs : List MatchCase) (x : V) (first : Bool) : TS := fun D σ H => ∀ pins s u, Inv X pins σ H s → RelV x u → wpAny (model X.prog X.w) X.A (matchCases cs X.env u first) (SP X pins D) X.xe s
/-- the cases, asked of data -/
def MC (X : Cx) (W : WX) (T : List (Addr × Str)) (cs : List MatchCase) (d : PyData) (δ : De) (ω : Om) (R : Out → Prop) : Prop :=
  ∀ (first : Bool) (x : V) σ H D, Rl X.K H σ δ ω → LamX.Tabs T H → Dp X.K (hid (ads ω) H) x d → Kt X W T ω H D R → wpm X cs x first D σ H
/-- patterns that are names alone -/
def capN : List Pattern → Option (List Str)
  | [] => some []
  | .MatchAs none (some n) _ :: ps => (capN ps).map (n :: ·)
  | _ => none
theorem each_caps {M : Model} {A : Around} {E : Value → Shared → Prop} {env : Env} : ∀ {ps : List Pattern} {ns : List Str} {us : List Value} {s : Shared} {Q : Option (List (Str × Value)) → Shared → Prop}, capN ps = some ns → us.length = ns.length → Q (some (ns.zip us)) s → wpAny M A (matchEach ps env us) Q E s
  | [], ns, us, s, Q, h, hl, q => by
    cases h
    exact wpAny_matchEach_nil q
  | p :: ps, ns, us, s, Q, h, hl, q => by
    unfold capN at h
    split at h
    · rename_i h2
      cases h2
    · rename_i n pp ps' heq
      cases heq
      cases e : capN ps with
      | none =>
        rw [e] at h
        cases h
      | some ns' =>
        rw [e] at h
        cases h
        match us, hl with
        | u :: us', hl => exact wpAny_matchEach_cons (wpAny_matchPattern_Capture (each_caps e (Nat.succ.inj hl) q))
    · cases h
section
variable {X : Cx} {W : WX} {T : List (Addr × Str)} {δ : De} {ω : Om} {e : Expr} {d : PyData} {ds : List PyData} {pos p1 p2 p3 : Pos} {R : Out → Prop} {ss body : List Stmt} {cs : List MatchCase} {ps : List Pattern} {z : Str} {k : Nat}
theorem sd_match (he : PD X δ ω e d) (hm : MC X W T cs d δ ω (Nxt X W T ss R)) : SD X W T (.Match e cs pos :: ss) δ ω R := by
  refine sd_cons fun σ H D rl t kt => ?_
  have h1 := he σ H rl (fun v H1 => wpm X cs v true D σ H1) fun v H1 s1 d1 => hm true v σ H1 D (rl.mono s1) (t.ext s1) d1 (kt.step (.of s1))
  unfold wps
  intro pins s I
  refine wpAny_Match (wpAny_mono (pe_w.run pins s σ H _ I h1) (fun u s1 w => ?_) fun _ _ x => x)
  obtain ⟨v, H1, J, rv, q⟩ := w
  unfold wpm at q
  exact q pins s1 u J rv
theorem mc_nil (h : R (.nx δ ω)) : MC X W T [] d δ ω R := fun first x σ H D rl t dx kt => by
  unfold wpm
  exact fun pins s u I r => wpAny_matchCases_nil ⟨σ, H, I, kt.nx δ ω σ H h .refl rl⟩
/-- another number of things -/
theorem mc_len (hn : ds.length ≠ ps.length) (hz : ds.length ≤ 100000) (hr : MC X W T cs (.tuple ds) δ ω R) (hstar : ps.findIdx? (·.isStar) = none := by rfl) (hwild : (ps.all fun p => p.isWildcard || (p.isStar && p.names.isEmpty)) = false := by rfl) :
    MC X W T (⟨.MatchSequence ps p1, none, body⟩ :: cs) (.tuple ds) δ ω R := fun first x σ H D rl t dx kt => by
  have h2 := hr false x σ H D rl t dx kt
  unfold wpm at h2 ⊢
  intro pins s u I r
  cases dx with
  | tup g1 g2 =>
    obtain rfl : u = Value.ref _ := r
    obtain ⟨its, rv, it, _⟩ := I.tuple (same_sqt hid_sub g1)
    have len : its.length = ds.length := by rw [← rv.length, dpa_len g2]
    exact wpAny_matchCases_cons (matchSeq_tuple_miss it (by rw [List.size_toArray, len]; omega) (by rw [List.size_toArray, len]; exact hn) (h2 pins _ _ (I.kept (t' := s.toks + 1 + 1) fun _ _ z => z) rfl) hstar hwild)
theorem seq_word {E : Value → Shared → Prop} {pins : List (Addr × Obj)} {σ : L2.St} {H : Hp} {s : Shared} {a : Addr} {vs : List V} {y : Str} {Q : Option (List (Str × Value)) → Shared → Prop} (hc : X.calm = true) (I : Inv X pins σ H s) (g : SqT X.K H a (.str y :: vs)) (hl : vs.length = ps.length) (hz : vs.length < 100000)
    (hq : ∀ us s1, Inv X pins σ H s1 → Vals vs us → if y = z then wpAny (model X.prog X.w) X.A (matchEach ps X.env us) (fun r s2 => Q r s2) X.xe s1 else Q none s1) (hstar : (.MatchValue (.Constant (.str z) k p2) p3 :: ps : List Pattern).findIdx? (·.isStar) = none) :
    wpAny (model X.prog X.w) X.A (matchPattern (.MatchSequence (.MatchValue (.Constant (.str z) k p2) p3 :: ps) p1) X.env (.ref a)) Q X.xe s := by
  obtain ⟨its, rv, it, _⟩ := I.tuple g
  have len : its.length = (vs.length + 1) := by rw [← rv.length]; rfl
  cases rv with
  | cons r0 rr =>
    rename_i u0 us
    have lus : us.length = vs.length := by rw [← rr.length]
    refine matchSeq_tuple_hit it (by rw [List.size_toArray]; simp only [List.length_cons]; omega) (by rw [List.size_toArray]; simp only [List.length_cons]; omega) ?_ hstar rfl
    have J : Inv X pins σ H { s with toks := s.toks + 1 + 1 } := I.kept (t' := s.toks + 1 + 1) fun _ _ z => z
    have e1 : (u0 :: us).toArray.size = (.MatchValue (.Constant (.str z) k p2) p3 :: ps : List Pattern).length := by
      rw [List.size_toArray]
      simp only [List.length_cons]
      omega
    rw [← e1]
    refine unpackItems_tuple (I.ok.hd hc) (s := { s with toks := s.toks + 1 + 1 }) it fun h' ext => ?_
    have J2 : Inv X pins σ H { s with heap := h', toks := s.toks + 1 + 1 } := I.kept (t' := s.toks + 1 + 1) fun b o e => ext b o (Nat.ne_of_lt (Heap.lt_size e)) e
    show wpAny _ _ (matchEach (.MatchValue (.Constant (.str z) k p2) p3 :: ps) X.env (u0 :: us)) _ _ _
    refine wpAny_matchEach_cons (wpAny_matchPattern_Value (wpAny_mono ((pe_str (X := X) (x := z) (j := k) (pos := p2)).run pins _ σ H (fun v H1 => v = .str z ∧ H1 = H) J2 ⟨rfl, rfl⟩) (fun u s3 w => ?_) fun _ _ x => x))
    obtain ⟨v, H1, J3, rz, ev, eH⟩ := w
    subst ev
    subst eH
    refine wpAny_mono (op_eq (X := X) pins s3 σ H1 (.str y) (.str z) u0 u (fun v H2 => v = .bl (decide (y = z)) ∧ H2 = H1) J3 r0 rz ⟨rfl, ?_, rfl⟩) (fun uc s4 w => ?_) fun _ _ x => x
    · by_cases c : y = z
      · subst c
        simp
      · rw [decide_eq_false c, decide_eq_false (fun q => c (V.str.inj q))]
    · obtain ⟨v, H2, J4, rb, ev, eH⟩ := w
      subst ev
      subst eH
      cases rb
      have q := hq us s4 J4 rr
      by_cases c : y = z
      · rw [decide_eq_true c]
        rw [if_pos c] at q
        refine wpAny_of_eq (a := true) rfl ?_
        simp only [if_true]
        refine wpAny_mono q (fun r s5 w => ?_) fun _ _ x => x
        cases r with
        | none => exact w
        | some more => exact w
      · rw [decide_eq_false c]
        rw [if_neg c] at q
        exact wpAny_of_eq (a := false) rfl q
end
end FP

namespace FP
open PySem PySem.Spec PyProof.Rows L2
/-- the names' slots, all of them locals -/
def capB (N : List Str) (sc : Scope) : List Str → List Nat → Bool
  | [], [] => true
  | n :: ns, i :: is => decide (N[i]? = some n) && (decide (sc.names.lookup n = some .local) && capB N sc ns is)
  | _, _ => false
theorem assign_caps {X : Cx} {pins : List (Addr × Obj)} {H : Hp} {Q : L2.St → Hp → Prop} {M : Model} {A : Around} {E : Value → Shared → Prop} (hN : X.N.Nodup) : ∀ {ns : List Str} {is : List Nat} {us : List Value} {vs : List V} {σ : L2.St} {s : Shared}, capB X.N X.env.scope ns is = true → Inv X pins σ H s → Vals vs us → us.length = ns.length → gAll is vs σ H Q →
    wpAny M A (assignInOrder ((ns.zip us).map fun x => bindName X.env x.1) ((ns.zip us).map (·.2))) (fun _ s' => ∃ σ' H', Inv X pins σ' H' s' ∧ Q σ' H') E s
  | [], [], [], _, σ, s, _, I, .nil, _, g => wpAny_assignInOrder_none ⟨σ, H, I, g.2⟩
  | n :: ns, i :: is, u :: us, _, σ, s, hb, I, .cons r rr, hl, g => by
    obtain ⟨h1, h2⟩ := He.ba hb
    obtain ⟨h2, h3⟩ := He.ba h2
    obtain ⟨v, w, e, g⟩ := g
    cases e
    refine wpAny_assignInOrder_more (wpAny_bindName (store_ok I hN (of_decide_eq_true h1) (.inl (of_decide_eq_true h2)) r (fun s1 J => ?_) (.inr (of_decide_eq_true h2))))
    exact assign_caps hN h3 J rr (Nat.succ.inj hl) g
  | n :: ns, [], _, _, _, _, hb, _, _, _, _ => by cases hb
  | [], i :: is, _, _, _, _, hb, _, _, _, _ => by cases hb
  | [], [], u :: us, _, _, _, _, _, _, hl, _ => by cases hl
  | n :: ns, i :: is, [], _, _, _, _, _, _, hl, _ => by cases hl
section
variable {X : Cx} {W : WX} {T : List (Addr × Str)} {δ : De} {ω : Om} {d : PyData} {ds : List PyData} {p1 p2 p3 : Pos} {R : Out → Prop} {body : List Stmt} {cs : List MatchCase} {ps : List Pattern} {y z : Str} {k : Nat}
/-- another word -/
theorem mc_word (hc : X.calm = true) (hn : y ≠ z) (hl : ds.length = ps.length) (hz : ds.length < 100000) (hr : MC X W T cs (.tuple (.str y :: ds)) δ ω R) (hstar : (.MatchValue (.Constant (.str z) k p2) p3 :: ps : List Pattern).findIdx? (·.isStar) = none := by rfl) :
    MC X W T (⟨.MatchSequence (.MatchValue (.Constant (.str z) k p2) p3 :: ps) p1, none, body⟩ :: cs) (.tuple (.str y :: ds)) δ ω R := fun first x σ H D rl t dx kt => by
  have h2 := hr false x σ H D rl t dx kt
  unfold wpm at h2 ⊢
  intro pins s u I r
  cases dx with
  | tup g1 g2 =>
    obtain rfl : u = Value.ref _ := r
    cases g2 with
    | cons b1 b2 =>
      cases b1
      refine wpAny_matchCases_cons (seq_word (E := X.xe) (y := y) (z := z) hc I (same_sqt hid_sub g1) (by rw [dpa_len b2]; exact hl) (by rw [dpa_len b2]; exact hz) (fun us s1 J rv => ?_) hstar)
      rw [if_neg hn]
      exact h2 pins s1 _ J rfl
/-- this word: the names are set -/
theorem mc_hit (is : List Nat) {ns : List Str} (hc : X.calm = true) (hN : X.N.Nodup) (hl : ds.length = ps.length) (hz : ds.length < 100000) (hi : is.length = ds.length) (hcap : capN ps = some ns) (hat : capB X.N X.env.scope ns is = true) (hb : SD X W T body (setAll δ is ds) ω R)
    (hstar : (.MatchValue (.Constant (.str z) k p2) p3 :: ps : List Pattern).findIdx? (·.isStar) = none := by rfl) :
    MC X W T (⟨.MatchSequence (.MatchValue (.Constant (.str z) k p2) p3 :: ps) p1, none, body⟩ :: cs) (.tuple (.str z :: ds)) δ ω R := fun first x σ H D rl t dx kt => by
  have lns : ∀ {ps : List Pattern} {ns : List Str}, capN ps = some ns → ns.length = ps.length := by
    intro ps
    induction ps with
    | nil =>
      intro ns h
      cases h
      rfl
    | cons p ps ih =>
      intro ns h
      unfold capN at h
      split at h
      · rename_i h2
        cases h2
      · rename_i n pp ps' heq
        cases heq
        cases e : capN ps with
        | none =>
          rw [e] at h
          cases h
        | some ns' =>
          rw [e] at h
          cases h
          rw [List.length_cons, List.length_cons, ih e]
      · cases h
  unfold wpm
  intro pins s u I r
  cases dx with
  | tup g1 g2 =>
    obtain rfl : u = Value.ref _ := r
    cases g2 with
    | cons b1 b2 =>
      cases b1
      refine wpAny_matchCases_cons (seq_word (E := X.xe) (y := z) (z := z) hc I (same_sqt hid_sub g1) (by rw [dpa_len b2]; exact hl) (by rw [dpa_len b2]; exact hz) (fun us s1 J rv => ?_) hstar)
      rw [if_pos rfl]
      have lus : us.length = ns.length := by rw [← rv.length, dpa_len b2, hl, lns hcap]
      refine each_caps hcap lus ?_
      refine wpAny_mono (assign_caps hN hat J rv lus (gAll_ok (Q := fun σ' H' => H' = H ∧ Rl X.K H σ' (setAll δ is ds) ω) rl b2 hi fun σ' l => ⟨rfl, l⟩)) (fun _ s2 w => ?_) fun _ _ x => x
      obtain ⟨σ', H', J2, eH, l2⟩ := w
      subst eH
      exact pss_w.run pins s2 σ' H' D J2 (hb σ' H' D l2 t kt)
end
end FP

namespace FP
open PySem PySem.Spec PyProof.Rows L2
/-! ### objects with fields of data -/
abbrev Fs := List (Str × PyData)
def imF (fs : Fs) : List (Str × Sd) := fs.map fun p => (p.1, .im p.2)
def putD (f : Str) (d : PyData) : Fs → Fs
  | [] => [(f, d)]
  | (g, x) :: r => if g = f then (g, d) :: r else (g, x) :: putD f d r
/-- fields as they lie -/
inductive FV (K : PySem.W.Frag) (H : Hp) : Fs → List (Str × V) → Prop
  | nil : FV K H [] []
  | cons {g : Str} {d : PyData} {v : V} {fs : Fs} {vs : List (Str × V)} (h : Dp K H v d) (r : FV K H fs vs) : FV K H ((g, d) :: fs) ((g, v) :: vs)
theorem fv_mono {K : PySem.W.Frag} {H H' : Hp} (e : Same H H') : ∀ {fs : Fs} {vs : List (Str × V)}, FV K H fs vs → FV K H' fs vs
  | _, _, .nil => .nil
  | _, _, .cons h r => .cons (dpm e h) (fv_mono e r)
theorem fv_ke {T : List (Addr × Str)} {K : PySem.W.Frag} {H H' : Hp} (e : Ke T H H') : ∀ {fs : Fs} {vs : List (Str × V)}, FV K H fs vs → FV K H' fs vs
  | _, _, .nil => .nil
  | _, _, .cons h r => .cons (dp_ke e _ _ h) (fv_ke e r)
theorem fv_of {K : PySem.W.Frag} {H : Hp} : ∀ {fs : Fs} {vs : List (Str × V)}, Paired (fun (p : Str × Sd) (q : Str × V) => p.1 = q.1 ∧ SdV K H p.2 q.2) (imF fs) vs → FV K H fs vs
  | [], _, h => by
    cases h
    exact .nil
  | (g, d) :: fs, _, h => by
    cases h with
    | cons a b =>
      rename_i q vs
      obtain ⟨g', v⟩ := q
      obtain ⟨e, a⟩ := a
      cases e
      exact .cons a (fv_of b)
theorem of_fv {K : PySem.W.Frag} {H : Hp} : ∀ {fs : Fs} {vs : List (Str × V)}, FV K H fs vs → Paired (fun (p : Str × Sd) (q : Str × V) => p.1 = q.1 ∧ SdV K H p.2 q.2) (imF fs) vs
  | _, _, .nil => .nil
  | _, _, .cons h r => .cons ⟨rfl, h⟩ (of_fv r)
theorem fv_put {K : PySem.W.Frag} {H : Hp} {f : Str} {d : PyData} {y : V} (h : Dp K H y d) : ∀ {fs : Fs} {vs : List (Str × V)}, FV K H fs vs → FV K H (putD f d fs) (putF f y vs)
  | _, _, .nil => .cons h .nil
  | (g, _) :: _, _, .cons a r => by
    unfold putD putF
    by_cases e : g = f
    · rw [if_pos e, if_pos e]
      exact .cons h r
    · rw [if_neg e, if_neg e]
      exact .cons a (fv_put h r)
theorem fv_get {K : PySem.W.Frag} {H : Hp} {f : Str} {d : PyData} : ∀ {fs : Fs} {vs : List (Str × V)}, FV K H fs vs → fs.lookup f = some d → ∃ v, vs.lookup f = some v ∧ Dp K H v d
  | _, _, .nil, h => by cases h
  | (g, x) :: fs, (_, v) :: vs, .cons a r, h => by
    rw [List.lookup_cons] at h ⊢
    cases e : f == g with
    | true =>
      rw [e] at h
      cases h
      exact ⟨v, rfl, a⟩
    | false =>
      rw [e] at h
      exact fv_get r h
theorem fv_none {K : PySem.W.Frag} {H : Hp} {f : Str} : ∀ {fs : Fs} {vs : List (Str × V)}, FV K H fs vs → fs.lookup f = none → vs.lookup f = none
  | _, _, .nil, _ => rfl
  | (g, x) :: fs, (_, v) :: vs, .cons a r, h => by
    rw [List.lookup_cons] at h ⊢
    cases e : f == g with
    | true =>
      rw [e] at h
      cases h
    | false =>
      rw [e] at h
      exact fv_none r h
theorem fv_len {K : PySem.W.Frag} {H : Hp} : ∀ {fs : Fs} {vs : List (Str × V)}, FV K H fs vs → vs.length = fs.length
  | _, _, .nil => rfl
  | _, _, .cons _ r => by rw [List.length_cons, List.length_cons, fv_len r]
/-- an object of one's own is written -/
theorem own_step {T : List (Addr × Str)} {K : PySem.W.Frag} {H : Hp} {σ : L2.St} {δ : De} {ω : Om} {D : Addr} {o o' : Od} {u0 u : HO} (rl : Rl K H σ δ (omD ω D o)) (e0 : H D = some u0) (nt : ∀ ps, u0 ≠ .tbl ps) (nc : ∀ c q, u0 ≠ LamX.CodeO c q)
    (new : OdV K (hid (ads (omD ω D o')) (upd H D u)) (upd H D u) D o') : Stp T (omD ω D o) (omD ω D o') H (upd H D u) ∧ Rl K (upd H D u) σ δ (omD ω D o') := by
  have hh : Same (hid (ads (omD ω D o)) H) (hid (ads (omD ω D o')) (upd H D u)) := hid_upd
  refine ⟨⟨fun b x h n _ => ?_, fun a h => .inl h, rfl, fun t => ?_⟩, ⟨rl.len, fun j r h => ?_, fun z x h => ?_, rl.ro.nd, fun z h hz => ?_⟩⟩
  · have nb : b ≠ D := fun z => n (by rw [z]; exact List.mem_cons_self)
    rw [upd_ne nb]
    exact h
  · intro q hq
    obtain ⟨ps, a1, a2, a3⟩ := t q hq
    refine ⟨ps, by rw [upd_ne (fun z => nt ps (by rw [z, e0] at a1; exact Option.some.inj a1))]; exact a1, a2, fun p' cv hc => ?_⟩
    obtain ⟨c0, b1, b2⟩ := a3 p' cv hc
    exact ⟨c0, b1, by rw [upd_ne (fun z => nc _ _ (by rw [z, e0] at b2; exact Option.some.inj b2))]; exact b2⟩
  · obtain ⟨v, h1, h2⟩ := rl.sl j r h
    exact ⟨v, h1, sdv_mono hh h2⟩
  · rcases List.mem_cons.mp h with q | q
    · cases q
      exact new
    · have nd2 : (D :: ω.os.map (·.1)).Nodup := rl.ro.nd
      have na : z ≠ D := fun zz => (List.nodup_cons.mp nd2).1 (List.mem_map.mpr ⟨(z, x), q, zz⟩)
      have g := rl.ro.ob z x (List.mem_cons_of_mem _ q)
      exact odv_keep (fun w => sdv_mono hh w) (fun u _ g1 => by rw [upd_ne na]; exact g1) g
  · have hn := rl.ro.th z h
    by_cases za : z = D
    · rw [za, upd_same] at hz
      cases hz
    · rw [upd_ne za] at hz
      exact hn hz
theorem fld_step {T : List (Addr × Str)} {K : PySem.W.Frag} {H : Hp} {σ : L2.St} {δ : De} {ω : Om} {a C dx : Addr} {fs : Fs} {vs : List (Str × V)} {f : Str} {y : V} {d : PyData} (rl : Rl K H σ δ (omD ω a (.ins C (imF fs)))) (e0 : H a = some (.ins C dx vs)) (fv : FV K (hid (ads (omD ω a (.ins C (imF fs)))) H) fs vs)
    (dy : Dp K (hid (ads (omD ω a (.ins C (imF fs)))) H) y d) : Stp T (omD ω a (.ins C (imF fs))) (omD ω a (.ins C (imF (putD f d fs)))) H (upd H a (.ins C dx (putF f y vs))) ∧ Rl K (upd H a (.ins C dx (putF f y vs))) σ δ (omD ω a (.ins C (imF (putD f d fs)))) :=
  own_step rl e0 (fun _ z => by cases z) (fun _ _ z => by unfold LamX.CodeO at z; cases z) ⟨dx, _, upd_same, of_fv (fv_put (dpm hid_upd dy) (fv_mono hid_upd fv))⟩
section
variable {X : Cx} {W : WX} {T : List (Addr × Str)} {δ : De} {ω : Om} {e : Expr} {d : PyData} {ds : List PyData} {pos p p1 : Pos} {R : Out → Prop} {ss : List Stmt} {a C : Addr} {fs : Fs} {f x : Str}
theorem rl_ins {H : Hp} {σ : L2.St} (rl : Rl X.K H σ δ ω) (hm : (a, Od.ins C (imF fs)) ∈ ω.os) : ∃ dx vs, H a = some (.ins C dx vs) ∧ FV X.K (hid (ads ω) H) fs vs := by
  obtain ⟨dx, vs, h1, h2⟩ := rl.ro.ob a _ hm
  exact ⟨dx, vs, h1, fv_of h2⟩
/-- x.f -/
theorem pd_fld (i : Nat) (Cl : Cls X.K C) (Na : NoAttr X.K C f) (hm : (a, Od.ins C (imF fs)) ∈ ω.os) (hl : fs.lookup f = some d) (hd : δ[i]? = some (some (.ad a)) := by rfl) (hN : X.N[i]? = some x := by rfl) (hv : Vis X.env.scope x := by first | exact Or.inl rfl | exact Or.inr (Or.inl rfl) | exact Or.inr (Or.inr rfl))
    (h1 : (x == ("__debug__" : Str)) = false := by decide) (h2 : (x == ("__classdict__" : Str)) = false := by decide) (hb : attributeBase (.Name x p1) f X.env (eval (.Name x p1) X.env) = eval (.Name x p1) X.env := by rfl) : PD X δ ω (.Attribute (.Name x p1) f pos) d := fun σ H rl Q q => by
  obtain ⟨v, e1, e2⟩ := rl.sl i _ hd
  have e2 : v = .ref a := e2
  subst e2
  obtain ⟨dx, vs, g1, g2⟩ := rl_ins rl hm
  obtain ⟨y, g3, g4⟩ := fv_get g2 hl
  exact we (pe_fld (pe_var hN hv h1 h2) hb) ⟨_, e1, a, C, dx, vs, y, rfl, g1, Cl, Na, g3, q y H (Same.refl H) g4⟩
/-- x.f = e -/
theorem sd_fld (i : Nat) {pos' : Pos} (Cl : Cls X.K C) (Na : NoAttr X.K C f) (he : PD X δ (omD ω a (.ins C (imF fs))) e d) (hk : SD X W T ss δ (omD ω a (.ins C (imF (putD f d fs)))) R) (hz : fs.length < 1000) (hd : δ[i]? = some (some (.ad a)) := by rfl) (hN : X.N[i]? = some x := by rfl)
    (hv : Vis X.env.scope x := by first | exact Or.inl rfl | exact Or.inr (Or.inl rfl) | exact Or.inr (Or.inr rfl)) (h1 : (x == ("__debug__" : Str)) = false := by decide) (h2 : (x == ("__classdict__" : Str)) = false := by decide)
    (hs : swapsWith e (some (.Attribute (.Name x p1) f pos')) pos.line X.env = pure false := by rfl) : SD X W T (.Assign [.Attribute (.Name x p1) f pos'] e pos :: ss) δ (omD ω a (.ins C (imF fs))) R :=
  sd_cons fun σ H D rl t k => ws (ps_fld (pe_var hN hv h1 h2) pe_w hs) (he σ H rl _ fun y H1 s1 d1 => by
    have rl1 := rl.mono s1
    obtain ⟨v, e1, e2⟩ := rl1.sl i _ hd
    have e2 : v = .ref a := e2
    subst e2
    obtain ⟨dx, vs, g1, g2⟩ := rl_ins rl1 List.mem_cons_self
    obtain ⟨st, l2⟩ := fld_step (T := T) (f := f) rl1 g1 g2 d1
    exact ⟨_, e1, a, C, dx, vs, rfl, g1, Cl, Na, by rw [fv_len g2]; exact hz, k.nx δ _ σ _ hk ((Stp.of s1).trans st) l2⟩)
/-- x.f += e, whole numbers -/
theorem sd_fldadd (i : Nat) {tpos : Pos} {m n : Int} (Cl : Cls X.K C) (Na : NoAttr X.K C f) (hl : fs.lookup f = some (.int m)) (he : PD X δ (omD ω a (.ins C (imF fs))) e (.int n)) (hk : SD X W T ss δ (omD ω a (.ins C (imF (putD f (.int (m + n)) fs)))) R) (hz : fs.length < 1000) (hd : δ[i]? = some (some (.ad a)) := by rfl) (hN : X.N[i]? = some x := by rfl)
    (hv : Vis X.env.scope x := by first | exact Or.inl rfl | exact Or.inr (Or.inl rfl) | exact Or.inr (Or.inr rfl)) (h1 : (x == ("__debug__" : Str)) = false := by decide) (h2 : (x == ("__classdict__" : Str)) = false := by decide) :
    SD X W T (.AugAssign (.Attribute (.Name x p1) f tpos) .Add e pos :: ss) δ (omD ω a (.ins C (imF fs))) R :=
  sd_cons fun σ H D rl t k => ws (ps_fldaug (pe_var hN hv h1 h2) pe_w in_add) (by
    obtain ⟨v, e1, e2⟩ := rl.sl i _ hd
    have e2 : v = .ref a := e2
    subst e2
    obtain ⟨dx, vs, g1, g2⟩ := rl_ins rl List.mem_cons_self
    obtain ⟨y, g3, g4⟩ := fv_get g2 hl
    cases g4
    refine ⟨_, e1, a, C, dx, vs, _, rfl, g1, Cl, Na, g3, he σ H rl _ fun z H1 s1 d1 => ?_⟩
    cases d1
    have rl1 := rl.mono s1
    obtain ⟨dx1, vs1, k1, k2⟩ := rl_ins rl1 List.mem_cons_self
    obtain ⟨st, l2⟩ := fld_step (T := T) (f := f) rl1 k1 k2 (.int (m + n))
    exact ⟨m, n, rfl, rfl, dx1, vs1, k1, by rw [fv_len k2]; exact hz, k.nx δ _ σ _ hk ((Stp.of s1).trans st) l2⟩)
end
end FP

namespace FP
open PySem PySem.Spec PyProof.Rows L2
/-! ### x.f, x.g, .. = a tuple -/
def gFld (K : PySem.W.Frag) (i : Nat) (C : Addr) (f : Str) : TG := fun v σ H Q => ∃ a dx fs, σ[i]? = some (some (.ref a)) ∧ H a = some (.ins C dx fs) ∧ Cls K C ∧ NoAttr K C f ∧ fs.length < 1000 ∧ Q σ (upd H a (.ins C dx (putF f v fs)))
def gFlds (K : PySem.W.Frag) (i : Nat) (C : Addr) : List Str → TGs
  | [] => gNil
  | f :: fs => gCons (gFld K i C f) (gFlds K i C fs)
def putAll : List Str → List PyData → Fs → Fs
  | f :: ns, d :: ds, fs => putAll ns ds (putD f d fs)
  | _, _, fs => fs
theorem putD_len (f : Str) (d : PyData) : ∀ fs : Fs, (putD f d fs).length ≤ fs.length + 1
  | [] => Nat.le_refl _
  | (g, x) :: r => by
    unfold putD
    by_cases e : g = f
    · rw [if_pos e]
      simp
    · rw [if_neg e]
      have := putD_len f d r
      simp
      omega
section
variable {X : Cx} {W : WX} {T : List (Addr × Str)} {δ : De} {ω : Om} {e : Expr} {d : PyData} {ds : List PyData} {pos p p1 : Pos} {R : Out → Prop} {ss : List Stmt} {a C : Addr} {fs : Fs} {f x : Str}
theorem pg_fld (i : Nat) (hN : X.N[i]? = some x) (hv : Vis X.env.scope x) (h1 : (x == ("__debug__" : Str)) = false := by decide) (h2 : (x == ("__classdict__" : Str)) = false := by decide) : PG X (.Attribute (.Name x p1) f pos) (gFld X.K i C f) := by
  refine ⟨fun pins s σ H v u Q I r h => ?_⟩
  obtain ⟨a, dx, fs, g1, g2, g3, g4, g5, q⟩ := h
  rw [assign_Attribute]
  refine wpAny_bind (wpAny_holding (wpAny_mono ((pe_var (pos := p1) hN hv h1 h2).run pins s σ H (fun w H1 => w = .ref a ∧ H1 = H) I ⟨_, g1, rfl, rfl⟩) (fun uo s1 w => ?_) fun _ _ x => x))
  obtain ⟨w, H1, J, rw', ew, eH⟩ := w
  subst ew
  subst eH
  obtain rfl : uo = Value.ref a := rw'
  refine wpAny_bind (wpAny_standAt (wpAny_bind (wpAny_holding (setattr_ok J g2 g3 g4 g5 r fun s2 J2 => ?_))))
  exact wpAny_release ⟨σ, _, J2, q⟩
theorem gFlds_ok {Q : L2.St → Hp → Prop} {i : Nat} (Cl : Cls X.K C) (hd : δ[i]? = some (some (.ad a))) : ∀ {ns : List Str} {ds : List PyData} {vs : List V} {fs : Fs} {σ : L2.St} {H : Hp}, (∀ f ∈ ns, NoAttr X.K C f) → fs.length + ns.length < 1000 → ns.length = ds.length → Rl X.K H σ δ (omD ω a (.ins C (imF fs))) → DpAll X.K (hid (ads (omD ω a (.ins C (imF fs)))) H) vs ds →
    (∀ H', Stp T (omD ω a (.ins C (imF fs))) (omD ω a (.ins C (imF (putAll ns ds fs)))) H H' → Rl X.K H' σ δ (omD ω a (.ins C (imF (putAll ns ds fs)))) → Q σ H') → gFlds X.K i C ns vs σ H Q
  | [], [], _, fs, σ, H, _, _, _, rl, .nil, k => ⟨rfl, k H .refl rl⟩
  | f :: ns, d :: ds, v :: vs, fs, σ, H, na, hz, hl, rl, .cons b1 b2, k => by
    obtain ⟨w, e1, e2⟩ := rl.sl i _ hd
    have e2 : w = .ref a := e2
    subst e2
    obtain ⟨dx, us, g1, g2⟩ := rl_ins rl List.mem_cons_self
    obtain ⟨st, l2⟩ := fld_step (T := T) (f := f) rl g1 g2 b1
    have hz' : fs.length + (ns.length + 1) < 1000 := hz
    have pl := putD_len f d fs
    refine ⟨v, vs, rfl, a, dx, us, e1, g1, Cl, na f List.mem_cons_self, by rw [fv_len g2]; omega, ?_⟩
    exact gFlds_ok Cl hd (fun g hg => na g (List.mem_cons_of_mem _ hg)) (by omega) (Nat.succ.inj hl) l2 (dpam hid_upd b2) fun H' s' l' => k H' (st.trans s') l'
  | [], _ :: _, _, _, _, _, _, _, hl, _, _, _ => by cases hl
  | _ :: _, [], _, _, _, _, _, _, hl, _, _, _ => by cases hl
theorem sd_unpF (i : Nat) (ns : List Str) {ts : List Expr} {n kk : Nat} {p' : Pos} (Cl : Cls X.K C) (na : ∀ f ∈ ns, NoAttr X.K C f) (he : PD X δ (omD ω a (.ins C (imF fs))) e (.tuple ds)) (hg : PG X (.Tuple ts kk p') (gTup X.K n (gFlds X.K i C ns))) (hn : ds.length = n) (hi : ns.length = n) (hz : fs.length + ns.length < 1000)
    (hk : SD X W T ss δ (omD ω a (.ins C (imF (putAll ns ds fs)))) R) (hd : δ[i]? = some (some (.ad a)) := by rfl) (hs : swapsWithSole [.Tuple ts kk p'] e pos.line X.env = pure false := by rfl) (hw : swappedStores [.Tuple ts kk p'] e X.env = pure none := by rfl) : SD X W T (.Assign [.Tuple ts kk p'] e pos :: ss) δ (omD ω a (.ins C (imF fs))) R :=
  sd_cons fun σ H D rl t k => ws (ps_asg pe_w hg hs hw) (he σ H rl _ fun v H1 s1 dv => by
    cases dv with
    | tup h1 h2 => exact ⟨_, _, rfl, same_sqt hid_sub h1, by rw [dpa_len h2]; exact hn, gFlds_ok (T := T) Cl hd na hz (hi.trans hn.symm) (rl.mono s1) h2 fun H' st l => k.nx δ _ σ H' hk ((Stp.of s1).trans st) l⟩)
end
/-! ### methods -/
theorem hid_cons_in {a : Addr} {ps : List Addr} {H : Hp} (h : a ∈ ps) : hid (a :: ps) H = hid ps H := by
  funext b
  unfold hid
  by_cases e : b ∈ ps
  · rw [if_pos e, if_pos (List.mem_cons_of_mem _ e)]
  · rw [if_neg e, if_neg (fun z => (List.mem_cons.mp z).elim (fun q => e (by rw [q]; exact h)) e)]
theorem hid_self {a C : Addr} {ps : List Addr} {o : Od} {H : Hp} : hid (ads ⟨ps, [(a, o)]⟩) H = hid (a :: ps) H := by
  funext b
  unfold hid
  have e : b ∈ ads ⟨ps, [(a, o)]⟩ ↔ b ∈ a :: ps := by
    show b ∈ ps ++ [a] ↔ b ∈ a :: ps
    simp [or_comm]
  by_cases h : b ∈ a :: ps
  · rw [if_pos h, if_pos (e.mpr h)]
  · rw [if_neg h, if_neg (fun z => h (e.mp z))]
/-- self and what is handed to a method -/
structure MIn (K : PySem.W.Frag) (C : Addr) (vs : List V) (H : Hp) (ps : List Addr) (a : Addr) (fs : Fs) (ds : List PyData) : Prop where
  ex : ∃ dx fvs vs', vs = .ref a :: vs' ∧ (∀ b ∈ ps, H b ≠ none) ∧ H a = some (.ins C dx fvs) ∧ FV K (hid (a :: ps) H) fs fvs ∧ DpAll K (hid (a :: ps) H) vs' ds
/-- one that only reads -/
def spR (K : PySem.W.Frag) (C : Addr) (fr : Fs → List PyData → PyData → Prop) : Sp := fun vs H Q _ => ∃ ps a fs ds d, MIn K C vs H ps a fs ds ∧ fr fs ds d ∧ ∀ v H', Same H H' → Dp K (hid (a :: ps) H') v d → Q v H'
/-- one that writes self, or raises -/
def spW (K : PySem.W.Frag) (C : Addr) (fr : Fs → List PyData → Rs → Fs → Prop) : Sp := fun vs H Q E => ∃ ps a fs ds r fs', MIn K C vs H ps a fs ds ∧ fr fs ds r fs' ∧ ∀ H' dx fvs, (∀ b o, b ≠ a → H b = some o → H' b = some o) → H' a = some (.ins C dx fvs) → FV K (hid (a :: ps) H') fs' fvs →
  (match r with | .ok d => ∀ v, Dp K (hid (a :: ps) H') v d → Q v H' | .er Z => E (.ref Z) none H')
structure RdOk (P : Program) (w : World) (K : PySem.W.Frag) (mg : Str → Option Value) (base : Heap) (k : Nat) (C : Addr) (m : Str) (fr : Fs → List PyData → PyData → Prop) : Prop where
  ex : ∃ f fd ps, FnOk P w K mg base (L2N.CX P w) k f fd ps (spR K C fr) ∧ Meth K C m f ∧ L2.Binds K fd ps []
structure WrOk (P : Program) (w : World) (K : PySem.W.Frag) (mg : Str → Option Value) (base : Heap) (k : Nat) (C : Addr) (m : Str) (fr : Fs → List PyData → Rs → Fs → Prop) : Prop where
  ex : ∃ f fd ps, FnOk P w K mg base (L2N.CX P w) k f fd ps (spW K C fr) ∧ Meth K C m f ∧ L2.Binds K fd ps []
/-- the slots at the start -/
def startM (N : List Str) (a : Addr) (ds : List PyData) : De := some (.ad a) :: (ds.map (fun d => some (.im d)) ++ List.replicate (N.length - (ds.length + 1)) none)
theorem startM_rl {K : PySem.W.Frag} {C : Addr} {vs : List V} {H : Hp} {ps : List Addr} {a : Addr} {fs : Fs} {ds : List PyData} {N : List Str} (h : MIn K C vs H ps a fs ds) : Rl K H (L2.start N vs) (startM N a ds) ⟨ps, [(a, .ins C (imF fs))]⟩ := by
  obtain ⟨dx, fvs, vs', rfl, h1, h2, h3, h4⟩ := h.ex
  have hl := dpa_len h4
  refine ⟨?_, fun i r hi => ?_, fun z o hz => ?_, by show [a].Nodup; simp, h1⟩
  · unfold L2.start startM
    simp [hl]
  · rw [hid_self (C := C)]
    unfold startM at hi
    cases i with
    | zero =>
      cases hi
      exact ⟨.ref a, rfl, rfl⟩
    | succ i =>
      rw [List.getElem?_cons_succ] at hi
      by_cases hlt : i < ds.length
      · rw [List.getElem?_append_left (by rw [List.length_map]; exact hlt), List.getElem?_map, List.getElem?_eq_getElem hlt] at hi
        cases hi
        obtain ⟨v, g1, g2⟩ := dpa_get h4 (List.getElem?_eq_getElem hlt)
        refine ⟨v, ?_, g2⟩
        unfold L2.start
        rw [List.map_cons, List.cons_append, List.getElem?_cons_succ, List.getElem?_append_left (by rw [List.length_map, hl]; exact hlt), List.getElem?_map, g1]
        rfl
      · rw [List.getElem?_append_right (by rw [List.length_map]; omega)] at hi
        obtain ⟨q1, q2⟩ := List.getElem?_eq_some_iff.mp hi
        rw [List.getElem_replicate] at q2
        cases q2
  · rcases List.mem_cons.mp hz with q | q
    · cases q
      rw [hid_self (C := C)]
      exact ⟨dx, fvs, h2, of_fv h3⟩
    · cases q
section
variable {P : Program} {w : World} {K : PySem.W.Frag} {mg : Str → Option Value} {base : Heap} {x qual : Str} {params : Arguments} {body : List Stmt} {scope : Scope} {kws : List (Str × V)} {f C : Addr} {fd : FuncData} {N ps : List Str} {k : Nat}
theorem rd_ok {fr : Fs → List PyData → PyData → Prop} {e : Expr} {pos : Pos} (F : FunD K x qual params body scope [] kws f fd) (hm : Meth K C x f) (S : FnScope N ps scope) (hb : ∀ (kV doc pm : Value) (an : Option Addr) (cdv ct : Value) (us : List Value), us.length = ps.length → bindArgs (PySem.W.fnOf x qual params body scope .none kV doc pm an cdv ct) ⟨us, []⟩ = pure (ps.zip us))
    (len : ∀ fs ds d, fr fs ds d → ds.length + 1 = ps.length) (hbd : body = [.Return (some e) pos])
    (hbody : ∀ (cdv : Value) (A : Around) (outer : List Env) (s : Shared) (H : Hp) (E : XK) (qs : List Addr) (a : Addr) (fs : Fs) (ds : List PyData) (d : PyData), Room k (A.deeper (envOfC qual scope s.heap.objs.size f cdv)) → fr fs ds d →
      PD (cxOf (L2N.CX P w) P w K mg base N qual scope f cdv A outer s H E) (startM N a ds) ⟨qs, [(a, .ins C (imF fs))]⟩ e d) : RdOk P w K mg base (k + 1) C x fr := by
  refine ⟨f, fd, ps, F.ok S (fun vs H Q E h => ?_) (fun cdv A outer s H vs Q E hr h => ?_), hm, F.bindsN hb⟩
  · obtain ⟨qs, a, fs, ds, d, h1, h2, _⟩ := h
    obtain ⟨dx, fvs, vs', rfl, _, _, _, h4⟩ := h1.ex
    rw [List.length_cons, dpa_len h4]
    exact len fs ds d h2
  · obtain ⟨qs, a, fs, ds, d, h1, h2, h3⟩ := h
    subst hbd
    refine ⟨_, pss_one (ps_ret pe_w), hbody cdv A outer s H E qs a fs ds d hr h2 _ _ (startM_rl h1) _ fun v H' s' dv => ?_⟩
    rw [hid_self (C := C)] at dv
    exact h3 v H' s' dv
/-- how such a def may end: self's fields -/
def FinW (C a : Addr) (r : Rs) (fs' : Fs) : Out → Prop
  | .nx _ ω => r = .ok .none ∧ (a, Od.ins C (imF fs')) ∈ ω.os
  | .rt (.im d) ω => r = .ok d ∧ (a, Od.ins C (imF fs')) ∈ ω.os
  | .ex Z ω => r = .er Z ∧ (a, Od.ins C (imF fs')) ∈ ω.os
  | _ => False
theorem wr_ok {fr : Fs → List PyData → Rs → Fs → Prop} (F : FunD K x qual params body scope [] kws f fd) (hm : Meth K C x f) (S : FnScope N ps scope) (hb : ∀ (kV doc pm : Value) (an : Option Addr) (cdv ct : Value) (us : List Value), us.length = ps.length → bindArgs (PySem.W.fnOf x qual params body scope .none kV doc pm an cdv ct) ⟨us, []⟩ = pure (ps.zip us))
    (len : ∀ fs ds r fs', fr fs ds r fs' → ds.length + 1 = ps.length)
    (hbody : ∀ (cdv : Value) (A : Around) (outer : List Env) (s : Shared) (H : Hp) (E : XK) (qs : List Addr) (a : Addr) (fs : Fs) (ds : List PyData) (r : Rs) (fs' : Fs), Room k (A.deeper (envOfC qual scope s.heap.objs.size f cdv)) → fr fs ds r fs' →
      SD (cxOf (L2N.CX P w) P w K mg base N qual scope f cdv A outer s H E) (WOf E) [] body (startM N a ds) ⟨qs, [(a, .ins C (imF fs))]⟩ (FinW C a r fs')) : WrOk P w K mg base (k + 1) C x fr := by
  refine ⟨f, fd, ps, F.ok S (fun vs H Q E h => ?_) (fun cdv A outer s H vs Q E hr h => ?_), hm, F.bindsN hb⟩
  · obtain ⟨qs, a, fs, ds, r, fs', h1, h2, _⟩ := h
    obtain ⟨dx, fvs, vs', rfl, _, _, _, h4⟩ := h1.ex
    rw [List.length_cons, dpa_len h4]
    exact len fs ds r fs' h2
  · obtain ⟨qs, a, fs, ds, r, fs', h1, h2, h3⟩ := h
    refine ⟨_, pss_w, hbody cdv A outer s H E qs a fs ds r fs' hr h2 _ _ _ (startM_rl h1) (fun _ z => nomatch z) ?_⟩
    have kept : ∀ {ω' : Om} {H' : Hp}, Stp [] ⟨qs, [(a, .ins C (imF fs))]⟩ ω' H H' → ∀ b o, b ≠ a → H b = some o → H' b = some o := fun {ω' H'} st b o nb e => st.keep b o e (fun z => nb (List.mem_singleton.mp z)) (.inl rfl)
    have more : ∀ {ω' : Om} {H' : Hp}, Stp [] ⟨qs, [(a, .ins C (imF fs))]⟩ ω' H H' → (a, Od.ins C (imF fs')) ∈ ω'.os → Same (hid (ads ω') H') (hid (a :: qs) H') := fun {ω' H'} st hm => hid_more fun b hb => by
      rcases List.mem_cons.mp hb with q | q
      · subst q
        exact List.mem_append_right _ (List.mem_map.mpr ⟨_, hm, rfl⟩)
      · exact List.mem_append_left _ (by rw [st.ps]; exact q)
    refine ⟨fun δ' ω' σ' H' z st l => ?_, fun r' ω' v H' z st l dv => ?_, fun Z ω' σ' H' z st l => ?_, fun _ _ _ _ z => False.elim z, fun _ _ _ _ z => False.elim z⟩
    · obtain ⟨rfl, hm⟩ := z
      obtain ⟨dx, vs1, g1, g2⟩ := l.ro.ob a _ hm
      exact h3 H' dx vs1 (kept st) g1 (fv_mono (more st hm) (fv_of g2)) .non .non
    · cases r' with
      | im d =>
        obtain ⟨rfl, hm⟩ := z
        obtain ⟨dx, vs1, g1, g2⟩ := l.ob a _ hm
        exact h3 H' dx vs1 (kept st) g1 (fv_mono (more st hm) (fv_of g2)) v (dpm (more st hm) dv)
      | ad a => exact False.elim z
    · obtain ⟨rfl, hm⟩ := z
      obtain ⟨dx, vs1, g1, g2⟩ := l.ob a _ hm
      exact h3 H' dx vs1 (kept st) g1 (fv_mono (more st hm) (fv_of g2))
end
end FP

namespace FP
open PySem PySem.Spec PyProof.Rows L2
/-- an object of one's own was written by another's hand -/
theorem own_step2 {T : List (Addr × Str)} {K : PySem.W.Frag} {H H' : Hp} {σ : L2.St} {δ : De} {ω : Om} {D : Addr} {o o' : Od} {u0 : HO} (rl : Rl K H σ δ (omD ω D o)) (e0 : H D = some u0) (nt : ∀ ps, u0 ≠ .tbl ps) (nc : ∀ c q, u0 ≠ LamX.CodeO c q) (kept : ∀ b x, b ≠ D → H b = some x → H' b = some x)
    (new : OdV K (hid (ads (omD ω D o')) H') H' D o') : Stp T (omD ω D o) (omD ω D o') H H' ∧ Rl K H' σ δ (omD ω D o') := by
  have hh : Same (hid (ads (omD ω D o)) H) (hid (ads (omD ω D o')) H') := fun b x h => by
    obtain ⟨n, e⟩ := hid_out h
    have nb : b ≠ D := fun z => n (ads_omD.mpr (.inl z))
    refine hid_of (fun z => n ?_) (kept b x nb e)
    rcases ads_omD.mp z with q | q
    · exact ads_omD.mpr (.inl q)
    · exact ads_omD.mpr (.inr q)
  refine ⟨⟨fun b x h n _ => ?_, fun a h => .inl h, rfl, fun t => ?_⟩, ⟨rl.len, fun j r h => ?_, fun z x h => ?_, rl.ro.nd, fun z h hz => ?_⟩⟩
  · exact kept b x (fun z => n (by rw [z]; exact List.mem_cons_self)) h
  · intro q hq
    obtain ⟨ps, a1, a2, a3⟩ := t q hq
    refine ⟨ps, kept _ _ (fun z => nt ps (by rw [z, e0] at a1; exact Option.some.inj a1)) a1, a2, fun p' cv hc => ?_⟩
    obtain ⟨c0, b1, b2⟩ := a3 p' cv hc
    exact ⟨c0, b1, kept _ _ (fun z => nc _ _ (by rw [z, e0] at b2; exact Option.some.inj b2)) b2⟩
  · obtain ⟨v, h1, h2⟩ := rl.sl j r h
    exact ⟨v, h1, sdv_mono hh h2⟩
  · rcases List.mem_cons.mp h with q | q
    · cases q
      exact new
    · have nd2 : (D :: ω.os.map (·.1)).Nodup := rl.ro.nd
      have na : z ≠ D := fun zz => (List.nodup_cons.mp nd2).1 (List.mem_map.mpr ⟨(z, x), q, zz⟩)
      have g := rl.ro.ob z x (List.mem_cons_of_mem _ q)
      exact odv_keep (fun w => sdv_mono hh w) (fun u _ g1 => kept _ _ na g1) g
  · have hn := rl.ro.th z h
    by_cases za : z = D
    · have g := odv_some new
      rw [za] at hz
      exact g hz
    · cases e : H z with
      | none => exact hn e
      | some u =>
        rw [kept z u za e] at hz
        cases hz
section
variable {X : Cx} {W : WX} {T : List (Addr × Str)} {δ : De} {ω : Om} {e : Expr} {es : List Expr} {d : PyData} {ds : List PyData} {pos p p1 apos : Pos} {R : Out → Prop} {ss : List Stmt} {a C : Addr} {fs fs' : Fs} {f x m : Str} {k : Nat}
theorem min_of {H : Hp} {σ : L2.St} {vs : List V} (rl : Rl X.K H σ δ ω) (hm : (a, Od.ins C (imF fs)) ∈ ω.os) (hv : DpAll X.K (hid (ads ω) H) vs ds) : MIn X.K C (.ref a :: vs) H (ads ω) a fs ds := by
  obtain ⟨dx, us, g1, g2⟩ := rl_ins rl hm
  have ha : a ∈ ads ω := List.mem_append_right _ (List.mem_map.mpr ⟨_, hm, rfl⟩)
  refine ⟨dx, us, vs, rfl, rl.ro.there, g1, ?_, ?_⟩
  · rw [hid_cons_in ha]
    exact g2
  · rw [hid_cons_in ha]
    exact hv
/-- what x.m(..) is to be evaluated as -/
abbrev MthAs (X : Cx) (o : Expr) (m : Str) (apos pos : Pos) (es : List Expr) (pl : Sem Bool) : Prop :=
  eval (.Call (.Attribute o m apos) es [] pos) X.env = eval o X.env >>= fun ov => standAt apos.atName >>= fun _ => holding [ov] (getMethod ov m pl) >>= fun p =>
    callWith pos p.1 p.2 (backTo pos (starEach es X.env)) (backToKw pos (keywordEach [] X.env))
/-- x.m(), which only reads -/
theorem pd_meth0 (i : Nat) {fr : Fs → List PyData → PyData → Prop} {pl : Sem Bool} (G : RdOk X.prog X.w X.K X.mg X.base k C m fr) (hr : Room k X.A) (Cl : Cls X.K C) (hm : (a, Od.ins C (imF fs)) ∈ ω.os) (hf : fr fs [] d) (hl : fs.lookup m = none) (hd : δ[i]? = some (some (.ad a)) := by rfl) (hN : X.N[i]? = some x := by rfl)
    (hv : Vis X.env.scope x := by first | exact Or.inl rfl | exact Or.inr (Or.inl rfl) | exact Or.inr (Or.inr rfl)) (h1 : (x == ("__debug__" : Str)) = false := by decide) (h2 : (x == ("__classdict__" : Str)) = false := by decide)
    (ht : MthAs X (.Name x p1) m apos pos [] pl := by rfl) : PD X δ ω (.Call (.Attribute (.Name x p1) m apos) [] [] pos) d := fun σ H rl Q q => by
  obtain ⟨g, fd, ps, F, M, b⟩ := G.ex
  obtain ⟨v, e1, e2⟩ := rl.sl i _ hd
  have e2 : v = .ref a := e2
  subst e2
  obtain ⟨dx, us, g1, g2⟩ := rl_ins rl hm
  have ha : a ∈ ads ω := List.mem_append_right _ (List.mem_map.mpr ⟨_, hm, rfl⟩)
  refine we (pe_meth0 (pl := pl) (pe_var hN hv h1 h2) Cl M F hr b .nil passN ht) ⟨_, e1, a, dx, us, rfl, g1, fv_none g2 hl, ?_⟩
  refine ⟨ads ω, a, fs, [], d, min_of rl hm .nil, hf, fun v H' s' dv => q v H' s' ?_⟩
  rw [hid_cons_in ha] at dv
  exact dv
/-- x.m(..) as a statement: x is written, or something is raised -/
theorem sd_meth (i : Nat) {r : Rs} {fr : Fs → List PyData → Rs → Fs → Prop} {pl : Sem Bool} {spos : Pos} (G : WrOk X.prog X.w X.K X.mg X.base k C m fr) (hr : Room k X.A) (tk : L2N.Takes X W) (Cl : Cls X.K C) (ha : PDs X δ (omD ω a (.ins C (imF fs))) (e :: es) ds) (hf : fr fs ds r fs') (hl : fs.lookup m = none)
    (h3 : ∀ d, r = .ok d → SD X W T ss δ (omD ω a (.ins C (imF fs'))) R) (h4 : ∀ Z, r = .er Z → R (.ex Z (omD ω a (.ins C (imF fs'))))) (hd : δ[i]? = some (some (.ad a)) := by rfl) (hN : X.N[i]? = some x := by rfl)
    (hv : Vis X.env.scope x := by first | exact Or.inl rfl | exact Or.inr (Or.inl rfl) | exact Or.inr (Or.inr rfl)) (h1 : (x == ("__debug__" : Str)) = false := by decide) (h2 : (x == ("__classdict__" : Str)) = false := by decide)
    (hst : starEach (e :: es) X.env = (false, eval e X.env) :: starEach es X.env := by rfl) (hpl : (backTo pos (starEach es X.env)).any (·.1) = false := by rfl)
    (ht : MthAs X (.Name x p1) m apos pos (e :: es) pl := by rfl)
    (hs : swapsWith (.Call (.Attribute (.Name x p1) m apos) (e :: es) [] pos) none spos.line X.env = pure false := by rfl) : SD X W T (.Expr (.Call (.Attribute (.Name x p1) m apos) (e :: es) [] pos) spos :: ss) δ (omD ω a (.ins C (imF fs))) R :=
  sd_cons fun σ H D rl t kt => by
    obtain ⟨g, fd, ps, F, M, b⟩ := G.ex
    obtain ⟨v, e1, e2⟩ := rl.sl i _ hd
    have e2 : v = .ref a := e2
    subst e2
    obtain ⟨dx, us, g1, g2⟩ := rl_ins rl List.mem_cons_self
    refine ws (ps_expr (pe_meth (pl := pl) (E := fun cls d H' => ∀ σ, W cls d σ H') (pe_var hN hv h1 h2) Cl M F hr b .nil (L2N.passes_call tk fun cls d σ H h => h σ) pa_w hst hpl ht) hs) ⟨_, e1, a, dx, us, rfl, g1, fv_none g2 hl, ha σ H rl _ fun vs H1 s1 d1 => ?_⟩
    rw [List.append_nil]
    have rl1 := rl.mono s1
    have am : a ∈ ads (omD ω a (.ins C (imF fs))) := ads_omD.mpr (.inl rfl)
    obtain ⟨dx1, us1, k1, k2⟩ := rl_ins rl1 List.mem_cons_self
    refine ⟨ads (omD ω a (.ins C (imF fs))), a, fs, ds, r, fs', min_of rl1 List.mem_cons_self d1, hf, fun H' dx2 us2 kept l1 l2 => ?_⟩
    rw [hid_cons_in am] at l2
    have hs2 : hid (ads (omD ω a (.ins C (imF fs)))) H' = hid (ads (omD ω a (.ins C (imF fs')))) H' := rfl
    obtain ⟨st, l3⟩ := own_step2 (T := T) (o' := .ins C (imF fs')) rl1 k1 (fun _ z => by cases z) (fun _ _ z => by unfold LamX.CodeO at z; cases z) kept ⟨dx2, us2, l1, of_fv l2⟩
    cases r with
    | ok d => exact fun v _ => kt.nx δ _ σ H' (h3 d rfl) ((Stp.of s1).trans st) l3
    | er Z => exact fun σ2 => kt.ex Z _ σ2 H' (h4 Z rfl) ((Stp.of s1).trans st) l3.ro
/-- x.m() as a statement -/
theorem sd_methN (i : Nat) {r : Rs} {fr : Fs → List PyData → Rs → Fs → Prop} {pl : Sem Bool} {spos : Pos} (G : WrOk X.prog X.w X.K X.mg X.base k C m fr) (hr : Room k X.A) (tk : L2N.Takes X W) (Cl : Cls X.K C) (hf : fr fs [] r fs') (hl : fs.lookup m = none)
    (h3 : ∀ d, r = .ok d → SD X W T ss δ (omD ω a (.ins C (imF fs'))) R) (h4 : ∀ Z, r = .er Z → R (.ex Z (omD ω a (.ins C (imF fs'))))) (hd : δ[i]? = some (some (.ad a)) := by rfl) (hN : X.N[i]? = some x := by rfl)
    (hv : Vis X.env.scope x := by first | exact Or.inl rfl | exact Or.inr (Or.inl rfl) | exact Or.inr (Or.inr rfl)) (h1 : (x == ("__debug__" : Str)) = false := by decide) (h2 : (x == ("__classdict__" : Str)) = false := by decide)
    (ht : MthAs X (.Name x p1) m apos pos [] pl := by rfl)
    (hs : swapsWith (.Call (.Attribute (.Name x p1) m apos) [] [] pos) none spos.line X.env = pure false := by rfl) : SD X W T (.Expr (.Call (.Attribute (.Name x p1) m apos) [] [] pos) spos :: ss) δ (omD ω a (.ins C (imF fs))) R :=
  sd_cons fun σ H D rl t kt => by
    obtain ⟨g, fd, ps, F, M, b⟩ := G.ex
    obtain ⟨v, e1, e2⟩ := rl.sl i _ hd
    have e2 : v = .ref a := e2
    subst e2
    obtain ⟨dx, us, g1, g2⟩ := rl_ins rl List.mem_cons_self
    have am : a ∈ ads (omD ω a (.ins C (imF fs))) := ads_omD.mpr (.inl rfl)
    refine ws (ps_expr (pe_meth0 (pl := pl) (E := fun cls d H' => ∀ σ, W cls d σ H') (pe_var hN hv h1 h2) Cl M F hr b .nil (L2N.passes_call tk fun cls d σ H h => h σ) ht) hs) ⟨_, e1, a, dx, us, rfl, g1, fv_none g2 hl, ?_⟩
    refine ⟨ads (omD ω a (.ins C (imF fs))), a, fs, [], r, fs', min_of rl List.mem_cons_self .nil, hf, fun H' dx2 us2 kept l1 l2 => ?_⟩
    rw [hid_cons_in am] at l2
    obtain ⟨st, l3⟩ := own_step2 (T := T) (o' := .ins C (imF fs')) rl g1 (fun _ z => by cases z) (fun _ _ z => by unfold LamX.CodeO at z; cases z) kept ⟨dx2, us2, l1, of_fv l2⟩
    cases r with
    | ok d => exact fun v _ => kt.nx δ _ σ H' (h3 d rfl) st l3
    | er Z => exact fun σ2 => kt.ex Z _ σ2 H' (h4 Z rfl) st l3.ro
/-- y = C(..): a new object -/
theorem sd_make (i : Nat) {y cn : Str} {g : Addr} {fd : FuncData} {ps : List Str} {fr : Fs → List PyData → Rs → Fs → Prop} {py spos : Pos} (M : Mk X.K C g) (F : FnOk X.prog X.w X.K X.mg X.base (L2N.CX X.prog X.w) k g fd ps (spW X.K C fr)) (hb : L2.Binds X.K fd ps []) (hr : Room (k + 1) X.A) (hmC : X.mg cn = some (.ref C))
    (ha : PDs X δ ω (e :: es) ds) (hf : fr [] ds (.ok .none) fs') (hk : ∀ D, SD X W T ss (δ.set i (some (.ad D))) (omD ω D (.ins C (imF fs'))) R) (hN : X.N.Nodup) (hi : X.N[i]? = some y := by rfl) (hx : Loc X.env.scope y := by first | exact Or.inl rfl | exact Or.inr rfl)
    (hg : Gl X cn := by rfl) (hdb : (cn == ("__debug__" : Str)) = false := by decide) (he : starEach (e :: es) X.env = (false, eval e X.env) :: starEach es X.env := by rfl) (hpl : (backTo pos (starEach es X.env)).any (·.1) = false := by rfl)
    (hs : swapsWith (.Call (.Name cn p) (e :: es) [] pos) (some (.Name y py)) spos.line X.env = pure false := by rfl) (hfn : X.fn y = true ∨ X.env.scope.names.lookup y = some .local := by first | exact .inl rfl | exact .inr rfl | assumption) :
    SD X W T (.Assign [.Name y py] (.Call (.Name cn p) (e :: es) [] pos) spos :: ss) δ ω R :=
  sd_cons fun σ H D rl t kt => by
    refine ws (ps_set hN hi hx (pe_make M F hr hg hmC hb .nil passN pa_w hdb he hpl) hs hfn) (ha σ H rl _ fun vs H1 s1 d1 z dx nz ndx ne => ?_)
    rw [List.append_nil]
    have rl1 := rl.mono s1
    have sm : Same H1 (upd (upd H1 dx (.own z)) z (.ins C dx [])) := fun b o h => by
      rw [upd_ne (ne_of_none h nz), upd_ne (ne_of_none h ndx)]
      exact h
    have nin : z ∉ ads ω := new_out rl1.ro.there nz
    refine ⟨ads ω, z, [], ds, .ok .none, fs', ⟨dx, [], vs, rfl, there_mono rl1.ro.there sm, upd_same, .nil, ?_⟩, hf, fun H' dx2 us2 kept l1 l2 v dv => ?_⟩
    · exact dpam (hid_new nz sm) d1
    · cases dv
      refine ⟨rfl, ?_⟩
      have kept1 : Same H1 H' := fun b o h => kept b o (ne_of_none h nz) (sm b o h)
      have l4 : Rl X.K H' σ δ (omD ω z (.ins C (imF fs'))) := by
        refine ⟨rl1.len, fun j r h => ?_, fun b o h => ?_, ?_, there_mono rl1.ro.th kept1⟩
        · obtain ⟨v, q1, q2⟩ := rl1.sl j r h
          exact ⟨v, q1, sdv_mono (hid_in nz kept1) q2⟩
        · rcases List.mem_cons.mp h with q | q
          · cases q
            exact ⟨dx2, us2, l1, of_fv (fv_mono (hid_more fun b hb => List.mem_cons.mpr (ads_omD.mp hb)) l2)⟩
          · exact odv_mono (hid_in nz kept1) kept1 (rl1.ro.ob b o q)
        · show (z :: ω.os.map (·.1)).Nodup
          exact List.nodup_cons.mpr ⟨fun q => nin (List.mem_append_right _ q), rl1.ro.nd⟩
      refine kt.nx _ _ _ H' (hk z) ((Stp.of s1).trans ⟨fun b o h _ _ => kept1 b o h, fun b h => ?_, rfl, fun t => t.ext kept1⟩) (l4.set (x := .ad z) (v := .ref z) rfl)
      rcases List.mem_cons.mp (show b ∈ z :: ω.os.map (·.1) from h) with q | q
      · exact .inr fun o ho => by
          rw [q, nz] at ho
          cases ho
      · exact .inl q
end
end FP

namespace FP
open PySem PySem.Spec PyProof.Rows L2
/-! ### what the module's top left, as data -/
mutual
def kdIs (K : PySem.W.Frag) : PyData → Value → Bool
  | .none, .none => true
  | .bool b, .bool c => decide (b = c)
  | .int i, .int j _ => decide (i = j)
  | .str x, .str y _ => decide (x = y)
  | .tuple ds, .ref a => match K.lookup a with
    | some ⟨.type c, _, .seq its _, _⟩ => decide (c = "tuple") && (decide (its.size ≤ sizeLine) && kdAll K ds its.toList)
    | _ => false
  | _, _ => false
def kdAll (K : PySem.W.Frag) : List PyData → List Value → Bool
  | [], [] => true
  | d :: ds, u :: us => kdIs K d u && kdAll K ds us
  | _, _ => false
end
mutual
theorem kdIs_ok {K : PySem.W.Frag} : ∀ {d : PyData} {u : Value}, kdIs K d u = true → ∃ v, RelV v u ∧ ∀ H, Dp K H v d
  | .none, .none, _ => ⟨.non, rfl, fun _ => .non⟩
  | .bool b, .bool c, h => by
    have e := of_decide_eq_true (show decide (b = c) = true from by unfold kdIs at h; exact h)
    subst e
    exact ⟨.bl b, rfl, fun _ => .bl b⟩
  | .int i, .int j t, h => by
    have e := of_decide_eq_true (show decide (i = j) = true from by unfold kdIs at h; exact h)
    subst e
    exact ⟨.int i, ⟨t, rfl⟩, fun _ => .int i⟩
  | .str x, .str y t, h => by
    have e := of_decide_eq_true (show decide (x = y) = true from by unfold kdIs at h; exact h)
    subst e
    exact ⟨.str x, ⟨t, rfl⟩, fun _ => .str x⟩
  | .tuple ds, .ref a, h => by
    unfold kdIs at h
    cases q : K.lookup a with
    | none =>
      rw [q] at h
      cases h
    | some o =>
      obtain ⟨oc, od, dt, osl⟩ := o
      rw [q] at h
      cases oc with
      | type c =>
        cases dt with
        | seq its n =>
          obtain ⟨h1, h2⟩ := He.ba (show (decide (c = "tuple") && (decide (its.size ≤ sizeLine) && kdAll K ds its.toList)) = true from h)
          obtain ⟨h3, h4⟩ := He.ba h2
          obtain ⟨vs, g1, g2⟩ := kdAll_ok h4
          exact ⟨.ref a, rfl, fun H => .tup (.inr ⟨_, its, n, q, congrArg Value.type (of_decide_eq_true h1), rfl, of_decide_eq_true h3, g1⟩) (g2 H)⟩
        | _ => cases h
      | _ => cases dt <;> cases h
theorem kdAll_ok {K : PySem.W.Frag} : ∀ {ds : List PyData} {us : List Value}, kdAll K ds us = true → ∃ vs, Vals vs us ∧ ∀ H, DpAll K H vs ds
  | [], [], _ => ⟨[], .nil, fun _ => .nil⟩
  | d :: ds, u :: us, h => by
    unfold kdAll at h
    obtain ⟨h1, h2⟩ := He.ba h
    obtain ⟨v, a1, a2⟩ := kdIs_ok h1
    obtain ⟨vs, b1, b2⟩ := kdAll_ok h2
    exact ⟨v :: vs, .cons a1 b1, fun H => .cons (a2 H) (b2 H)⟩
  | [], _ :: _, h => by
    unfold kdAll at h
    cases h
  | _ :: _, [], h => by
    unfold kdAll at h
    cases h
end
/-- the module's name x is this -/
def gldB (K : PySem.W.Frag) (x : Str) (d : PyData) : Bool := match PySem.W.nsIn K mainGlobals x with
  | some (some u) => kdIs K d u
  | _ => false
theorem gldB_ok {K : PySem.W.Frag} {mg : Str → Option Value} {h : Heap} (KX : K.In h) (G : h.Ns mainGlobals mg) {x : Str} {d : PyData} (c : gldB K x d = true) : GlD K mg x d := by
  unfold gldB at c
  cases e : PySem.W.nsIn K mainGlobals x with
  | none =>
    rw [e] at c
    cases c
  | some o =>
    rw [e] at c
    cases o with
    | none => cases c
    | some u =>
      obtain ⟨v, h1, h2⟩ := kdIs_ok c
      exact ⟨v, u, PySem.W.mg_of KX G e, h1, h2⟩
/-- the dict at a has this at z -/
def kvB (K : PySem.W.Frag) (a : Addr) (z : Str) (d : PyData) : Bool := match PySem.W.nsIn K a z with
  | some (some u) => kdIs K d u
  | _ => false
theorem kvB_ok {K : PySem.W.Frag} {a : Addr} {z : Str} {d : PyData} (c : kvB K a z d = true) : ∃ u v, PySem.W.nsIn K a z = some (some u) ∧ RelV v u ∧ ∀ H, Dp K H v d := by
  unfold kvB at c
  cases e : PySem.W.nsIn K a z with
  | none =>
    rw [e] at c
    cases c
  | some o =>
    rw [e] at c
    cases o with
    | none => cases c
    | some u =>
      obtain ⟨v, h1, h2⟩ := kdIs_ok c
      exact ⟨u, v, rfl, h1, h2⟩
def noB (K : PySem.W.Frag) (a : Addr) (z : Str) : Bool := decide (PySem.W.nsIn K a z = some none)
end FP

namespace FP
open PySem PySem.Spec PyProof.Rows L2
/-- a dict of the module -/
structure KTab (w : World) (K : PySem.W.Frag) (mg : Str → Option Value) (n : Str) (A : Addr) : Prop where
  ex : ∃ es c, KDict K w A es c
  mg : mg n = some (.ref A)
section
variable {X : Cx} {W : WX} {T : List (Addr × Str)} {δ : De} {ω : Om} {a b e : Expr} {es : List Expr} {d da db : PyData} {ds : List PyData} {pos p p2 : Pos} {k : Bool} {R : Out → Prop} {ss : List Stmt} {n : Str} {A : Addr} {z : Str}
theorem pd_inKD {r : Option Value} (G : KTab X.w X.K X.mg n A) (ha : PD X δ ω a (.str z)) (hz : PySem.W.nsIn X.K A z = some r) (hk : r.isSome = k) (hg : Gl X n := by rfl) (hd : (n == ("__debug__" : Str)) = false := by decide) (hm : behindInMarks .In (.Name n p2) = false := by rfl) : PD X δ ω (.Compare a [.In] [.Name n p2] pos) (.bool k) := fun σ H rl Q q => by
  obtain ⟨es, c, D⟩ := G.ex
  refine we (pe_cmpR (op_in_kd D) pe_w (pe_glob (v := .ref A) hg G.mg rfl hd) hm) (ha σ H rl _ fun v H1 s1 d1 => ?_)
  cases d1
  refine ⟨z, r, rfl, rfl, hz, ?_⟩
  rw [hk]
  exact q _ H1 s1 (.bl _)
theorem pd_ixKD {u : Value} {v : V} (G : KTab X.w X.K X.mg n A) (hb : PD X δ ω b (.str z)) (hz : PySem.W.nsIn X.K A z = some (some u)) (hv : RelV v u) (hd : ∀ H, Dp X.K H v d) (hg : Gl X n := by rfl) (hdb : (n == ("__debug__" : Str)) = false := by decide) (hs : PlainIx b := by exact fun _ _ => rfl) : PD X δ ω (.Subscript (.Name n p2) b pos) d := fun σ H rl Q q => by
  obtain ⟨es, c, D⟩ := G.ex
  refine we (pe_ix ix_kdict (pe_glob (v := .ref A) hg G.mg rfl hdb) pe_w hs) (hb σ H rl _ fun y H1 s1 d1 => ?_)
  cases d1
  exact ⟨A, z, v, rfl, rfl, ⟨es, c, u, D.at_, D.lit, hz, hv⟩, q v H1 s1 (hd _)⟩
theorem inV_str : ∀ {ys : List Str}, inV (.str z) (ys.map V.str) = ys.any (· == z)
  | [] => rfl
  | y :: ys => by
    show (eqV (.str y) (.str z) || inV (.str z) (ys.map V.str)) = ((y == z) || ys.any (· == z))
    rw [inV_str (ys := ys)]
    rfl
theorem rd_inT {K : PySem.W.Frag} {ys : List Str} : RD K (rIn K false) (.str z) (.tuple (ys.map .str)) (.bool (ys.any (· == z))) := fun ps x y H _ hx hy Q q => by
  cases hx
  cases hy with
  | tup h1 h2 =>
    have ev := dpa_strs h2
    subst ev
    refine ⟨_, _, rfl, .inr (same_sqt hid_sub h1), rfl, ?_, ?_⟩
    · rw [List.all_map]
      exact List.all_eq_true.mpr fun _ _ => rfl
    · have e : (if false = true then !inV (V.str z) (ys.map V.str) else inV (V.str z) (ys.map V.str)) = ys.any (· == z) := inV_str
      rw [e]
      exact q _ H (Same.refl H) (.bl _)
theorem pd_inT {ys : List Str} (ha : PD X δ ω a (.str z)) (hb : PD X δ ω b (.tuple (ys.map .str))) (hm : behindInMarks .In b = false := by rfl) : PD X δ ω (.Compare a [.In] [b] pos) (.bool (ys.any (· == z))) := pd_cmp op_in_seq rd_inT ha hb hm
/-- x, y = a, b: two locals -/
theorem sd_par (i j : Nat) {x y : Str} {px py pt pt2 : Pos} {kt k2 : Nat} (hc : X.calm = true) (hN : X.N.Nodup) (ha : PDs X δ ω [a, b] [da, db]) (hk : SD X W T ss ((δ.set i (some (.im da))).set j (some (.im db))) ω R)
    (hw : swappedStores [.Tuple [.Name x px, .Name y py] kt pt] (.Tuple [a, b] k2 pt2) X.env = pure (some [x, y])) (hij : i ≠ j := by decide) (hi : X.N[i]? = some x := by rfl) (hj : X.N[j]? = some y := by rfl) (hx : X.env.scope.names.lookup x = some .local := by rfl) (hy : X.env.scope.names.lookup y = some .local := by rfl)
    (hs : swapsWithSole [.Tuple [.Name x px, .Name y py] kt pt] (.Tuple [a, b] k2 pt2) pos.line X.env = pure false := by rfl) : SD X W T (.Assign [.Tuple [.Name x px, .Name y py] kt pt] (.Tuple [a, b] k2 pt2) pos :: ss) δ ω R :=
  sd_cons fun σ H D rl t k => ws (ps_par hc hN hi hj hij hx hy pa_w hw hs) (ha σ H rl _ fun vs H1 s1 d1 => by
    cases d1 with
    | cons b1 b2 =>
      cases b2 with
      | cons b3 b4 =>
        cases b4
        exact ⟨_, _, rfl, k.nx _ ω _ H1 hk (.of s1) (((rl.mono s1).set (x := .im da) b1).set (x := .im db) b3)⟩)
end
/-! ### [e for a, (b, c) in zip(xs, ys)] -/
theorem wipe_put {σ : L2.St} {v : Nat} {x : Option V} : ∀ r : List Nat, (wipe (σ.set v x) r).set v none = (wipe σ r).set v none
  | [] => by
    show (σ.set v x).set v none = σ.set v none
    rw [List.set_set]
  | u :: r => by
    show ((wipe (σ.set v x) r).set u none).set v none = ((wipe σ r).set u none).set v none
    by_cases e : u = v
    · subst e
      rw [List.set_set, List.set_set, wipe_put r]
    · rw [List.set_comm _ _ e, wipe_put r, List.set_comm _ _ (Ne.symm e)]
theorem wipe_mem {σ : L2.St} {v : Nat} {x : Option V} : ∀ {r : List Nat}, v ∈ r → wipe (σ.set v x) r = wipe σ r
  | u :: r, h => by
    show (wipe (σ.set v x) r).set u none = (wipe σ r).set u none
    by_cases e : u = v
    · subst e
      exact wipe_put r
    · rw [wipe_mem ((List.mem_cons.mp h).resolve_left (fun z => e z.symm))]
theorem wipe_wipe {σ : L2.St} {vs : List Nat} : ∀ {r : List Nat}, (∀ v ∈ r, v ∈ vs) → wipe (wipe σ r) vs = wipe σ vs
  | [], _ => rfl
  | u :: r, h => by
    show wipe ((wipe σ r).set u none) vs = wipe σ vs
    rw [wipe_mem (h u List.mem_cons_self), wipe_wipe fun v hv => h v (List.mem_cons_of_mem _ hv)]
def wipeD (δ : De) : List Nat → De
  | [] => δ
  | v :: vs => (wipeD δ vs).set v none
theorem rl_wipe {K : PySem.W.Frag} {H : Hp} {σ : L2.St} {δ : De} {ω : Om} (rl : Rl K H σ δ ω) : ∀ vs : List Nat, Rl K H (wipe σ vs) (wipeD δ vs) ω
  | [] => rl
  | v :: vs => (rl_wipe rl vs).forget
abbrev gZ (K : PySem.W.Frag) (j1 j2 j3 : Nat) : TG := gTup K 2 (gCons (gName j1) (gCons (gTup K 2 (gCons (gName j2) (gCons (gName j3) gNil))) gNil))
section
variable {X : Cx} {δ : De} {ω : Om} {a b elt : Expr} {pos p : Pos} {xs ys zs : List PyData}
theorem pn_lcz {scope : Scope} {n1 n2 n3 : Str} {j1 j2 j3 : Nat} {es : List Expr} {kk : Nat} {tp zp : Pos} (ls : List (PyData × PyData)) (hc : X.calm = true) (hN : X.N.Nodup) (hm : X.mg "zip" = none) (ha : PD X δ ω a (.tuple xs)) (hb : PD X δ ω b (.tuple (ls.map fun q => .tuple [q.1, q.2]))) (hl : xs.length = ls.length) (hlz : zs.length = xs.length) (hz : xs.length ≤ 1000)
    (ok : BlkOk X.N X.env.scope scope [(n1, j1), (n2, j2), (n3, j3)]) (hg : ∀ (s : Shared) (H : Hp) (C : Addr) (cl : List (Str × Addr)) (fp : List Addr), PG (X.blk s H scope (compEnvC scope cl C X.env) fp) (.Tuple es kk tp) (gZ X.K j1 j2 j3))
    (he : ∀ (i : Nat) (x l m z : PyData), xs[i]? = some x → ls[i]? = some (l, m) → zs[i]? = some z → ∀ D o (s : Shared) (H : Hp) (C : Addr) (cl : List (Str × Addr)) (fp : List Addr), PD (X.blk s H scope (compEnvC scope cl C X.env) fp) (((wipeD δ [j1, j2, j3]).set j1 (some (.im x))).set j2 (some (.im l)) |>.set j3 (some (.im m))) (omD ω D o) elt z)
    (hgz : Gl X "zip" := by rfl) (hs1 : starEach [a, b] X.env = (false, eval a X.env) :: starEach [b] X.env := by rfl) (hs2 : starEach [b] X.env = (false, eval b X.env) :: starEach [] X.env := by rfl) (hpl : (backTo zp (starEach [b] X.env)).any (·.1) = false := by rfl)
    (hs : ∀ x, foldedSetIterable (.Call (.Name "zip" p) [a, b] [] zp) X.env x = pure x := by intro _; rfl) : PN X δ ω (.ListComp elt [⟨.Tuple es kk tp, .Call (.Name "zip" p) [a, b] [] zp, [], 0⟩] scope pos) zs := fun σ H rl Q k => by
  refine we (pe_lc (own := [(n1, j1), (n2, j2), (n3, j3)]) hc hN (RZ.pi_zipA hgz hm (pa_cons pe_w (pa_cons pe_w pa_nil hs2) hs1) hs1 hpl) ok hg (fun _ _ _ _ _ => pts_nil) (fun s H0 C cl fp => pe_blk s H0 C cl fp) hs) ?_
  refine ha σ H rl _ fun va H0 s0 da => hb σ H0 (rl.mono s0) _ fun vb H1 s1 db => ?_
  have da1 := dpm (hid_same s1) da
  have rl1 := rl.mono (s0.trans s1)
  cases da1 with
  | tup a1 a2 =>
    cases db with
    | tup b1 b2 =>
      rename_i qa va qb vb
      have la := dpa_len a2
      have lb : vb.length = ls.length := by rw [dpa_len b2, List.length_map]
      refine ⟨qa, qb, va, vb, rfl, .inr ⟨same_sqt hid_sub a1, same_sqt hid_sub b1, fun D hD => ?_⟩⟩
      refine ⟨fun i m H2 => m = xs.length - i ∧ i ≤ xs.length ∧ Same H1 H2 ∧ ∃ vs, H2 D = some (.lst vs) ∧ DpAll X.K (hid (ads (omD ω D (.lst ((zs.take i).map .im)))) H2) vs (zs.take i), ⟨xs.length, by omega, Nat.zero_le _, same_new hD, [], upd_same, by rw [List.take_zero]; exact .nil⟩, ?_⟩
      rintro i m H2 ⟨em, hi, s2, vs, hv, dv⟩
      have sa := same_sqt s2 (same_sqt hid_sub a1)
      have sb := same_sqt s2 (same_sqt hid_sub b1)
      by_cases hlt : i < xs.length
      · have ex : xs[i]? = some xs[i] := List.getElem?_eq_getElem hlt
        have el : ls[i]? = some ls[i] := List.getElem?_eq_getElem (by omega)
        have ez : zs[i]? = some zs[i] := List.getElem?_eq_getElem (by omega)
        obtain ⟨u, eu, du⟩ := dpa_get a2 ex
        obtain ⟨w, ew, dw⟩ := dpa_get b2 (show (ls.map fun q => PyData.tuple [q.1, q.2])[i]? = some (.tuple [ls[i].1, ls[i].2]) by rw [List.getElem?_map, el]; rfl)
        refine .inr ⟨⟨va, vb, u, w, sa, sb, eu, ew⟩, fun H3 => Same H1 H3 ∧ ∃ vs, H3 D = some (.lst vs) ∧ DpAll X.K (hid (ads (omD ω D (.lst ((zs.take (i + 1)).map .im)))) H3) vs (zs.take (i + 1)), fun H3 ⟨s3, h3⟩ => ⟨xs.length - (i + 1), by omega, rfl, hlt, s3, h3⟩, fun x H3 hy => ?_⟩
        obtain ⟨Tt, u', w', rfl, hT, rfl, q1, q2⟩ := hy
        have eu' := (q1 va sa).symm.trans eu
        have ew' := (q2 vb sb).symm.trans ew
        cases eu'
        cases ew'
        cases dw with
        | tup c1 c2 =>
          cases c2 with
          | cons c3 c4 =>
            cases c4 with
            | cons c5 c6 =>
              cases c6
              rename_i qw w1 w2
              have st : Same H2 (upd H2 Tt (.tup [u, .ref qw])) := same_new hT
              refine ⟨Tt, [u, .ref qw], rfl, SqT.of upd_same, rfl, ?_⟩
              refine ⟨u, _, rfl, ?_⟩
              refine ⟨.ref qw, [], rfl, ?_⟩
              refine ⟨qw, [w1, w2], rfl, same_sqt st (same_sqt s2 (same_sqt hid_sub c1)), rfl, ?_⟩
              refine ⟨w1, _, rfl, ?_⟩
              refine ⟨w2, [], rfl, ?_⟩
              refine ⟨rfl, rfl, ?_⟩
              refine ⟨?_, ?_⟩
              · rw [wipe_mem (by simp), wipe_mem (by simp), wipe_mem (by simp), wipe_wipe (fun v h => h)]
              · have rl3 := rl1.omD hD s2 hv dv
                have rl4 := rl_wipe (rl3.mono st) [j1, j2, j3]
                have up := (hid_in (ω := ω) (o := .lst ((zs.take i).map .im)) hD s2)
                have up2 : Same (hid (ads ω) H1) (hid (ads (omD ω D (.lst ((zs.take i).map .im)))) (upd H2 Tt (.tup [u, .ref qw]))) := up.trans (hid_same st)
                have rl5 := ((rl4.set (i := j1) (x := .im xs[i]) (v := u) (dpm up2 du)).set (i := j2) (x := .im ls[i].1) (v := w1) (dpm up2 c3)).set (i := j3) (x := .im ls[i].2) (v := w2) (dpm up2 c5)
                intro s H0 C cl fp
                refine he i xs[i] ls[i].1 ls[i].2 zs[i] ex el ez D _ s H0 C cl fp _ _ rl5 _ fun v H4 s4 d4 => ⟨vs, (st.trans s4) D _ hv, ?_, same_upd_new hD (s2.trans (st.trans s4)), vs ++ [v], upd_same, ?_⟩
                · rw [dpa_len dv, List.length_take]
                  refine Nat.lt_of_le_of_lt (Nat.min_le_left _ _) (Nat.lt_of_lt_of_le hlt (Nat.le_trans hz ?_))
                  rw [sizeLine_eq]
                  decide
                · rw [List.take_add_one, ez]
                  exact dpa_app (dpam hid_upd (dpam (hid_same (st.trans s4)) dv)) (.cons (dpm hid_upd d4) .nil)
      · have e : i = xs.length := by omega
        subst e
        refine .inl ⟨⟨va, vb, sa, sb, .inl (by omega)⟩, ?_⟩
        rw [List.take_of_length_le (by omega)] at dv
        exact k D vs H2 ((s0.trans s1).trans s2) ((s0.trans s1).free hD) hv (dpam (hid_more fun b h => ads_omD.mpr (List.mem_cons.mp h)) dv)
end
end FP

namespace FP
open PySem PySem.Spec PyProof.Rows L2
section
variable {X : Cx} {W : WX} {T : List (Addr × Str)} {δ : De} {ω : Om} {e tg iter b : Expr} {d : PyData} {ds : List PyData} {pos p p1 : Pos} {R : Out → Prop} {ss : List Stmt} {x : Str}
/-- x = [elt for tg in iter], a list of one's own -/
theorem sd_ownLc (i : Nat) {py cpos : Pos} {elt : Expr} {scope : Scope} {y : Str} {j : Nat} {items ys : List PyData} (hc : X.calm = true) (hN : X.N.Nodup) (hw : PWs X δ ω tg iter items) (hl : ys.length = items.length) (ok : BlkOk X.N X.env.scope scope [(y, j)])
    (hg : ∀ (s : Shared) (H : Hp) (C : Addr) (cl : List (Str × Addr)) (fp : List Addr), PG (X.blk s H scope (compEnvC scope cl C X.env) fp) tg (gName j))
    (he : ∀ (i : Nat) (d y : PyData), items[i]? = some d → ys[i]? = some y → ∀ D o (s : Shared) (H : Hp) (C : Addr) (cl : List (Str × Addr)) (fp : List Addr), PD (X.blk s H scope (compEnvC scope cl C X.env) fp) (δ.set j (some (.im d))) (omD ω D o) elt y)
    (hz : items.length ≤ 10000) (hsw : swapsWith (.ListComp elt [⟨tg, iter, [], 0⟩] scope cpos) (some (.Name x py)) pos.line X.env = pure true) (hk : ∀ D, SD X W T ss (δ.set i (some (.ad D))) (omD ω D (.lst (ys.map .im))) R)
    (hy : X.N[i]? = some x := by rfl) (hyl : X.env.scope.names.lookup x = some .local := by rfl) (hs : ∀ x, foldedSetIterable iter X.env x = pure x := by intro _; rfl) : SD X W T (.Assign [.Name x py] (.ListComp elt [⟨tg, iter, [], 0⟩] scope cpos) pos :: ss) δ ω R := by
  obtain ⟨wi, h1, h2⟩ := hw
  refine sd_cons fun σ H D rl t k => ws (ps_setLc (i := i) (own := [(y, j)]) hc hN hy hyl hsw h1 ok hg (fun _ _ _ _ _ => pts_nil) (fun s H0 C cl fp => pe_blk s H0 C cl fp) hs) ?_
  refine lc_data rl (fun R kk => h2 σ H rl R kk) hl hz (fun i d y hd hy D o σ' H' rl' Q' k' s H0 C cl fp => he i d y hd hy D o s H0 C cl fp σ' H' rl' Q' k') (fun q vs H' s n hv dv => ?_)
  have rl2 : Rl X.K H' σ δ (omD ω q (.lst (ys.map .im))) := rl.omD n s hv (dpam (hid_more fun b h => List.mem_cons.mpr (ads_omD.mp h)) dv)
  refine k.nx _ _ _ H' (hk q) ⟨fun b o h _ _ => s b o h, fun a h => ?_, rfl, fun t => t.ext s⟩ (rl2.set (x := .ad q) (v := .ref q) rfl)
  rcases List.mem_cons.mp (show a ∈ q :: ω.os.map (·.1) from h) with z | z
  · exact .inr fun o ho => by
      rw [z, n] at ho
      cases ho
  · exact .inl z
/-- a list of one's own is from now on data -/
theorem sd_give (i : Nat) {D : Addr} {xs : List PyData} (hps : ω.ps = []) (hd : δ[i]? = some (some (.ad D))) (h : SD X W T ss (δ.set i (some (.im (.list xs)))) ω R) : SD X W T ss δ (omD ω D (.lst (xs.map .im))) R := fun σ H Dd rl t k => by
  obtain ⟨v, e1, e2⟩ := rl.sl i _ hd
  have e2 : v = .ref D := e2
  subst e2
  obtain ⟨vs, g1, g2⟩ := rl.ro.ob D _ List.mem_cons_self
  have nd : (D :: ω.os.map (·.1)).Nodup := rl.ro.nd
  have nin : D ∉ ads ω := fun z => by
    rcases List.mem_append.mp z with q | q
    · rw [hps] at q
      cases q
    · exact (List.nodup_cons.mp nd).1 q
  have l2 : Rl X.K H σ δ ω := ⟨rl.len, fun j r hj => by
      obtain ⟨u, a1, a2⟩ := rl.sl j r hj
      exact ⟨u, a1, sdv_mono hid_omD a2⟩, fun z o hz => odv_mono hid_omD (Same.refl H) (rl.ro.ob z o (List.mem_cons_of_mem _ hz)), (List.nodup_cons.mp nd).2, rl.ro.th⟩
  have l3 := l2.set (i := i) (x := .im (.list xs)) (v := .ref D) (.lst (SqL.of (hid_of nin g1)) (dpam hid_omD (dpa_im g2)))
  have es : σ.set i (some (.ref D)) = σ := by
    obtain ⟨hlt, ev⟩ := List.getElem?_eq_some_iff.mp e1
    rw [← ev]
    exact List.set_getElem_self hlt
  rw [es] at l3
  exact h σ H Dd l3 t (k.step ⟨fun b o e _ _ => e, fun a ha => .inl (List.mem_cons_of_mem _ ha), rfl, fun t => t⟩)
/-- x[b] = e, x the list of one's own that was made last -/
theorem sd_setix (i : Nat) {D : Addr} {xs : List PyData} {j : Nat} {sp : Pos} (he : PD X δ (omD ω D (.lst (xs.map .im))) e d) (hb : PD X δ (omD ω D (.lst (xs.map .im))) b (.int (j : Int))) (hj : j < xs.length) (hk : SD X W T ss δ (omD ω D (.lst ((xs.set j d).map .im))) R)
    (hd : δ[i]? = some (some (.ad D)) := by rfl) (hN : X.N[i]? = some x := by rfl) (hv : Vis X.env.scope x := by first | exact Or.inl rfl | exact Or.inr (Or.inl rfl) | exact Or.inr (Or.inr rfl)) (h1 : (x == ("__debug__" : Str)) = false := by decide) (h2 : (x == ("__classdict__" : Str)) = false := by decide)
    (ha : ∀ v, assign (.Subscript (.Name x p1) b sp) X.env v = (do
      let ov ← holding [v] (eval (.Name x p1) X.env)
      let iv ← holding [v, ov] (eval b X.env)
      standAt sp
      holding [v, ov, iv] (setItem ov iv v)
      release [v, ov, iv] []) := by intro _; rfl)
    (hs : swapsWithSole [.Subscript (.Name x p1) b sp] e pos.line X.env = pure false := by rfl) (hw : swappedStores [.Subscript (.Name x p1) b sp] e X.env = pure none := by rfl) (h3 : (assignEach [.Subscript (.Name x p1) b sp] X.env).map (·.2) = [assign (.Subscript (.Name x p1) b sp) X.env] := by rfl) :
    SD X W T (.Assign [.Subscript (.Name x p1) b sp] e pos :: ss) δ (omD ω D (.lst (xs.map .im))) R :=
  sd_cons fun σ H Dd rl t k => ws (ps_asg pe_w (pg_sub (pe_var hN hv h1 h2) pe_w set_list ha) hs hw h3) (he σ H rl _ fun y H1 s1 d1 => by
    have rl1 := rl.mono s1
    obtain ⟨v, e1, e2⟩ := rl1.sl i _ hd
    have e2 : v = .ref D := e2
    subst e2
    refine ⟨_, e1, hb σ H1 rl1 _ fun iv H2 s2 d2 => ?_⟩
    cases d2
    have rl2 := rl1.mono s2
    obtain ⟨vs, g1, g2⟩ := rl2.ro.ob D _ List.mem_cons_self
    have lv : vs.length = xs.length := dpa_len (dpa_im g2)
    have dset : ∀ {H : Hp} {y : V} {d : PyData}, Dp X.K H y d → ∀ {xs : List PyData} {vs : List V} (j : Nat), DpAll X.K H vs xs → DpAll X.K H (vs.set j y) (xs.set j d) := by
      intro H y d hd xs
      induction xs with
      | nil =>
        intro vs j h
        cases h
        exact .nil
      | cons x xs ih =>
        intro vs j h
        cases h with
        | cons a b =>
          cases j with
          | zero => exact .cons hd b
          | succ j => exact .cons a (ih j b)
    refine ⟨D, vs, (j : Int), j, rfl, rfl, g1, ?_, ?_⟩
    · unfold ixN
      rw [lv, if_pos (Int.natCast_nonneg j), if_pos (show (j : Int) < (xs.length : Int) by omega), Int.toNat_natCast]
    · obtain ⟨st, l3⟩ := own_step (T := T) (o' := .lst ((xs.set j d).map .im)) (u := .lst (vs.set j y)) rl2 g1 (fun _ z => by cases z) (fun _ _ z => by unfold LamX.CodeO at z; cases z) ⟨_, upd_same, im_dpa (dset (dpm hid_upd (dpm (hid_same s2) d1)) j (dpam hid_upd (dpa_im g2)))⟩
      exact k.nx δ _ σ _ hk ((Stp.of (s1.trans s2)).trans st) l3)
end
end FP

namespace FP
open PySem PySem.Spec PyProof.Rows L2
def rCatQ (K : PySem.W.Frag) : R2 := fun x y H Q => ∃ l b xs zs, x = .ref l ∧ y = .ref b ∧ SqL K H l xs ∧ SqL K H b zs ∧ xs.length + zs.length ≤ sizeLine ∧ ∀ p, H p = none → Q (.ref p) (upd H p (.lst (xs ++ zs)))
theorem op_catQ {X : Cx} : OpR X (binaryOp .Add) (rCatQ X.K) := by
  intro pins s σ H x y v u Q I rx ry h
  obtain ⟨l, b, xs, zs, rfl, rfl, hl, hb, hz, q⟩ := h
  cases rx
  cases ry
  obtain ⟨is1, r1, p1, _⟩ := I.list hl
  obtain ⟨is2, r2, p2, _⟩ := I.list hb
  obtain ⟨⟨c1, dd1, da1, sl1⟩, g1, e1, n1, f1⟩ := p1.isList
  obtain ⟨⟨c2, dd2, da2, sl2⟩, g2, e2, n2, f2⟩ := p2.isList
  simp only at e1 f1 e2 f2
  subst e1 f1 e2 f2
  have le : is1.length + is2.length ≤ sizeLine := by rw [← r1.length, ← r2.length]; exact hz
  have ea : is1.toArray ++ is2.toArray = (is1 ++ is2).toArray := by simp
  refine concat_meets ⟨_, g1, rfl⟩ ⟨_, g2, rfl⟩ noFill_list_add seq_list_add PySem.F.slot_list_add PySem.F.entry_list_add (PySem.F.args_list_add_2 _ _) (list_addW l b is1.toArray is2.toArray n1 n2 dd1 dd2 sl1 sl2 (by simpa using le)) ⟨g1, g2, ?_⟩
  rw [ea]
  exact ⟨.ref _, _, I.lnew (t' := s.toks) (r1.append r2) (by rw [List.length_append]; exact hz), rfl, q _ I.fresh⟩
/-- a + b, lists -/
theorem pn_catL {X : Cx} {δ : De} {ω : Om} {a b : Expr} {ds dt : List PyData} {pos : Pos} (ha : PL X δ ω a ds) (hb : PL X δ ω b dt) (hz : ds.length + dt.length ≤ 10000) : PN X δ ω (.BinOp a .Add b pos) (ds ++ dt) := fun σ H rl Q k =>
  we (pe_op op_catQ pe_w pe_w) (ha σ H rl _ fun q vs H1 s1 h1 d1 => hb σ H1 (rl.mono s1) _ fun r us H2 s2 h2 d2 =>
    ⟨q, r, vs, us, rfl, rfl, s2.seq h1, h2, by rw [dpa_len d1, dpa_len d2, sizeLine_eq]; omega, fun p hp => k p _ _ ((s1.trans s2).trans (same_new hp)) ((s1.trans s2).free hp) upd_same (dpam (hid_new hp (same_new hp)) (dpa_app (dpam (hid_same s2) d1) d2))⟩)
end FP

namespace FP
open PySem PySem.Spec PyProof.Rows L2 HotX L2H
/-! ### own objects by their place -/
def putO (ω : Om) (j : Nat) (p : Addr × Od) : Om := ⟨ω.ps, ω.os.set j p⟩
theorem map_put {os : List (Addr × Od)} {j : Nat} {D : Addr} {o o' : Od} (h : os[j]? = some (D, o)) : (os.set j (D, o')).map (·.1) = os.map (·.1) := by
  rw [List.map_set]
  obtain ⟨hl, e⟩ := List.getElem?_eq_some_iff.mp h
  have e2 : (os.map (·.1))[j]'(by rw [List.length_map]; exact hl) = D := by
    rw [List.getElem_map, e]
  show (os.map (·.1)).set j D = os.map (·.1)
  rw [← e2, List.set_getElem_self]
theorem osA_put {ω : Om} {j : Nat} {D : Addr} {o o' : Od} (h : ω.os[j]? = some (D, o)) : osA (putO ω j (D, o')) = osA ω := map_put h
theorem ads_put {ω : Om} {j : Nat} {D : Addr} {o o' : Od} (h : ω.os[j]? = some (D, o)) : ads (putO ω j (D, o')) = ads ω := by
  show ω.ps ++ (ω.os.set j (D, o')).map (·.1) = ω.ps ++ ω.os.map (·.1)
  rw [map_put h]
/-- an object of one's own was written -/
theorem own_at {T : List (Addr × Str)} {K : PySem.W.Frag} {H H' : Hp} {σ : L2.St} {δ : De} {ω : Om} {D : Addr} {o o' : Od} {u0 : HO} {j : Nat} (rl : Rl K H σ δ ω) (ho : ω.os[j]? = some (D, o)) (e0 : H D = some u0) (nt : ∀ ps, u0 ≠ .tbl ps) (nc : ∀ c q, u0 ≠ LamX.CodeO c q)
    (kept : ∀ b x, b ≠ D → H b = some x → H' b = some x) (new : OdV K (hid (ads ω) H') H' D o') : Stp T ω (putO ω j (D, o')) H H' ∧ Rl K H' σ δ (putO ω j (D, o')) := by
  have am : D ∈ osA ω := List.mem_map.mpr ⟨_, List.mem_of_getElem? ho, rfl⟩
  have aw : ads (putO ω j (D, o')) = ads ω := ads_put ho
  have hh : Same (hid (ads ω) H) (hid (ads ω) H') := fun b x h => by
    obtain ⟨n, e⟩ := hid_out h
    exact hid_of n (kept b x (fun z => n (by rw [z]; exact List.mem_append_right _ am)) e)
  refine ⟨⟨fun b x h n _ => kept b x (fun z => n (by rw [z]; exact am)) h, fun a h => .inl (by rw [osA_put ho] at h; exact h), rfl, fun t => ?_⟩, ⟨rl.len, fun i r h => ?_, fun z x h => ?_, ?_, fun z h hz => ?_⟩⟩
  · intro q hq
    obtain ⟨ps, a1, a2, a3⟩ := t q hq
    refine ⟨ps, kept _ _ (fun z => nt ps (by rw [z, e0] at a1; exact Option.some.inj a1)) a1, a2, fun p' cv hc => ?_⟩
    obtain ⟨c0, b1, b2⟩ := a3 p' cv hc
    exact ⟨c0, b1, kept _ _ (fun z => nc _ _ (by rw [z, e0] at b2; exact Option.some.inj b2)) b2⟩
  · obtain ⟨v, h1, h2⟩ := rl.sl i r h
    rw [aw]
    exact ⟨v, h1, sdv_mono hh h2⟩
  · rw [aw]
    obtain ⟨i, hi⟩ := List.mem_iff_getElem?.mp h
    replace hi : (ω.os.set j (D, o'))[i]? = some (z, x) := hi
    by_cases e : j = i
    · subst e
      rw [List.getElem?_set_self (List.getElem?_eq_some_iff.mp ho).1] at hi
      cases hi
      exact new
    · rw [List.getElem?_set_ne e] at hi
      have na : z ≠ D := fun zz => by
        subst zz
        refine e ((List.getElem?_inj (l := ω.os.map (·.1)) (by rw [List.length_map]; exact (List.getElem?_eq_some_iff.mp ho).1) rl.ro.nd).mp ?_)
        rw [List.getElem?_map, List.getElem?_map, ho, hi]
        rfl
      have g := rl.ro.ob z x (List.mem_of_getElem? hi)
      exact odv_keep (fun w => sdv_mono hh w) (fun u _ g1 => kept _ _ na g1) g
  · show (osA (putO ω j (D, o'))).Nodup
    rw [osA_put ho]
    exact rl.ro.nd
  · have hn := rl.ro.th z h
    by_cases za : z = D
    · have g := odv_some new
      rw [za] at hz
      exact g hz
    · cases e : H z with
      | none => exact hn e
      | some u =>
        rw [kept z u za e] at hz
        cases hz
/-! ### expressions that may write -/
def YE (X : Cx) (T : List (Addr × Str)) (δ : De) (ω : Om) (e : Expr) (d : PyData) (ω' : Om) : Prop := ∀ σ H, Rl X.K H σ δ ω → LamX.Tabs T H → ∀ Q : VK, (∀ v H', Stp T ω ω' H H' → Rl X.K H' σ δ ω' → Dp X.K (hid (ads ω') H') v d → Q v H') → wpe X e σ H Q
def YT (X : Cx) (T : List (Addr × Str)) (δ : De) (ω : Om) (e : Expr) (k : Bool) (ω' : Om) : Prop := ∀ σ H, Rl X.K H σ δ ω → LamX.Tabs T H → ∀ Q : Bool → Hp → Prop, (∀ H', Stp T ω ω' H H' → Rl X.K H' σ δ ω' → Q k H') → wpt X e σ H Q
def YW (X : Cx) (T : List (Addr × Str)) (δ : De) (ω : Om) (e : Expr) (k : Bool) (ω' : Om) : Prop := ∀ σ H, Rl X.K H σ δ ω → LamX.Tabs T H → ∀ Q : Bool → Hp → Prop, (∀ H', Stp T ω ω' H H' → Rl X.K H' σ δ ω' → Q k H') → wpw X e σ H Q
def YQ (X : Cx) (W : WX) (T : List (Addr × Str)) (δ : De) (ω ω' : Om) (σ : L2.St) (H : Hp) (Q : VK) : Rs → Prop
  | .ok d => ∀ v H', Stp T ω ω' H H' → Rl X.K H' σ δ ω' → Dp X.K (hid (ads ω') H') v d → Q v H'
  | .er C => ∀ H', Stp T ω ω' H H' → Rl X.K H' σ δ ω' → W (.ref C) none σ H'
def YR (X : Cx) (W : WX) (T : List (Addr × Str)) (δ : De) (ω : Om) (e : Expr) (r : Rs) (ω' : Om) : Prop := ∀ σ H, Rl X.K H σ δ ω → LamX.Tabs T H → ∀ Q : VK,
  YQ X W T δ ω ω' σ H Q r → wpe X e σ H Q
section
variable {X : Cx} {W : WX} {T : List (Addr × Str)} {δ : De} {ω ω1 ω2 : Om} {a b c e : Expr} {es r : List Expr} {d da db dz : PyData} {ds : List PyData} {pos p : Pos} {k x y : Bool} {R : Out → Prop} {ss sa sb : List Stmt}
theorem YE.eq (h : YE X T δ ω e d ω1) (q : d = dz) : YE X T δ ω e dz ω1 := q ▸ h
theorem PD.ye (h : PD X δ ω e d) : YE X T δ ω e d ω := fun σ H rl t Q q => h σ H rl Q fun v H' s dv => q v H' (.of s) (rl.mono s) dv
theorem PX.ye (h : PX X T δ ω e d) : YE X T δ ω e d ω := h
theorem PTd.x2 (h : PTd X δ ω e k) : YT X T δ ω e k ω := fun σ H rl t Q q => h σ H rl Q fun H' s => q H' (.of s) (rl.mono s)
theorem YW.yt (h : YW X T δ ω e k ω1) : YT X T δ ω e k ω1 := fun σ H rl t Q q => wt (PW.pt pw_w) (h σ H rl t Q q)
theorem YE.yr (h : YE X T δ ω e d ω1) : YR X W T δ ω e (.ok d) ω1 := h
theorem PR.yr {rr : Rs} (h : PR X W δ ω e rr) : YR X W T δ ω e rr ω := fun σ H rl t Q q => h σ H rl Q (by
  cases rr with
  | ok d => exact fun v H' s dv => q v H' (.of s) (rl.mono s) dv
  | er C => exact fun H' s => q H' (.of s) (rl.mono s))
theorem t2_cmp {op : CmpOp} {r : R2} (ho : OpR X (compareOp op) r) (hr : RD X.K r da db (.bool k)) (ha : YE X T δ ω a da ω1) (hb : YE X T δ ω1 b db ω2) (hm : behindInMarks op b = false) : YT X T δ ω (.Compare a [op] [b] pos) k ω2 := fun σ H rl t Q q =>
  wt (pt_cmpR ho pe_w pe_w hm) (ha σ H rl t _ fun x H1 s1 l1 d1 => hb σ H1 l1 (s1.tab t) _ fun y H2 s2 l2 d2 =>
    hr _ x y H2 l2.ro.there (dp_ke s2.seen da x d1) d2 _ fun z H3 s3 d3 => by
      cases d3
      exact ⟨_, rfl, q H3 ((s1.trans s2).trans (.of s3)) (l2.mono s3)⟩)
theorem t2_not (h : YT X T δ ω e k ω1) : YT X T δ ω (.UnaryOp .Not e pos) (!k) ω1 := fun σ H rl t Q q => wt (pt_not pt_w) (h σ H rl t _ fun H1 s1 l1 => q H1 s1 l1)
theorem w2_or1 (h : YT X T δ ω a k ω1) : YW X T δ ω (.BoolOp .Or [a] pos) k ω1 := fun σ H rl t Q q => ww (pw_or1 pt_w) (h σ H rl t Q q)
theorem w2_and1 (h : YT X T δ ω a k ω1) : YW X T δ ω (.BoolOp .And [a] pos) k ω1 := fun σ H rl t Q q => ww (pw_and1 pt_w) (h σ H rl t Q q)
theorem w2_orF (h : YT X T δ ω a false ω1) (h2 : YW X T δ ω1 (.BoolOp .Or (b :: r) pos) y ω2) : YW X T δ ω (.BoolOp .Or (a :: b :: r) pos) y ω2 := fun σ H rl t Q q =>
  ww (pw_or pt_w pw_w) (h σ H rl t _ fun H1 s1 l1 => iteF (h2 σ H1 l1 (s1.tab t) Q fun H2 s2 l2 => q H2 (s1.trans s2) l2))
theorem w2_orT (h : YT X T δ ω a true ω1) : YW X T δ ω (.BoolOp .Or (a :: b :: r) pos) true ω1 := fun σ H rl t Q q =>
  ww (pw_or pt_w pw_w) (h σ H rl t _ fun H1 s1 l1 => iteT (q H1 s1 l1))
theorem w2_andT (h : YT X T δ ω a true ω1) (h2 : YW X T δ ω1 (.BoolOp .And (b :: r) pos) y ω2) : YW X T δ ω (.BoolOp .And (a :: b :: r) pos) y ω2 := fun σ H rl t Q q =>
  ww (pw_and pt_w pw_w) (h σ H rl t _ fun H1 s1 l1 => iteT (h2 σ H1 l1 (s1.tab t) Q fun H2 s2 l2 => q H2 (s1.trans s2) l2))
theorem w2_andF (h : YT X T δ ω a false ω1) : YW X T δ ω (.BoolOp .And (a :: b :: r) pos) false ω1 := fun σ H rl t Q q =>
  ww (pw_and pt_w pw_w) (h σ H rl t _ fun H1 s1 l1 => iteF (q H1 s1 l1))
/-! statements -/
theorem sd_x (he : YE X T δ ω e d ω1) (hk : SD X W T ss δ ω1 R) (hs : swapsWith e none pos.line X.env = pure false := by rfl) : SD X W T (.Expr e pos :: ss) δ ω R :=
  sd_cons fun σ H D rl t k => ws (ps_expr pe_w hs) (he σ H rl t _ fun v H' s l dv => k.nx δ ω1 σ H' hk s l)
theorem sd_set2 (i : Nat) {x : Str} {pos' : Pos} (he : YE X T δ ω e d ω1) (hk : SD X W T ss (δ.set i (some (.im d))) ω1 R) (hN : X.N.Nodup) (hi : X.N[i]? = some x := by rfl) (hx : Loc X.env.scope x := by first | exact Or.inl rfl | exact Or.inr rfl) (hs : swapsWith e (some (.Name x pos')) pos.line X.env = pure false := by rfl)
    (hf : X.fn x = true ∨ X.env.scope.names.lookup x = some .local := by first | exact .inl rfl | exact .inr rfl | assumption) : SD X W T (.Assign [.Name x pos'] e pos :: ss) δ ω R :=
  sd_cons (s1_set i (fun σ H rl t Q q _ => he σ H rl t Q fun v H' s l dv => q (.im d) ω1 v H' hk s l dv) hN hi hx hs hf)
theorem sd_if2 {kk : Bool} (h : YT X T δ ω c kk ω1) (h1 : kk = true → SD X W T sa δ ω1 (Nxt X W T ss R)) (h2 : kk = false → SD X W T sb δ ω1 (Nxt X W T ss R)) : SD X W T (.If c sa sb pos :: ss) δ ω R :=
  sd_cons fun σ H D rl t k => ws (ps_if pt_w pss_w pss_w) (h σ H rl t _ fun H' s l => by
    cases kk with
    | true => exact iteT (h1 rfl σ H' D l (s.tab t) (k.step s))
    | false => exact iteF (h2 rfl σ H' D l (s.tab t) (k.step s)))
theorem sd_ifF2 (h : YT X T δ ω c false ω1) (h2 : SD X W T ss δ ω1 R) : SD X W T (.If c sa [] pos :: ss) δ ω R := sd_if2 h (fun z => by cases z) fun _ => sd_nil h2
theorem sd_ret2 (he : YE X T δ ω e d ω1) (hR : R (.rt (.im d) ω1)) : SD X W T (.Return (some e) pos :: ss) δ ω R :=
  sd_cons fun σ H D rl t k => ws (ps_ret pe_w) (he σ H rl t _ fun v H' s l dv => k.rt _ ω1 v H' hR s l.ro dv)
end
/-! ### methods -/
section
variable {X : Cx} {CX : CXT} {k : Nat} {f C : Addr} {fd : FuncData} {ps : List Str} {sp : Sp} {E : L2.St → XK} {x m : Str} {p pos apos : Pos} {e o : Expr} {es : List Expr} {ta : TE} {t : TA}
def tMethS (C : Addr) (m : Str) (sp : Sp) (E : L2.St → XK) (ta : TE) (t : TA) : TE := fun σ H Q => ta σ H fun v H1 => ∃ a dx fs, v = .ref a ∧ H1 a = some (.ins C dx fs) ∧ fs.lookup m = none ∧ t σ H1 fun vs H2 => sp (.ref a :: vs) H2 Q (E σ)
/-- the method found, its call is left -/
theorem mth_found {pl : Sem Bool} {pins : List (Addr × Obj)} {s : Shared} {σ : L2.St} {H : Hp} {P : Addr → Hp → Prop} {Q : Value → Shared → Prop} (I : Inv X pins σ H s) (he : PE X o ta) (c : Cls X.K C) (hm : Meth X.K C m f) (ht : MthAs X o m apos pos es pl)
    (h : ta σ H fun v H1 => ∃ a dx fs, v = .ref a ∧ H1 a = some (.ins C dx fs) ∧ fs.lookup m = none ∧ P a H1)
    (k : ∀ a s1 H1, Inv X pins σ H1 s1 → P a H1 → wpAny (model X.prog X.w) X.A (callWith pos (.ref f) [.ref a] (backTo pos (starEach es X.env)) (backToKw pos (keywordEach [] X.env))) Q X.xe s1) :
    wpAny (model X.prog X.w) X.A (eval (.Call (.Attribute o m apos) es [] pos) X.env) Q X.xe s := by
  refine PySem.W.methodCall_KW (pl := pl) (thn (he.run pins s σ H _ I h) ?_) ht
  rintro v s1 ⟨_, H1, I1, r, a, dx, fs, rfl, at_, own, p⟩
  cases show v = Value.ref a from r
  exact getmeth_ok I1 at_ c hm own (k a s1 H1 I1 p)
theorem pe_mthS {pl : Sem Bool} (he : PE X o ta) (c : Cls X.K C) (hm : Meth X.K C m f) (F : FnOk X.prog X.w X.K X.mg X.base CX k f fd ps sp) (hr : Room k X.A) (hb : L2.Binds X.K fd ps []) (hx : ∀ σ, PassesAt CX X σ (E σ)) (ha : PA X (e :: es) t)
    (hst : starEach (e :: es) X.env = (false, eval e X.env) :: starEach es X.env := by rfl) (hpl : (backTo pos (starEach es X.env)).any (·.1) = false := by rfl) (ht : MthAs X o m apos pos (e :: es) pl := by rfl) :
    PE X (.Call (.Attribute o m apos) (e :: es) [] pos) (tMethS C m sp E ta t) :=
  ⟨fun pins s σ H Q I h => mth_found I he c hm ht h fun a s1 H1 I1 told =>
    PySem.W.callWith_K (first := [.ref a]) (h₀ := X.base) I1.ok.mod.kin hm.kp (thn (ha.run pos pins s1 σ H1 _ I1 told) fun us _ ⟨vs, _, I2, r, q⟩ => ⟨I2.kIn, run_fnS (us := .ref a :: us) (vs := .ref a :: vs) F hr hb (hx σ) I2 (.cons rfl r) q⟩) hst hpl⟩
theorem pe_mthS0 {pl : Sem Bool} (he : PE X o ta) (c : Cls X.K C) (hm : Meth X.K C m f) (F : FnOk X.prog X.w X.K X.mg X.base CX k f fd ps sp) (hr : Room k X.A) (hb : L2.Binds X.K fd ps []) (hx : ∀ σ, PassesAt CX X σ (E σ)) (ht : MthAs X o m apos pos [] pl := by rfl) :
    PE X (.Call (.Attribute o m apos) [] [] pos) (tMethS C m sp E ta tNil) :=
  ⟨fun _ _ σ _ _ I h => mth_found I he c hm ht h fun a _ _ I1 q => PySem.W.callWith_K0 (first := [.ref a]) I1.kIn hm.kp (run_fnS (us := [.ref a]) (vs := [.ref a]) F hr hb (hx σ) I1 (.cons rfl .nil) q)⟩
end
section
variable {X : Cx} {W : WX} {T : List (Addr × Str)} {δ : De} {ω : Om} {e : Expr} {es : List Expr} {d : PyData} {ds : List PyData} {pos p p1 apos : Pos} {R : Out → Prop} {ss : List Stmt} {a C : Addr} {fs fs' : Fs} {f x m : Str} {k : Nat}
theorem at_mem {os : List (Addr × Od)} {j : Nat} {q : Addr × Od} (h : os[j]? = some q) : q ∈ os := List.mem_of_getElem? h
theorem meth_end {H : Hp} {σ : L2.St} {vs : List V} {j : Nat} {r : Rs} {Q : VK} {fr : Fs → List PyData → Rs → Fs → Prop} (rl : Rl X.K H σ δ ω) (ho : ω.os[j]? = some (a, .ins C (imF fs))) (d1 : DpAll X.K (hid (ads ω) H) vs ds) (hf : fr fs ds r fs')
    (q : YQ X W T δ ω (putO ω j (a, .ins C (imF fs'))) σ H Q r) :
    spW X.K C fr (.ref a :: vs) H Q (WE W σ) := by
  have am : a ∈ ads ω := List.mem_append_right _ (List.mem_map.mpr ⟨_, at_mem ho, rfl⟩)
  obtain ⟨dx1, us1, k1, k2⟩ := rl_ins rl (at_mem ho)
  refine ⟨ads ω, a, fs, ds, r, fs', min_of rl (at_mem ho) d1, hf, fun H' dx2 us2 kept l1 l2 => ?_⟩
  rw [hid_cons_in am] at l2 ⊢
  obtain ⟨st, l3⟩ := own_at (T := T) (o' := .ins C (imF fs')) rl ho k1 (fun _ z => by cases z) (fun _ _ z => by unfold LamX.CodeO at z; cases z) kept ⟨dx2, us2, l1, of_fv l2⟩
  cases r with
  | ok d => exact fun v dv => q v H' st l3 (by rw [ads_put ho]; exact dv)
  | er Z => exact q H' st l3
/-- x.m(..) -/
theorem yr_meth (i j : Nat) {r : Rs} {fr : Fs → List PyData → Rs → Fs → Prop} {pl : Sem Bool} (G : WrOk X.prog X.w X.K X.mg X.base k C m fr) (hr : Room k X.A) (tk : L2N.Takes X W) (Cl : Cls X.K C) (ho : ω.os[j]? = some (a, .ins C (imF fs))) (ha : PDs X δ ω (e :: es) ds) (hf : fr fs ds r fs') (hl : fs.lookup m = none)
    (hd : δ[i]? = some (some (.ad a)) := by rfl) (hN : X.N[i]? = some x := by rfl)
    (hv : Vis X.env.scope x := by first | exact Or.inl rfl | exact Or.inr (Or.inl rfl) | exact Or.inr (Or.inr rfl)) (h1 : (x == ("__debug__" : Str)) = false := by decide) (h2 : (x == ("__classdict__" : Str)) = false := by decide)
    (hst : starEach (e :: es) X.env = (false, eval e X.env) :: starEach es X.env := by rfl) (hpl : (backTo pos (starEach es X.env)).any (·.1) = false := by rfl)
    (ht : MthAs X (.Name x p1) m apos pos (e :: es) pl := by rfl) : YR X W T δ ω (.Call (.Attribute (.Name x p1) m apos) (e :: es) [] pos) r (putO ω j (a, .ins C (imF fs'))) := fun σ H rl t Q q => by
  obtain ⟨g, fd, ps, F, M, b⟩ := G.ex
  obtain ⟨v, e1, e2⟩ := rl.sl i _ hd
  have e2 : v = .ref a := e2
  subst e2
  obtain ⟨dx, us, g1, g2⟩ := rl_ins rl (at_mem ho)
  refine we (pe_mthS (pl := pl) (E := WE W) (pe_var hN hv h1 h2) Cl M F hr b (fun σ => L2N.passAt tk σ) pa_w hst hpl ht) ⟨_, e1, a, dx, us, rfl, g1, fv_none g2 hl, ha σ H rl _ fun vs H1 s1 d1 => ?_⟩
  refine meth_end (T := T) (rl.mono s1) ho d1 hf ?_
  cases r with
  | ok d => exact fun v H' st l dv => q v H' ((Stp.of s1).trans st) l dv
  | er Z => exact fun H' st l => q H' ((Stp.of s1).trans st) l
theorem yr_meth0 (i j : Nat) {r : Rs} {fr : Fs → List PyData → Rs → Fs → Prop} {pl : Sem Bool} (G : WrOk X.prog X.w X.K X.mg X.base k C m fr) (hr : Room k X.A) (tk : L2N.Takes X W) (Cl : Cls X.K C) (ho : ω.os[j]? = some (a, .ins C (imF fs))) (hf : fr fs [] r fs') (hl : fs.lookup m = none)
    (hd : δ[i]? = some (some (.ad a)) := by rfl) (hN : X.N[i]? = some x := by rfl)
    (hv : Vis X.env.scope x := by first | exact Or.inl rfl | exact Or.inr (Or.inl rfl) | exact Or.inr (Or.inr rfl)) (h1 : (x == ("__debug__" : Str)) = false := by decide) (h2 : (x == ("__classdict__" : Str)) = false := by decide)
    (ht : MthAs X (.Name x p1) m apos pos [] pl := by rfl) : YR X W T δ ω (.Call (.Attribute (.Name x p1) m apos) [] [] pos) r (putO ω j (a, .ins C (imF fs'))) := fun σ H rl t Q q => by
  obtain ⟨g, fd, ps, F, M, b⟩ := G.ex
  obtain ⟨v, e1, e2⟩ := rl.sl i _ hd
  have e2 : v = .ref a := e2
  subst e2
  obtain ⟨dx, us, g1, g2⟩ := rl_ins rl (at_mem ho)
  refine we (pe_mthS0 (pl := pl) (E := WE W) (pe_var hN hv h1 h2) Cl M F hr b (fun σ => L2N.passAt tk σ) ht) ⟨_, e1, a, dx, us, rfl, g1, fv_none g2 hl, ?_⟩
  exact meth_end (T := T) rl ho .nil hf q
/-- where nothing is raised -/
theorem YR.ye {X : Cx} {T : List (Addr × Str)} {δ : De} {ω ω1 : Om} {e : Expr} {d : PyData} (h : YR X (fun _ _ _ _ => False) T δ ω e (.ok d) ω1) : YE X T δ ω e d ω1 := h
theorem sd_yr {rr : Rs} {ω1 : Om} (he : YR X W T δ ω e rr ω1) (h1 : ∀ d, rr = .ok d → SD X W T ss δ ω1 R) (h2 : ∀ Z, rr = .er Z → R (.ex Z ω1)) (hs : swapsWith e none pos.line X.env = pure false := by rfl) : SD X W T (.Expr e pos :: ss) δ ω R :=
  sd_cons fun σ H D rl t kt => ws (ps_expr pe_w hs) (he σ H rl t _ (by
    cases rr with
    | ok d => exact fun v H' s l dv => kt.nx δ ω1 σ H' (h1 d rfl) s l
    | er Z => exact fun H' s l => kt.ex Z ω1 σ H' (h2 Z rfl) s l.ro))
/-! ### new objects -/
/-- a new object -/
def NW (X : Cx) (T : List (Addr × Str)) (δ : De) (ω : Om) (e : Expr) (o : Od) : Prop := ∀ σ H, Rl X.K H σ δ ω → LamX.Tabs T H → ∀ Q : VK, (∀ D H', Stp T ω (omD ω D o) H H' → Rl X.K H' σ δ (omD ω D o) → Q (.ref D) H') → wpe X e σ H Q
theorem stp_new {H H' : Hp} {D : Addr} {o : Od} (s : Same H H') (n : H D = none) : Stp T ω (omD ω D o) H H' := ⟨fun b o h _ _ => s b o h, fun a h => by
  rcases List.mem_cons.mp (show a ∈ D :: ω.os.map (·.1) from h) with z | z
  · exact .inr fun o ho => by
      rw [z, n] at ho
      cases ho
  · exact .inl z, rfl, fun t => t.ext s⟩
theorem PN.nw (he : PN X δ ω e ds) : NW X T δ ω e (.lst (ds.map .im)) := fun σ H rl t Q k => he σ H rl _ fun q vs H' s n hv dv =>
  k q H' (stp_new s n) (rl.omD n s hv (dpam (hid_more fun b h => List.mem_cons.mpr (ads_omD.mp h)) dv))
theorem make_end {H1 : Hp} {σ : L2.St} {vs : List V} {fr : Fs → List PyData → Rs → Fs → Prop} {z dx : Addr} {Q : VK} (rl1 : Rl X.K H1 σ δ ω) (nz : H1 z = none) (ndx : H1 dx = none) (d1 : DpAll X.K (hid (ads ω) H1) vs ds) (hf : fr [] ds (.ok .none) fs')
    (q : ∀ H', Stp T ω (omD ω z (.ins C (imF fs'))) H1 H' → Rl X.K H' σ δ (omD ω z (.ins C (imF fs'))) → Q (.ref z) H') :
    spW X.K C fr (V.ref z :: vs) (upd (upd H1 dx (.own z)) z (.ins C dx [])) (fun v H2 => v = .non ∧ Q (.ref z) H2) E0 := by
  have sm : Same H1 (upd (upd H1 dx (.own z)) z (.ins C dx [])) := fun b o h => by
    rw [upd_ne (ne_of_none h nz), upd_ne (ne_of_none h ndx)]
    exact h
  have nin : z ∉ ads ω := new_out rl1.ro.there nz
  refine ⟨ads ω, z, [], ds, .ok .none, fs', ⟨dx, [], vs, rfl, there_mono rl1.ro.there sm, upd_same, .nil, ?_⟩, hf, fun H' dx2 us2 kept l1 l2 v dv => ?_⟩
  · exact dpam (hid_new nz sm) d1
  · cases dv
    refine ⟨rfl, ?_⟩
    have kept1 : Same H1 H' := fun b o h => kept b o (ne_of_none h nz) (sm b o h)
    have l4 : Rl X.K H' σ δ (omD ω z (.ins C (imF fs'))) := by
      refine ⟨rl1.len, fun j r h => ?_, fun b o h => ?_, ?_, there_mono rl1.ro.th kept1⟩
      · obtain ⟨v, q1, q2⟩ := rl1.sl j r h
        exact ⟨v, q1, sdv_mono (hid_in nz kept1) q2⟩
      · rcases List.mem_cons.mp h with q | q
        · cases q
          exact ⟨dx2, us2, l1, of_fv (fv_mono (hid_more fun b hb => List.mem_cons.mpr (ads_omD.mp hb)) l2)⟩
        · exact odv_mono (hid_in nz kept1) kept1 (rl1.ro.ob b o q)
      · show (z :: ω.os.map (·.1)).Nodup
        exact List.nodup_cons.mpr ⟨fun q => nin (List.mem_append_right _ q), rl1.ro.nd⟩
    exact q H' (stp_new kept1 nz) l4
/-- C(..) -/
theorem nw_make {cn : Str} {g : Addr} {fd : FuncData} {ps : List Str} {fr : Fs → List PyData → Rs → Fs → Prop} (M : Mk X.K C g) (F : FnOk X.prog X.w X.K X.mg X.base (L2N.CX X.prog X.w) k g fd ps (spW X.K C fr)) (hb : L2.Binds X.K fd ps []) (hr : Room (k + 1) X.A) (hmC : X.mg cn = some (.ref C))
    (ha : PDs X δ ω (e :: es) ds) (hf : fr [] ds (.ok .none) fs') (hg : Gl X cn := by rfl) (hdb : (cn == ("__debug__" : Str)) = false := by decide) (he : starEach (e :: es) X.env = (false, eval e X.env) :: starEach es X.env := by rfl) (hpl : (backTo pos (starEach es X.env)).any (·.1) = false := by rfl) :
    NW X T δ ω (.Call (.Name cn p) (e :: es) [] pos) (.ins C (imF fs')) := fun σ H rl t Q q =>
  we (pe_make M F hr hg hmC hb .nil passN pa_w hdb he hpl) (ha σ H rl _ fun vs H1 s1 d1 z dx nz ndx ne => by
    rw [List.append_nil]
    exact make_end (T := T) (rl.mono s1) nz ndx d1 hf fun H' st l => q z H' ((Stp.of s1).trans st) l)
theorem nw_make0 {cn : Str} {g : Addr} {fd : FuncData} {ps : List Str} {fr : Fs → List PyData → Rs → Fs → Prop} (M : Mk X.K C g) (F : FnOk X.prog X.w X.K X.mg X.base (L2N.CX X.prog X.w) k g fd ps (spW X.K C fr)) (hb : L2.Binds X.K fd ps []) (hr : Room (k + 1) X.A) (hmC : X.mg cn = some (.ref C))
    (hf : fr [] [] (.ok .none) fs') (hg : Gl X cn := by rfl) (hdb : (cn == ("__debug__" : Str)) = false := by decide) :
    NW X T δ ω (.Call (.Name cn p) [] [] pos) (.ins C (imF fs')) := fun σ H rl t Q q =>
  we (pe_make0 M F hr hg hmC hb .nil passN hdb) (fun z dx nz ndx ne => make_end (T := T) rl nz ndx .nil hf fun H' st l => q z H' st l)
/-- y = a new object -/
theorem sd_new (i : Nat) {y : Str} {o : Od} {py : Pos} (he : NW X T δ ω e o) (hk : ∀ D, SD X W T ss (δ.set i (some (.ad D))) (omD ω D o) R) (hN : X.N.Nodup) (hi : X.N[i]? = some y := by rfl) (hx : Loc X.env.scope y := by first | exact Or.inl rfl | exact Or.inr rfl)
    (hs : swapsWith e (some (.Name y py)) pos.line X.env = pure false := by rfl) (hf : X.fn y = true ∨ X.env.scope.names.lookup y = some .local := by first | exact .inl rfl | exact .inr rfl | assumption) : SD X W T (.Assign [.Name y py] e pos :: ss) δ ω R :=
  sd_cons fun σ H D rl t kt => ws (ps_set hN hi hx pe_w hs hf) (he σ H rl t _ fun z H' st l => kt.nx _ _ _ H' (hk z) st (l.set (x := .ad z) (v := .ref z) rfl))
/-! ### rows of values, some of them new objects -/
def AX (X : Cx) (T : List (Addr × Str)) (δ : De) (ω : Om) (es : List Expr) (R : List Sd → Om → Prop) : Prop := ∀ σ H, Rl X.K H σ δ ω → LamX.Tabs T H → ∀ Q : List V → Hp → Prop,
  (∀ rs ω' vs H', R rs ω' → Stp T ω ω' H H' → Rl X.K H' σ δ ω' → Paired (SdV X.K (hid (ads ω') H')) rs vs → Q vs H') → wpa X es σ H Q
theorem stp_sd {H H' : Hp} {ω1 ω2 : Om} {r : Sd} {v : V} (s : Stp T ω1 ω2 H H') (h : SdV X.K (hid (ads ω1) H) r v) : SdV X.K (hid (ads ω2) H') r v := by
  cases r with
  | im d => exact dp_ke s.seen d v h
  | ad a => exact h
theorem ax_nil {Z : List Sd → Om → Prop} (h : Z [] ω) : AX X T δ ω [] Z := fun σ H rl t Q k => wa pa_nil (k [] ω [] H h .refl rl .nil)
theorem ax_pd {Z : List Sd → Om → Prop} (he : PD X δ ω e d) (hr : AX X T δ ω es (fun rs ω' => Z (.im d :: rs) ω')) (hs : starEach (e :: es) X.env = (false, eval e X.env) :: starEach es X.env := by rfl) : AX X T δ ω (e :: es) Z := fun σ H rl t Q k =>
  wa (pa_cons pe_w pa_w hs) (he σ H rl _ fun v H1 s1 d1 => hr σ H1 (rl.mono s1) (t.ext s1) _ fun rs ω' vs H2 z st l pr => k _ ω' (v :: vs) H2 z ((Stp.of s1).trans st) l (.cons (stp_sd (X := X) (r := .im d) st d1) pr))
theorem ax_nw {Z : List Sd → Om → Prop} {o : Od} (he : NW X T δ ω e o) (hr : ∀ D, AX X T δ (omD ω D o) es (fun rs ω' => Z (.ad D :: rs) ω')) (hs : starEach (e :: es) X.env = (false, eval e X.env) :: starEach es X.env := by rfl) : AX X T δ ω (e :: es) Z := fun σ H rl t Q k =>
  wa (pa_cons pe_w pa_w hs) (he σ H rl t _ fun D H1 s1 l1 => hr D σ H1 l1 (s1.tab t) _ fun rs ω' vs H2 z st l pr => k _ ω' (.ref D :: vs) H2 z (s1.trans st) l (.cons (show V.ref D = V.ref D from rfl) pr))
/-- x, y = a, b -/
theorem sd_par2 (i j : Nat) {x y : Str} {px py pt pt2 : Pos} {kt k2 : Nat} {b : Expr} (hc : X.calm = true) (hN : X.N.Nodup) (ha : AX X T δ ω [e, b] (fun rs ω' => ∃ r1 r2, rs = [r1, r2] ∧ SD X W T ss ((δ.set i (some r1)).set j (some r2)) ω' R))
    (hw : swappedStores [.Tuple [.Name x px, .Name y py] kt pt] (.Tuple [e, b] k2 pt2) X.env = pure (some [x, y])) (hij : i ≠ j := by decide) (hi : X.N[i]? = some x := by rfl) (hj : X.N[j]? = some y := by rfl) (hx : X.env.scope.names.lookup x = some .local := by rfl) (hy : X.env.scope.names.lookup y = some .local := by rfl)
    (hs : swapsWithSole [.Tuple [.Name x px, .Name y py] kt pt] (.Tuple [e, b] k2 pt2) pos.line X.env = pure false := by rfl) : SD X W T (.Assign [.Tuple [.Name x px, .Name y py] kt pt] (.Tuple [e, b] k2 pt2) pos :: ss) δ ω R :=
  sd_cons fun σ H D rl t k => ws (ps_par hc hN hi hj hij hx hy pa_w hw hs) (ha σ H rl t _ fun rs ω' vs H1 z st l pr => by
    obtain ⟨r1, r2, rfl, z⟩ := z
    cases pr with
    | cons b1 b2 =>
      cases b2 with
      | cons b3 b4 =>
        cases b4
        exact ⟨_, _, rfl, k.nx _ ω' _ H1 z st ((l.set (x := r1) b1).set (x := r2) b3)⟩)
/-- x, y, .. = a, b, .. by way of a tuple -/
def setS : De → List Nat → List Sd → De
  | δ, i :: is, d :: ds => setS (δ.set i (some d)) is ds
  | δ, _, _ => δ
theorem gAll_sd {K : PySem.W.Frag} {H : Hp} {ω : Om} {Q : L2.St → Hp → Prop} : ∀ {is : List Nat} {rs : List Sd} {vs : List V} {σ : L2.St} {δ : De}, Rl K H σ δ ω → Paired (SdV K (hid (ads ω) H)) rs vs → is.length = rs.length → (∀ σ', Rl K H σ' (setS δ is rs) ω → Q σ' H) → gAll is vs σ H Q
  | [], [], _, σ, δ, rl, .nil, _, k => ⟨rfl, k σ rl⟩
  | i :: is, d :: ds, v :: vs, σ, δ, rl, .cons h1 h2, hl, k => ⟨v, vs, rfl, gAll_sd (rl.set (x := d) h1) h2 (Nat.succ.inj hl) k⟩
theorem paired_len {α β : Type} {R : α → β → Prop} : ∀ {xs : List α} {ys : List β}, Paired R xs ys → ys.length = xs.length
  | _, _, .nil => rfl
  | _, _, .cons _ r => by rw [List.length_cons, List.length_cons, paired_len r]
theorem paired_mono {K : PySem.W.Frag} {H H' : Hp} (e : Same H H') : ∀ {xs : List Sd} {ys : List V}, Paired (SdV K H) xs ys → Paired (SdV K H') xs ys
  | _, _, .nil => .nil
  | _, _, .cons h r => .cons (sdv_mono e h) (paired_mono e r)
theorem sd_unpX (is : List Nat) {ts : List Expr} {n kk k2 : Nat} {p' pt2 : Pos} (ha : AX X T δ ω es (fun rs ω' => rs.length = n ∧ SD X W T ss (setS δ is rs) ω' R)) (hg : PG X (.Tuple ts kk p') (gTup X.K n (gAll is))) (hi : is.length = n) (hn : n ≤ 1000 := by decide)
    (hs : swapsWithSole [.Tuple ts kk p'] (.Tuple es k2 pt2) pos.line X.env = pure false := by rfl) (hw : swappedStores [.Tuple ts kk p'] (.Tuple es k2 pt2) X.env = pure none := by rfl) : SD X W T (.Assign [.Tuple ts kk p'] (.Tuple es k2 pt2) pos :: ss) δ ω R :=
  sd_cons fun σ H D rl t k => ws (ps_asg (pe_tup pa_w) hg hs hw) (ha σ H rl t _ fun rs ω' vs H1 z st l pr => by
    obtain ⟨hl, z⟩ := z
    have lv := paired_len pr
    refine ⟨Nat.le_of_lt (small1000 (by omega)), fun q hq => ?_⟩
    have sm : Same H1 (upd H1 q (.tup vs)) := same_new hq
    exact ⟨q, vs, rfl, SqT.of upd_same, by omega, gAll_sd (l.mono sm) (paired_mono (hid_same sm) pr) (by omega) fun σ' l' => k.nx _ ω' σ' _ z (st.trans (.of sm)) l'⟩)
end
end FP

namespace FP
open PySem PySem.Spec PyProof.Rows L2 HotX L2H
section
variable {X : Cx} {T : List (Addr × Str)} {δ : De} {ω : Om} {d : PyData} {pos p : Pos} {k : Nat}
theorem ye_told {ω1 : Om} {x a e n wd : Str} {st : Stmt} {Ng : List Str} {CS : Addr} {fw : Addr → PyData → Prop} {r : Rs} {p1 p2 p3 p4 p5 p6 p7 p8 p9 p10 lpos : Pos} {params : Arguments} {body : Expr} {scope : Scope} (G : Told X.K X.mg x st) (L : LamT X T) (hT : T ≠ []) (hps : ω.ps = []) (hr : Room (k + 2) X.A)
    (WK : WordOk X.prog X.w X.K X.mg X.base (k + 1) wd fw)
    (hst : defBody st = [.Try [.Return (some (.Call (.Name a p1) [] [] p2)) p3] [.ExceptHandler (some (.Name e p4)) (some n) [.Return (some (.Call (.Name wd p5) [.Name n p6] [] p7)) p8] p9] [] [] p10]) (S : FnScope Ng [a] (defScope st)) (hNd : Ng.Nodup) (hNg : Ng[0]? = some a) (hva : Vis (defScope st) a)
    (hN1 : Ng[1]? = some n) (hkn : (defScope st).names.lookup n = some .local) (hge : (defScope st).names.lookup e = some .globalImplicit) (hgw : (defScope st).names.lookup wd = some .globalImplicit) (hme : X.mg e = some (.ref CS))
    (hbn : ∀ (kV doc pm : Value) (an : Option Addr) (cdv ct : Value) (us : List Value), us.length = [a].length → bindArgs (PySem.W.fnOf x x (defArgs st) (defBody st) (defScope st) .none kV doc pm an cdv ct) ⟨us, []⟩ = pure ([a].zip us))
    (hb : ∀ (A : Around) (outer : List Env) (s : Shared) (H : Hp) (E : XK) (f c' : Addr), Room k (A.deeper (LamX.lamEnv X scope s.heap.objs.size f c')) → YR (lamN X A outer s H E scope f c') (WOf E) T δ ω body r ω1)
    (hd : ToldD X.K CS fw d r) (hL : LamX.LamS X.env.scope scope) (hdef : defaultsOf params X.env = ([], []) := by rfl) (hbind : ∀ (q : Str) (cl : List (Str × Addr)) (pm cv ctv : Value), bindArgs (PySem.W.kla_fn "<lambda>" q params body scope cl pm cv ctv) ⟨[], []⟩ = pure [] := by intros; rfl)
    (hg : Gl X x := by rfl) (hdb : (x == ("__debug__" : Str)) = false := by decide) (hd1 : (a == ("__debug__" : Str)) = false := by decide) (hcd1 : (a == ("__classdict__" : Str)) = false := by decide) (hde : (e == ("__debug__" : Str)) = false := by decide) (hdw : (wd == ("__debug__" : Str)) = false := by decide)
    (hdn : (n == ("__debug__" : Str)) = false := by decide) (hcn : (n == ("__classdict__" : Str)) = false := by decide) : YE X T δ ω (.Call (.Name x p) [.Lambda params body scope lpos] [] pos) d ω1 := fun σ H rl tb Q q => by
  obtain ⟨g, fd, F, hm⟩ := G.ex
  obtain ⟨c, P, TB, hcode, hmT, hu⟩ := L.ex
  have hbs := FunD.bindsN (ps := [a]) F hbn
  have kp := F.kp
  obtain ⟨oc, od, dV, kV, doc, pm, an, cdv, ct, osl, rfl, lk, hcd, hD, hK⟩ := F.ex
  unfold wpe
  intro pins s I
  refine wpAny_Call_Name_kw (ld_glob I hg hm ?_ hdb)
  refine PySem.W.callWith_K (h₀ := X.base) I.ok.mod.kin kp ?_ (by rfl) (by rfl)
  show wpAny _ _ (spliced ((false, eval (.Lambda params body scope lpos) X.env) :: backTo pos (starEach [] X.env))) _ _ s
  refine Calls.spliced_cons (LamX.lam_make2 I TB hcode hmT hu tb hdef (hL.has I.ok) fun f c' pm' ctv H1 s' I1 eN T1 hf hfn hfr hco => Calls.spliced_nil ⟨I1.kIn, ?_⟩)
  have rl1 : Rl X.K H1 σ δ ω := rl_ext (T := T) eN hps rl
  have st0 : Stp T ω ω H H1 := ⟨fun b o h _ p => eN b o h (p.resolve_left hT), fun a h => .inl h, rfl, fun _ => T1⟩
  have done : ∀ v H2, Stp T ω ω1 H1 H2 → Rl X.K H2 σ δ ω1 → Dp X.K (hid (ads ω1) H2) v d → Q v H2 := fun v H2 s2 l2 d2 => q v H2 (st0.trans s2) l2 d2
  refine wpAny_call (codeAny_mono (R := CR C8.CX0 X.stack X.prog X.w H1 s' Q C8.E0) (LamX.run_ofS (N := Ng) (ps := [a]) (us := [.ref f]) (vs := [.ref f]) lk hcd S hr I1.env0 (hbs s' [.ref f] I1.kIn rfl) (.cons rfl .nil) rfl fun hr' => ?_) fun rr s2 z => ?_)
  · rw [hst]
    -- the def's own context
    have tryW := L2N.ps_try_as (X := (cxOf C8.CX0 X.prog X.w X.K X.mg X.base Ng x (defScope st) g cdv X.A X.stack s' H1 C8.E0).nox) (x := e) (n := n) (c := .ref CS) (i := 1) (np := p4) (pos := p10) (pos' := p9) (b₀ := .Return (some (.Call (.Name wd p5) [.Name n p6] [] p7)) p8) (suite := [])
      (body := [.Return (some (.Call (.Name a p1) [] [] p2)) p3]) (Wout := fun _ _ _ _ => False)
      (tb := fun W D τ G => τ[0]? = some (some (.ref f)) ∧ G c' = some (LamX.CodeO c' (X.env.qual ++ "<lambda>")) ∧ ∀ (A : Around) (outer : List Env) (t : Shared), Room k (A.deeper (LamX.lamEnv X scope t.heap.objs.size f c')) → wpe (lamN X A outer t G (WE W τ) scope f c') body σ G D.rt)
      (ts := fun b cls dd D τ G => ∃ C, cls = .ref C ∧ dd = none ∧ fw C d ∧ τ[1]? = some (some (.ref b)) ∧ (∀ a ∈ ads ω1, G a ≠ none) ∧ ∀ v G', Same G G' → Dp X.K (hid (ads ω1) G') v d → D.rt v G')
      rfl rfl hNd hN1 hkn ⟨hge, hde, .inl hme⟩ takesF
      (fun W pn xe tk _ => pss_one (ps_ret (pe_lamN (X := X) (Z := ((cxOf C8.CX0 X.prog X.w X.K X.mg X.base Ng x (defScope st) g cdv X.A X.stack s' H1 C8.E0).nox).tr pn xe) rfl rfl rfl rfl rfl rfl rfl rfl rfl I1 hL hf hfn hfr (hbind _ _ _ _ _) tk hr' hNg hva hd1 hcd1)))
      (fun b oe cls dd pn hz hfd => ⟨fun pins2 s2 τ G D J h => ?_⟩)
    · refine ⟨_, (pss_one tryW).nox, ?_⟩
      refine ⟨rfl, hco, fun A outer t hr2 => ?_⟩
      refine hb A outer t H1 _ f c' hr2 σ H1 rl1 T1 Q ?_
      cases r with
      | ok d' =>
        cases hd
        exact done
      | er C =>
        intro H2 s2 l2
        exact ⟨true, hd.2, fun _ b nb => ⟨C, rfl, rfl, hd.1, by
          rw [List.getElem?_set_self]
          unfold L2.start
          have := (List.getElem?_eq_some_iff.mp hN1).1
          simp
          omega, l2.ro.there, fun v G' s3 dv => done v G' (s2.trans (.of s3)) (l2.mono s3) dv⟩, fun z => by cases z⟩
    · obtain ⟨C, rfl, rfl, hfw, h1, h2, h3⟩ := h
      obtain ⟨vs, hv⟩ := hfd
      have pw := pe_word (X := ((cxOf C8.CX0 X.prog X.w X.K X.mg X.base Ng x (defScope st) g cdv X.A X.stack s' H1 C8.E0).nox).suite b ((b, oe) :: pn)) (q := (b, oe)) (i := 1) (p5 := p5) (p6 := p6) (p7 := p7) WK ⟨(roomH_of hr').dp, (roomH_of hr').un⟩ ⟨rfl, vs, hv, hz.2.2 vs hv⟩ List.mem_cons_self hz.1 hz.2.1 hfw hgw hN1 (.inl hkn) hdw hdn hcn
      exact (pss_one (ps_ret (pos := p8) pw)).run pins2 s2 τ G D J ⟨h1, ads ω1, h2, h3⟩
  · cases rr with
    | error e => exact False.elim z
    | ok fl =>
      cases fl with
      | ret u => exact I1.after z
      | next => exact False.elim z
      | brk => exact False.elim z
      | cont => exact False.elim z
end
end FP

namespace FP
open PySem PySem.Spec PyProof.Rows L2
section
variable {X : Cx} {δ : De} {ω : Om} {a b e : Expr} {d : PyData} {ds : List PyData} {pos p : Pos} {j k : Bool}
theorem PTd.eq (h : PTd X δ ω e k) (q : k = j) : PTd X δ ω e j := q ▸ h
theorem PWd.eq (h : PWd X δ ω e k) (q : k = j) : PWd X δ ω e j := q ▸ h
/-- not a tuple -/
theorem pd_notT (h : PD X δ ω a (.tuple ds)) : PD X δ ω (.UnaryOp .Not a pos) (.bool (!!ds.isEmpty)) := fun σ H rl Q q =>
  we (pe_notT pe_w) (h σ H rl _ fun v H1 s1 d1 => by
    cases d1 with
    | tup h1 h2 =>
      refine ⟨!ds.isEmpty, ?_, q _ H1 s1 (.bl _)⟩
      refine .inr (.inl ⟨_, same_sqt hid_sub h1, ?_⟩)
      cases h2 <;> rfl)
end
section
variable {X : Cx} {W : WX} {T : List (Addr × Str)} {δ : De} {ω : Om} {pos : Pos} {R : Out → Prop} {ss : List Stmt}
theorem sd_ret0 (hR : R (.rt (.im .none) ω)) : SD X W T (.Return none pos :: ss) δ ω R :=
  sd_cons fun σ H D rl t k => ws ps_retN (k.rt _ ω .non H hR .refl rl.ro .non)
end
end FP

namespace FP
open PySem PySem.Spec PyProof.Rows L2
section
variable {X : Cx} {δ : De} {ω : Om} {a b e : Expr} {d : PyData} {ds : List PyData} {pos p : Pos} {j k : Bool} {y z : Str}
/-- a sign of a text -/
theorem pd_ixS {i : Int} {c : Nat} (ha : PD X δ ω a (.str z)) (hb : PD X δ ω b (.int i)) (hz : z.length ≤ 100000) (hi : atI z.cps.toList i = some c) (hs : PlainIx b := by exact fun _ _ => rfl) : PD X δ ω (.Subscript a b pos) (.str ⟨#[c]⟩) := fun σ H rl Q k =>
  we (pe_ix ix_str pe_w pe_w hs) (ha σ H rl _ fun x H1 s1 d1 => hb σ H1 (rl.mono s1) _ fun y H2 s2 d2 => by
    cases d1
    cases d2
    exact ⟨z, i, c, rfl, rfl, Nat.le_trans hz (by rw [sizeLine_eq]; decide), hi, k _ H2 (s1.trans s2) (.str _)⟩)
/-- a text's part -/
theorem pd_slS {lo hi : Option Expr} {i j : Option Int} {p2 : Pos} (ha : PD X δ ω a (.str z)) (hl : PO1 X δ ω lo i) (hh : PO1 X δ ω hi j) (hz : z.length ≤ 100000) : PD X δ ω (.Subscript a (.Slice lo hi none p2) pos) (.str (cutS z i j)) := fun σ H rl Q k =>
  we (pe_slice sl_str pe_w po_w po_w) (ha σ H rl _ fun v H1 s1 d1 => po_run hl σ H1 (rl.mono s1) _ fun H2 s2 => po_run hh σ H2 (rl.mono (s1.trans s2)) _ fun H3 s3 => by
    cases d1
    exact ⟨z, rfl, Nat.le_trans hz (by rw [sizeLine_eq]; decide), k _ H3 ((s1.trans s2).trans s3) (.str _)⟩)
theorem join_ones : ∀ cs : List Nat, Str.join (Str.ofString "") (cs.map fun c => (⟨#[c]⟩ : Str)) = ⟨cs.toArray⟩
  | [] => rfl
  | [c] => rfl
  | c :: e :: r => by
    have ih := join_ones (e :: r)
    show (⟨#[c]⟩ : Str) ++ Str.ofString "" ++ Str.join (Str.ofString "") ((e :: r).map fun c => (⟨#[c]⟩ : Str)) = _
    rw [ih]
    refine TL.ext_tl ?_
    rw [TL.tl_append, TL.tl_append]
    have e0 : TL.tl (Str.ofString "") = [] := by decide +kernel
    rw [e0]
    show [c] ++ [] ++ ((e :: r).toArray).toList = ((c :: e :: r).toArray).toList
    simp
theorem glued_ones (cs : List Nat) : Txt.join (Str.ofString "") (cs.map fun c => (⟨#[c]⟩ : Str)) = ⟨cs.toArray⟩ := by
  rw [TL.join_eq, join_ones]
end
end FP

namespace FP
open PySem PySem.Spec PyProof.Rows L2
/-! ### range with a step -/
def rangeS (lo c : Int) (n : Nat) : List PyData := (List.range n).map fun (i : Nat) => .int (lo + (i : Int) * c)
theorem rangeS_len (lo c : Int) (n : Nat) : (rangeS lo c n).length = n := by
  unfold rangeS
  rw [List.length_map, List.length_range]
theorem rangeS_get {lo c : Int} {n i : Nat} (h : i < n) : (rangeS lo c n)[i]? = some (.int (lo + (i : Int) * c)) := by
  unfold rangeS
  rw [List.getElem?_map, List.getElem?_range h]
  rfl
section
variable {X : Cx} {δ : De} {ω : Om} {a b e tg : Expr} {d : PyData} {ds : List PyData} {pos p : Pos} {j k : Bool} {y z : Str}
theorem wk_range3 {i j c : Int} {n : Nat} (hm : X.mg "range" = none) (ha : PDs X δ ω [a, b, e] [.int i, .int j, .int c]) (h : RgC i j c n) (hg : Gl X "range" := by rfl)
    (hs : starEach [a, b, e] X.env = (false, eval a X.env) :: starEach [b, e] X.env := by rfl) (hpl : (backTo pos (starEach [b, e] X.env)).any (·.1) = false := by rfl) :
    PWk X δ ω tg (.Call (.Name "range" p) [a, b, e] [] pos) (rangeS i c n) := by
  refine ⟨_, pi_range3 hg hm pa_w hs hpl, fun σ H rl R k => ha σ H rl _ fun vs H1 s1 d1 => ?_⟩
  cases d1 with
  | cons x1 d1 =>
    cases d1 with
    | cons x2 d1 =>
      cases d1 with
      | cons x3 d1 =>
        cases d1
        cases x1
        cases x2
        cases x3
        refine ⟨i, j, c, n, rfl, h, k _ H1 s1 fun T H2 g => ⟨fun m hm => ?_, ?_, fun m y H3 hm w => ?_⟩⟩
        · rw [rangeS_len] at hm
          exact hm
        · show n ≤ (rangeS i c n).length
          rw [rangeS_len]
          exact Nat.le_refl _
        · obtain ⟨e1, e2⟩ := w
          subst e2
          rw [rangeS_len] at hm
          exact ⟨e1, _, rangeS_get hm, .int _⟩
theorem rgC_pos {n w q r : Nat} (e : q * w + r = n) (r1 : 1 ≤ r) (rw1 : r ≤ w) (hw : w ≤ 100000) (hn : n ≤ 100000) : RgC 0 (n : Int) (w : Int) (q + 1) := by
  have es : Builtin.Range.rangeSize 0 (n : Int) (w : Int) = ((q + 1 : Nat) : Int) := by
    unfold Builtin.Range.rangeSize
    rw [if_pos (by omega), if_pos (by omega)]
    have e2 : ((n : Int) - 0 - 1) = (r - 1 : Int) + (w : Int) * (q : Int) := by
      rw [← e]
      rw [Int.natCast_add, Int.natCast_mul, Int.mul_comm]
      omega
    rw [e2, Int.add_mul_ediv_left _ _ (by omega), Int.ediv_eq_zero_of_lt (by omega) (by omega)]
    omega
  refine ⟨by omega, by omega, ?_, es⟩
  unfold Builtin.Range.small
  rw [es]
  have hq : q ≤ n := by
    rw [← e]
    have : q * 1 ≤ q * w := Nat.mul_le_mul_left q (by omega)
    omega
  simp only [Builtin.Range.rangeFitsLong, Bool.and_eq_true, Bool.or_eq_true, decide_eq_true_eq, beq_iff_eq]
  refine ⟨⟨⟨⟨by omega, by omega⟩, by omega⟩, by omega⟩, .inr ?_⟩
  rw [if_pos (show (w : Int) > 0 by omega)]
  simp only [Bool.and_eq_true, decide_eq_true_eq]
  omega
theorem PN.eq {dt : List PyData} (h : PN X δ ω e ds) (q : ds = dt) : PN X δ ω e dt := q ▸ h
/-- the last one -/
theorem atI_last {α : Type} {xs : List α} {x : α} : atI (xs ++ [x]) (-1) = some x := by
  unfold atI ixN
  rw [if_neg (by decide), if_pos (by simp; omega)]
  show (xs ++ [x])[(-1 + ((xs ++ [x]).length : Int)).toNat]? = some x
  have e : (-1 + ((xs ++ [x]).length : Int)).toNat = xs.length := by
    simp
    omega
  rw [e]
  simp
end
end FP

namespace FP
open PySem PySem.Spec PyProof.Rows L2
/-! ### defs that are handed objects of one's own -/
abbrev Os := List (Addr × Od)
inductive Rg where
  | ok (r : Sd)
  | er (C : Addr)
abbrev FrG := Os → List Sd → (Rg → Os → Prop) → Prop
def RgQ (K : PySem.W.Frag) (ps : List Addr) (os' : Os) (H' : Hp) (Q : VK) (E : XK) : Rg → Prop
  | .ok r => ∀ v, SdV K (hid (ads ⟨ps, os'⟩) H') r v → Q v H'
  | .er Z => E (.ref Z) none H'
def spG (K : PySem.W.Frag) (fr : FrG) : Sp := fun vs H Q E => ∃ (ps : List Addr) (os : Os) (as : List Sd) (R : Rg → Os → Prop), Ro K H ⟨ps, os⟩ ∧ Paired (SdV K (hid (ads ⟨ps, os⟩) H)) as vs ∧ fr os as R ∧
  ∀ r os' H', R r os' → (∀ b o, H b = some o → b ∉ os.map (·.1) → H' b = some o) → (∀ a ∈ os'.map (·.1), a ∈ os.map (·.1) ∨ H a = none) → Ro K H' ⟨ps, os'⟩ → RgQ K ps os' H' Q E r
structure GOk (P : Program) (w : World) (K : PySem.W.Frag) (mg : Str → Option Value) (base : Heap) (k : Nat) (x : Str) (fr : FrG) : Prop where
  ex : ∃ f fd ps, FnOk P w K mg base (L2N.CX P w) k f fd ps (spG K fr) ∧ mg x = some (.ref f) ∧ PySem.W.keepIn K (.ref f) = true ∧ L2.Binds K fd ps []
/-- a method -/
structure GMOk (P : Program) (w : World) (K : PySem.W.Frag) (mg : Str → Option Value) (base : Heap) (k : Nat) (C : Addr) (m : Str) (fr : FrG) : Prop where
  ex : ∃ f fd ps, FnOk P w K mg base (L2N.CX P w) k f fd ps (spG K fr) ∧ Meth K C m f ∧ L2.Binds K fd ps []
theorem GOk.mono {P : Program} {w : World} {K : PySem.W.Frag} {mg : Str → Option Value} {base : Heap} {j k : Nat} {x : Str} {fr : FrG} (G : GOk P w K mg base j x fr) (h : j ≤ k) : GOk P w K mg base k x fr := by
  obtain ⟨f, fd, ps, F, m, kp, b⟩ := G.ex
  exact ⟨f, fd, ps, F.mono h, m, kp, b⟩
theorem GMOk.mono {P : Program} {w : World} {K : PySem.W.Frag} {mg : Str → Option Value} {base : Heap} {j k : Nat} {C : Addr} {m : Str} {fr : FrG} (G : GMOk P w K mg base j C m fr) (h : j ≤ k) : GMOk P w K mg base k C m fr := by
  obtain ⟨f, fd, ps, F, m, b⟩ := G.ex
  exact ⟨f, fd, ps, F.mono h, m, b⟩
def startG (N : List Str) (as : List Sd) : De := as.map some ++ List.replicate (N.length - as.length) none
theorem paired_get {α β : Type} {R : α → β → Prop} : ∀ {xs : List α} {ys : List β} {i : Nat} {x : α}, Paired R xs ys → xs[i]? = some x → ∃ y, ys[i]? = some y ∧ R x y
  | _, _, _, _, .nil, h => by simp at h
  | _, _, 0, _, .cons a r, h => by
    simp at h
    subst h
    exact ⟨_, rfl, a⟩
  | _, _, i + 1, x, .cons a r, h => by
    obtain ⟨y, h1, h2⟩ := paired_get (i := i) (x := x) r (by simpa using h)
    exact ⟨y, by simpa using h1, h2⟩
theorem startG_rl {K : PySem.W.Frag} {H : Hp} {ω : Om} {N : List Str} {as : List Sd} {vs : List V} (ro : Ro K H ω) (h : Paired (SdV K (hid (ads ω) H)) as vs) : Rl K H (L2.start N vs) (startG N as) ω := by
  have hl := paired_len h
  refine ⟨?_, fun i r hi => ?_, ro⟩
  · unfold L2.start startG
    rw [List.length_append, List.length_append, List.length_map, List.length_map, List.length_replicate, List.length_replicate, hl]
  · unfold startG at hi
    by_cases hlt : i < as.length
    · rw [List.getElem?_append_left (by rw [List.length_map]; exact hlt), List.getElem?_map, List.getElem?_eq_getElem hlt] at hi
      cases hi
      obtain ⟨v, h1, h2⟩ := paired_get h (List.getElem?_eq_getElem hlt)
      refine ⟨v, ?_, h2⟩
      unfold L2.start
      rw [List.getElem?_append_left (by rw [List.length_map, hl]; exact hlt), List.getElem?_map, h1]
      rfl
    · rw [List.getElem?_append_right (by rw [List.length_map]; omega)] at hi
      obtain ⟨h1, h2⟩ := List.getElem?_eq_some_iff.mp hi
      rw [List.getElem_replicate] at h2
      cases h2
/-- how such a def may end -/
def FinG (R : Rg → Os → Prop) : Out → Prop
  | .rt r ω => R (.ok r) ω.os
  | .nx _ ω => R (.ok (.im .none)) ω.os
  | .ex Z ω => R (.er Z) ω.os
  | _ => False
section
variable {P : Program} {w : World} {K : PySem.W.Frag} {mg : Str → Option Value} {base : Heap} {x qual : Str} {params : Arguments} {body : List Stmt} {scope : Scope} {kws : List (Str × V)} {f C : Addr} {fd : FuncData} {N ps : List Str} {k : Nat} {fr : FrG}
theorem g_run (F : FunD K x qual params body scope [] kws f fd) (S : FnScope N ps scope)
    (len : ∀ os as R, fr os as R → as.length = ps.length)
    (hbody : ∀ (cdv : Value) (A : Around) (outer : List Env) (s : Shared) (H : Hp) (E : XK) (qs : List Addr) (os : Os) (as : List Sd) (R : Rg → Os → Prop), Room k (A.deeper (envOfC qual scope s.heap.objs.size f cdv)) → fr os as R →
      SD (cxOf (L2N.CX P w) P w K mg base N qual scope f cdv A outer s H E) (WOf E) [] body (startG N as) ⟨qs, os⟩ (FinG R)) : FnOk P w K mg base (L2N.CX P w) (k + 1) f fd ps (spG K fr) := by
  refine F.ok S (fun vs H Q E h => ?_) (fun cdv A outer s H vs Q E hr h => ?_)
  · obtain ⟨qs, os, as, R, h1, h2, h3, _⟩ := h
    rw [paired_len h2]
    exact len os as R h3
  · obtain ⟨qs, os, as, R, h1, h2, h3, h4⟩ := h
    refine ⟨_, pss_w, hbody cdv A outer s H E qs os as R hr h3 _ _ _ (startG_rl h1 h2) (fun _ z => nomatch z) ?_⟩
    have kept : ∀ {ω' : Om} {H' : Hp}, Stp [] ⟨qs, os⟩ ω' H H' → ∀ b o, H b = some o → b ∉ os.map (·.1) → H' b = some o := fun {ω' H'} st b o e nb => st.keep b o e nb (.inl rfl)
    have newA : ∀ {ω' : Om} {H' : Hp}, Stp [] ⟨qs, os⟩ ω' H H' → ∀ a ∈ ω'.os.map (·.1), a ∈ os.map (·.1) ∨ H a = none := fun {ω' H'} st a ha => by
      rcases st.new a ha with q | q
      · exact .inl q
      · cases e : H a with
        | none => exact .inr rfl
        | some o => exact absurd (.inl rfl) (q o e)
    have eqo : ∀ {ω' : Om} {H' : Hp}, Stp [] ⟨qs, os⟩ ω' H H' → (⟨qs, ω'.os⟩ : Om) = ω' := fun {ω' H'} st => by
      obtain ⟨a, b⟩ := ω'
      have := st.ps
      simp only at this
      subst this
      rfl
    refine ⟨fun δ' ω' σ' H' z st l => ?_, fun r' ω' v H' z st l dv => ?_, fun Z ω' σ' H' z st l => ?_, fun _ _ _ _ z => False.elim z, fun _ _ _ _ z => False.elim z⟩
    · exact h4 _ _ H' z (kept st) (newA st) (by rw [eqo st]; exact l.ro) .non .non
    · exact h4 _ _ H' z (kept st) (newA st) (by rw [eqo st]; exact l) v (by rw [eqo st]; exact dv)
    · exact h4 _ _ H' z (kept st) (newA st) (by rw [eqo st]; exact l)
theorem g_ok (F : FunD K x qual params body scope [] kws f fd) (hm : mg x = some (.ref f)) (S : FnScope N ps scope) (hb : ∀ (kV doc pm : Value) (an : Option Addr) (cdv ct : Value) (us : List Value), us.length = ps.length → bindArgs (PySem.W.fnOf x qual params body scope .none kV doc pm an cdv ct) ⟨us, []⟩ = pure (ps.zip us))
    (len : ∀ os as R, fr os as R → as.length = ps.length)
    (hbody : ∀ (cdv : Value) (A : Around) (outer : List Env) (s : Shared) (H : Hp) (E : XK) (qs : List Addr) (os : Os) (as : List Sd) (R : Rg → Os → Prop), Room k (A.deeper (envOfC qual scope s.heap.objs.size f cdv)) → fr os as R →
      SD (cxOf (L2N.CX P w) P w K mg base N qual scope f cdv A outer s H E) (WOf E) [] body (startG N as) ⟨qs, os⟩ (FinG R)) : GOk P w K mg base (k + 1) x fr := ⟨f, fd, ps, g_run F S len hbody, hm, F.kp, F.bindsN hb⟩
theorem gm_ok (F : FunD K x qual params body scope [] kws f fd) (hm : Meth K C x f) (S : FnScope N ps scope) (hb : ∀ (kV doc pm : Value) (an : Option Addr) (cdv ct : Value) (us : List Value), us.length = ps.length → bindArgs (PySem.W.fnOf x qual params body scope .none kV doc pm an cdv ct) ⟨us, []⟩ = pure (ps.zip us))
    (len : ∀ os as R, fr os as R → as.length = ps.length)
    (hbody : ∀ (cdv : Value) (A : Around) (outer : List Env) (s : Shared) (H : Hp) (E : XK) (qs : List Addr) (os : Os) (as : List Sd) (R : Rg → Os → Prop), Room k (A.deeper (envOfC qual scope s.heap.objs.size f cdv)) → fr os as R →
      SD (cxOf (L2N.CX P w) P w K mg base N qual scope f cdv A outer s H E) (WOf E) [] body (startG N as) ⟨qs, os⟩ (FinG R)) : GMOk P w K mg base (k + 1) C x fr := ⟨f, fd, ps, g_run F S len hbody, hm, F.bindsN hb⟩
end
/-! ### what is handed over -/
def PS1 (X : Cx) (δ : De) (ω : Om) (e : Expr) (r : Sd) : Prop := ∀ σ H, Rl X.K H σ δ ω → ∀ Q : VK, (∀ v H', Same H H' → SdV X.K (hid (ads ω) H') r v → Q v H') → wpe X e σ H Q
def PSs (X : Cx) (δ : De) (ω : Om) (es : List Expr) (rs : List Sd) : Prop := ∀ σ H, Rl X.K H σ δ ω → ∀ Q : List V → Hp → Prop, (∀ vs H', Same H H' → Paired (SdV X.K (hid (ads ω) H')) rs vs → Q vs H') → wpa X es σ H Q
section
variable {X : Cx} {W : WX} {T : List (Addr × Str)} {δ : De} {ω : Om} {e : Expr} {es : List Expr} {d : PyData} {r : Sd} {rs : List Sd} {pos p p1 apos : Pos} {R : Out → Prop} {ss : List Stmt} {a C : Addr} {x m : Str} {k : Nat} {fr : FrG}
theorem PD.ps1 (h : PD X δ ω e d) : PS1 X δ ω e (.im d) := h
theorem ps1_var (i : Nat) {a : Addr} (hd : δ[i]? = some (some (.ad a)) := by rfl) (hN : X.N[i]? = some x := by rfl) (hv : Vis X.env.scope x := by first | exact Or.inl rfl | exact Or.inr (Or.inl rfl) | exact Or.inr (Or.inr rfl))
    (h1 : (x == ("__debug__" : Str)) = false := by decide) (h2 : (x == ("__classdict__" : Str)) = false := by decide) : PS1 X δ ω (.Name x pos) (.ad a) := fun σ H rl Q k => by
  obtain ⟨v, e1, e2⟩ := rl.sl i _ hd
  exact we (pe_var hN hv h1 h2) ⟨v, e1, k v H (Same.refl H) e2⟩
theorem pss1_nil : PSs X δ ω [] [] := fun σ H _ Q k => wa pa_nil (k [] H (Same.refl H) .nil)
theorem pss1_cons (ha : PS1 X δ ω e r) (hr : PSs X δ ω es rs) (hs : starEach (e :: es) X.env = (false, eval e X.env) :: starEach es X.env := by rfl) : PSs X δ ω (e :: es) (r :: rs) := fun σ H rl Q k =>
  wa (pa_cons pe_w pa_w hs) (ha σ H rl _ fun v H1 s1 d1 => hr σ H1 (rl.mono s1) _ fun vs H2 s2 d2 => k (v :: vs) H2 (s1.trans s2) (.cons (sdv_mono (hid_same s2) d1) d2))
/-- the rest is kept aside -/
theorem ads_part {ps : List Addr} {os rest : Os} {H : Hp} : hid (ads ⟨ps ++ rest.map (·.1), os⟩) H = hid (ads ⟨ps, os ++ rest⟩) H := by
  funext b
  unfold hid
  have e : b ∈ ads ⟨ps ++ rest.map (·.1), os⟩ ↔ b ∈ ads ⟨ps, os ++ rest⟩ := by
    show b ∈ (ps ++ rest.map (·.1)) ++ os.map (·.1) ↔ b ∈ ps ++ (os ++ rest).map (·.1)
    simp only [List.map_append, List.mem_append]
    constructor
    · rintro ((h | h) | h)
      · exact .inl h
      · exact .inr (.inr h)
      · exact .inr (.inl h)
    · rintro (h | h | h)
      · exact .inl (.inl h)
      · exact .inr h
      · exact .inl (.inr h)
  by_cases h : b ∈ ads ⟨ps ++ rest.map (·.1), os⟩
  · rw [if_pos h, if_pos (e.mp h)]
  · rw [if_neg h, if_neg (fun z => h (e.mpr z))]
theorem ro_part {K : PySem.W.Frag} {H : Hp} {ps : List Addr} {os rest : Os} (ro : Ro K H ⟨ps, os ++ rest⟩) : Ro K H ⟨ps ++ rest.map (·.1), os⟩ := by
  refine ⟨fun a o h => ?_, ?_, fun a h => ?_⟩
  · rw [ads_part]
    exact ro.ob a o (List.mem_append_left _ h)
  · have nd : ((os ++ rest).map (·.1)).Nodup := ro.nd
    rw [List.map_append] at nd
    exact (List.nodup_append.mp nd).1
  · rcases List.mem_append.mp h with h | h
    · exact ro.th a h
    · obtain ⟨q, hq, rfl⟩ := List.mem_map.mp h
      exact odv_some (ro.ob q.1 q.2 (List.mem_append_right _ hq))
theorem callG_end {H : Hp} {σ : L2.St} {vs : List V} {Q : VK} {Rr : Rg → Os → Prop} {ps : List Addr} {os rest : Os} (rl : Rl X.K H σ δ ⟨ps, os ++ rest⟩) (d1 : Paired (SdV X.K (hid (ads ⟨ps, os ++ rest⟩) H)) rs vs) (hf : fr os rs Rr)
    (hk : ∀ r os' H', Rr r os' → Stp T ⟨ps, os ++ rest⟩ ⟨ps, os' ++ rest⟩ H H' → Rl X.K H' σ δ ⟨ps, os' ++ rest⟩ → match r with | .ok r => ∀ v, SdV X.K (hid (ads ⟨ps, os' ++ rest⟩) H') r v → Q v H' | .er Z => W (.ref Z) none σ H') : spG X.K fr vs H Q (WE W σ) := by
  refine ⟨ps ++ rest.map (·.1), os, rs, Rr, ro_part rl.ro, ?_, hf, fun r os' H' hR kept new ro' => ?_⟩
  · rw [ads_part]
    exact d1
  · have nd : (os.map (·.1) ++ rest.map (·.1)).Nodup := by
      have z : ((os ++ rest).map (·.1)).Nodup := rl.ro.nd
      rw [List.map_append] at z
      exact z
    have dis : ∀ b, b ∈ rest.map (·.1) → b ∉ os.map (·.1) := fun b hb hz => (List.nodup_append.mp nd).2.2 b hz b hb rfl
    have seen : Same (hid (ads ⟨ps, os ++ rest⟩) H) (hid (ads ⟨ps, os' ++ rest⟩) H') := fun b o h => by
      obtain ⟨n, e⟩ := hid_out h
      have nos : b ∉ os.map (·.1) := fun z => n (List.mem_append_right _ (by rw [List.map_append]; exact List.mem_append_left _ z))
      refine hid_of (fun z => ?_) (kept b o e nos)
      rcases List.mem_append.mp z with z | z
      · exact n (List.mem_append_left _ z)
      · have z : b ∈ (os' ++ rest).map (·.1) := z
        rw [List.map_append] at z
        rcases List.mem_append.mp z with z | z
        · rcases new b z with q | q
          · exact nos q
          · rw [q] at e
            cases e
        · exact n (List.mem_append_right _ (by rw [List.map_append]; exact List.mem_append_right _ z))
    have noT : ∀ b u, b ∈ os.map (·.1) → H b = some u → (∀ ps, u ≠ .tbl ps) ∧ ∀ c q, u ≠ LamX.CodeO c q := fun b u hb hu => by
      obtain ⟨q, hq, rfl⟩ := List.mem_map.mp hb
      obtain ⟨u', e', n1, n2⟩ := odv_at (rl.ro.ob q.1 q.2 (List.mem_append_left _ hq))
      rw [e'] at hu
      cases hu
      exact ⟨n1, n2⟩
    have st : Stp T ⟨ps, os ++ rest⟩ ⟨ps, os' ++ rest⟩ H H' := by
      refine ⟨fun b o e n _ => kept b o e (fun z => n (by show b ∈ (os ++ rest).map (·.1); rw [List.map_append]; exact List.mem_append_left _ z)), fun a ha => ?_, rfl, fun t => ?_⟩
      · have ha : a ∈ (os' ++ rest).map (·.1) := ha
        rw [List.map_append] at ha
        rcases List.mem_append.mp ha with z | z
        · rcases new a z with q | q
          · exact .inl (by show a ∈ (os ++ rest).map (·.1); rw [List.map_append]; exact List.mem_append_left _ q)
          · exact .inr fun o ho => by
              rw [q] at ho
              cases ho
        · exact .inl (by show a ∈ (os ++ rest).map (·.1); rw [List.map_append]; exact List.mem_append_right _ z)
      · intro q hq
        obtain ⟨qs, a1, a2, a3⟩ := t q hq
        refine ⟨qs, kept _ _ a1 (fun z => (noT _ _ z a1).1 qs rfl), a2, fun p' cv hc => ?_⟩
        obtain ⟨c0, b1, b2⟩ := a3 p' cv hc
        exact ⟨c0, b1, kept _ _ b2 (fun z => (noT _ _ z b2).2 _ _ rfl)⟩
    have l3 : Rl X.K H' σ δ ⟨ps, os' ++ rest⟩ := by
      refine ⟨rl.len, fun i r h => ?_, fun a o h => ?_, ?_, fun a ha => ?_⟩
      · obtain ⟨v, h1, h2⟩ := rl.sl i r h
        exact ⟨v, h1, sdv_mono seen h2⟩
      · rcases List.mem_append.mp (show (a, o) ∈ os' ++ rest from h) with q | q
        · have g := ro'.ob a o q
          rw [ads_part] at g
          exact g
        · have na : a ∉ os.map (·.1) := dis a (List.mem_map.mpr ⟨_, q, rfl⟩)
          exact odv_keep (fun w => sdv_mono seen w) (fun u _ g1 => kept a u g1 na) (rl.ro.ob a o (List.mem_append_right _ q))
      · show ((os' ++ rest).map (·.1)).Nodup
        rw [List.map_append]
        refine List.nodup_append.mpr ⟨ro'.nd, (List.nodup_append.mp nd).2.1, fun b hb c hc e => ?_⟩
        subst e
        rcases new b hb with q | q
        · exact dis b hc q
        · obtain ⟨z, hz, rfl⟩ := List.mem_map.mp hc
          exact odv_some (rl.ro.ob z.1 z.2 (List.mem_append_right _ hz)) q
      · exact ro'.th a (List.mem_append_left _ ha)
    have fin := hk r os' H' hR st l3
    cases r with
    | ok r =>
      intro v hv
      rw [ads_part] at hv
      exact fin v hv
    | er Z => exact fin
/-- x(..), a def -/
theorem ex_callG {Rr : Rg → Os → Prop} {ps : List Addr} (os rest : Os) (G : GOk X.prog X.w X.K X.mg X.base k x fr) (hr : Room k X.A) (tk : L2N.Takes X W) (ha : PSs X δ ⟨ps, os ++ rest⟩ (e :: es) rs) (hf : fr os rs Rr)
    (hR : ∀ r os', Rr r os' → match r with | .ok r => R (.rt r ⟨ps, os' ++ rest⟩) | .er Z => R (.ex Z ⟨ps, os' ++ rest⟩)) (hg : Gl X x := by rfl)
    (hdb : (x == ("__debug__" : Str)) = false := by decide) (he : starEach (e :: es) X.env = (false, eval e X.env) :: starEach es X.env := by rfl) (hpl : (backTo pos (starEach es X.env)).any (·.1) = false := by rfl) : EX X W T (.Call (.Name x p) (e :: es) [] pos) δ ⟨ps, os ++ rest⟩ R := fun σ H rl t Q q q2 => by
  obtain ⟨f, fd, pn, F, m, kp, b⟩ := G.ex
  refine we (pe_callS (E := WE W) F hr hg m kp b (fun σ => L2N.passAt tk σ) pa_w hdb he hpl) (ha σ H rl _ fun vs H1 s1 d1 => ?_)
  refine callG_end (T := T) (rl.mono s1) d1 hf fun r os' H' hr st l => ?_
  have z := hR r os' hr
  cases r with
  | ok r => exact fun v hv => q r _ v H' z ((Stp.of s1).trans st) l hv
  | er Z => exact q2 Z _ σ H' z ((Stp.of s1).trans st) l.ro
/-- y.m(..), a method -/
theorem ex_methG (i : Nat) {Rr : Rg → Os → Prop} {ps : List Addr} {fs : List (Str × Sd)} (os rest : Os) (G : GMOk X.prog X.w X.K X.mg X.base k C m fr) (hr : Room k X.A) (tk : L2N.Takes X W) (Cl : Cls X.K C) (hm : (a, Od.ins C fs) ∈ os ++ rest) (hl : (fs.map (·.1)).contains m = false) (ha : PSs X δ ⟨ps, os ++ rest⟩ (e :: es) rs) (hf : fr os (.ad a :: rs) Rr)
    (hR : ∀ r os', Rr r os' → match r with | .ok r => R (.rt r ⟨ps, os' ++ rest⟩) | .er Z => R (.ex Z ⟨ps, os' ++ rest⟩)) (hd : δ[i]? = some (some (.ad a)) := by rfl) (hN : X.N[i]? = some x := by rfl)
    (hv : Vis X.env.scope x := by first | exact Or.inl rfl | exact Or.inr (Or.inl rfl) | exact Or.inr (Or.inr rfl)) (h1 : (x == ("__debug__" : Str)) = false := by decide) (h2 : (x == ("__classdict__" : Str)) = false := by decide) {pl : Sem Bool}
    (hst : starEach (e :: es) X.env = (false, eval e X.env) :: starEach es X.env := by rfl) (hpl : (backTo pos (starEach es X.env)).any (·.1) = false := by rfl)
    (ht : MthAs X (.Name x p1) m apos pos (e :: es) pl := by rfl) : EX X W T (.Call (.Attribute (.Name x p1) m apos) (e :: es) [] pos) δ ⟨ps, os ++ rest⟩ R := fun σ H rl t Q q q2 => by
  obtain ⟨f, fd, pn, F, M, b⟩ := G.ex
  obtain ⟨v, e1, e2⟩ := rl.sl i _ hd
  have e2 : v = .ref a := e2
  subst e2
  obtain ⟨dx, us, g1, g2⟩ := rl.ro.ob a _ hm
  have nl : us.lookup m = none := by
    clear g1 hm
    induction g2 with
    | nil => rfl
    | cons w r ih =>
      rename_i pq qv xs ys
      obtain ⟨n1, s1⟩ := pq
      obtain ⟨n2, v2⟩ := qv
      obtain ⟨w1, _⟩ := w
      simp only at w1
      subst w1
      simp only [List.map_cons, List.contains_cons, Bool.or_eq_false_iff] at hl
      rw [List.lookup_cons, hl.1]
      exact ih hl.2
  refine we (pe_mthS (pl := pl) (E := WE W) (pe_var hN hv h1 h2) Cl M F hr b (fun σ => L2N.passAt tk σ) pa_w hst hpl ht) ⟨_, e1, a, dx, us, rfl, g1, nl, ha σ H rl _ fun vs H1 s1 d1 => ?_⟩
  refine callG_end (T := T) (rs := .ad a :: rs) (rl.mono s1) (.cons rfl d1) hf fun r os' H' hr st l => ?_
  have z := hR r os' hr
  cases r with
  | ok r => exact fun v hv => q r _ v H' z ((Stp.of s1).trans st) l hv
  | er Z => exact q2 Z _ σ H' z ((Stp.of s1).trans st) l.ro
/-- another order of what is one's own -/
theorem sd_perm {ps : List Addr} {os os' : Os} (hp : os.Perm os') (h : SD X W T ss δ ⟨ps, os'⟩ R) : SD X W T ss δ ⟨ps, os⟩ R := fun σ H D rl t k => by
  have hm : ∀ q, q ∈ os ↔ q ∈ os' := fun q => hp.mem_iff
  have hma : ∀ b, b ∈ os.map (·.1) ↔ b ∈ os'.map (·.1) := fun b => (hp.map _).mem_iff
  have hh : hid (ads ⟨ps, os⟩) H = hid (ads ⟨ps, os'⟩) H := by
    funext b
    unfold hid
    have e : b ∈ ads ⟨ps, os⟩ ↔ b ∈ ads ⟨ps, os'⟩ := by
      show b ∈ ps ++ os.map (·.1) ↔ b ∈ ps ++ os'.map (·.1)
      rw [List.mem_append, List.mem_append, hma]
    by_cases h : b ∈ ads ⟨ps, os⟩
    · rw [if_pos h, if_pos (e.mp h)]
    · rw [if_neg h, if_neg (fun z => h (e.mpr z))]
  refine h σ H D ⟨rl.len, fun i r hi => ?_, fun z o hz => ?_, ?_, rl.ro.th⟩ t (k.step ⟨fun b o e _ _ => e, fun a ha => .inl ((hma a).mpr ha), rfl, fun t => t⟩)
  · obtain ⟨v, h1, h2⟩ := rl.sl i r hi
    rw [hh] at h2
    exact ⟨v, h1, h2⟩
  · have g := rl.ro.ob z o ((hm _).mpr hz)
    rw [hh] at g
    exact g
  · exact (hp.map _).nodup rl.ro.nd
end
end FP

namespace FP
open PySem PySem.Spec PyProof.Rows L2
/-! ### dicts of one's own -/
def valS (kvs : List (Key × Sd)) (k : Key) : Option Sd := (kvs.find? fun kv => decide (kv.1 = k)).map (·.2)
def putS (kvs : List (Key × Sd)) (k : Key) (r : Sd) : List (Key × Sd) := if (kvs.any fun kv => decide (kv.1 = k)) = true then kvs.map (fun kv => if kv.1 = k then (kv.1, r) else kv) else kvs ++ [(k, r)]
abbrev KvP (K : PySem.W.Frag) (H : Hp) : List (Key × Sd) → List (Key × V) → Prop := Paired (fun (p : Key × Sd) (q : Key × V) => p.1 = q.1 ∧ SdV K H p.2 q.2)
section
variable {K : PySem.W.Frag} {H H' : Hp}
theorem kvp_get : ∀ {kvs : List (Key × Sd)} {vs : List (Key × V)} {k : Key} {r : Sd}, KvP K H kvs vs → valS kvs k = some r → ∃ v, valV vs k = some v ∧ SdV K H r v
  | _, _, _, _, .nil, h => by cases h
  | (k1, r1) :: kvs, (k2, v2) :: vs, k, r, .cons a b, h => by
    obtain ⟨e, a⟩ := a
    simp only at e
    subst e
    unfold valS at h
    rw [List.find?_cons] at h
    by_cases c : k1 = k
    · simp only [c, decide_true] at h
      cases h
      exact ⟨v2, valV_pos c, a⟩
    · simp only [c, decide_false] at h
      obtain ⟨v, h1, h2⟩ := kvp_get (kvs := kvs) (k := k) (r := r) b h
      exact ⟨v, by rw [valV_neg c]; exact h1, h2⟩
theorem kvp_any : ∀ {kvs : List (Key × Sd)} {vs : List (Key × V)} {k : Key}, KvP K H kvs vs → (kvs.any fun kv => decide (kv.1 = k)) = (vs.any fun kv => decide (kv.1 = k))
  | _, _, _, .nil => rfl
  | (k1, r1) :: kvs, (k2, v2) :: vs, k, .cons a b => by
    obtain ⟨e, _⟩ := a
    simp only at e
    subst e
    rw [List.any_cons, List.any_cons, kvp_any b]
theorem kvp_map {r : Sd} {v : V} {k : Key} (hr : SdV K H r v) : ∀ {kvs : List (Key × Sd)} {vs : List (Key × V)}, KvP K H kvs vs → KvP K H (kvs.map (fun kv => if kv.1 = k then (kv.1, r) else kv)) (vs.map (fun kv => if kv.1 = k then (kv.1, v) else kv))
  | _, _, .nil => .nil
  | (k1, r1) :: kvs, (k2, v2) :: vs, .cons a b => by
    obtain ⟨e, a⟩ := a
    simp only at e
    subst e
    refine .cons ?_ (kvp_map hr b)
    show (if k1 = k then (k1, r) else (k1, r1)).1 = (if k1 = k then (k1, v) else (k1, v2)).1 ∧ SdV K H (if k1 = k then (k1, r) else (k1, r1)).2 (if k1 = k then (k1, v) else (k1, v2)).2
    by_cases c : k1 = k
    · rw [if_pos c, if_pos c]
      exact ⟨rfl, hr⟩
    · rw [if_neg c, if_neg c]
      exact ⟨rfl, a⟩
theorem paired_snoc {α β : Type} {R : α → β → Prop} {x : α} {y : β} (h : R x y) : ∀ {xs : List α} {ys : List β}, Paired R xs ys → Paired R (xs ++ [x]) (ys ++ [y])
  | _, _, .nil => .cons h .nil
  | _, _, .cons a b => .cons a (paired_snoc h b)
theorem kvp_put {r : Sd} {v : V} {k : Key} (hr : SdV K H r v) {kvs : List (Key × Sd)} {vs : List (Key × V)} (h : KvP K H kvs vs) : KvP K H (putS kvs k r) (putK vs k v) := by
  unfold putS putK
  rw [kvp_any h]
  split
  · exact kvp_map hr h
  · exact paired_snoc ⟨rfl, hr⟩ h
theorem kvp_mono (e : Same H H') {kvs : List (Key × Sd)} {vs : List (Key × V)} (h : KvP K H kvs vs) : KvP K H' kvs vs := L2.Paired.mapP h fun _ _ q => ⟨q.1, sdv_mono e q.2⟩
end
section
variable {X : Cx} {W : WX} {T : List (Addr × Str)} {δ : De} {ω : Om} {b e o : Expr} {es : List Expr} {d : PyData} {ds : List PyData} {r : Sd} {pos p p1 sp : Pos} {R : Out → Prop} {ss : List Stmt} {a c : Addr} {x : Str} {kvs : List (Key × Sd)} {z : Str}
theorem PS1.ex (h : PS1 X δ ω e r) (hR : R (.rt r ω)) : EX X W T e δ ω R := fun σ H rl t Q q _ => h σ H rl Q fun v H' s dv => q _ ω v H' hR (.of s) (rl.mono s) dv
theorem NW.ex {ob : Od} (h : NW X T δ ω e ob) (hR : ∀ D, R (.rt (.ad D) (omD ω D ob))) : EX X W T e δ ω R := fun σ H rl t Q q _ => h σ H rl t Q fun D H' st l => q _ _ _ H' (hR D) st l rfl
/-- a list that stands somewhere -/
theorem PS1.plt {xs : List PyData} (h : PS1 X δ ω e (.ad c)) (hc : (c, Od.lst (xs.map .im)) ∈ ω.os) : PLt X δ ω e xs := fun σ H rl Q k => h σ H rl Q fun v H' s dv => by
  have dv : v = .ref c := dv
  subst dv
  obtain ⟨vs, g1, g2⟩ := (rl.mono s).ro.ob c _ hc
  exact k c vs H' s g1 (dpa_im g2)
/-- x[b], x a dict of one's own -/
theorem ps1_dget (hx : PS1 X δ ω o (.ad a)) (hm : (a, Od.dct kvs) ∈ ω.os) (hb : PD X δ ω b (.str z)) (hk : valS kvs (.inr z) = some r) (hu : X.A.units + 1 < cLine) (hs : NoSl b := by exact fun _ _ => rfl) : PS1 X δ ω (.Subscript o b pos) r := fun σ H rl Q k =>
  we (pe_dget hu pe_w pe_w hs) (hx σ H rl _ fun v H1 s1 d1 => hb σ H1 (rl.mono s1) _ fun y H2 s2 d2 => by
    cases d2
    have d1 : v = .ref a := d1
    subst d1
    obtain ⟨vs, g1, g2⟩ := (rl.mono (s1.trans s2)).ro.ob a _ hm
    obtain ⟨u, h1, h2⟩ := kvp_get g2 hk
    exact ⟨a, u, rfl, by rw [← h1]; exact DGet.k (k := .inr z) g1, k u H2 (s1.trans s2) h2⟩)
/-- x[b] = e -/
theorem sd_dput (i : Nat) {pos' : Pos} (he : EX X W T e δ ω (Val1 (fun r ω1 => ∃ j kvs, ω1.os[j]? = some (a, .dct kvs) ∧ kvs.length < 1000 ∧ PD X δ ω1 b (.str z) ∧ SD X W T ss δ (putO ω1 j (a, .dct (putS kvs (.inr z) r))) R) R)) (hu : X.A.units + 1 < cLine) (hd : δ[i]? = some (some (.ad a)) := by rfl) (hN : X.N[i]? = some x := by rfl)
    (hv : Vis X.env.scope x := by first | exact Or.inl rfl | exact Or.inr (Or.inl rfl) | exact Or.inr (Or.inr rfl)) (h1 : (x == ("__debug__" : Str)) = false := by decide) (h2 : (x == ("__classdict__" : Str)) = false := by decide)
    (hs : swapsWith e (some (.Subscript (.Name x p1) b pos')) pos.line X.env = pure false := by rfl) : SD X W T (.Assign [.Subscript (.Name x p1) b pos'] e pos :: ss) δ ω R :=
  sd_cons fun σ H D rl t kt => ws (ps_dput hu (pe_var hN hv h1 h2) pe_w pe_w hs) (he σ H rl t _ (fun r ω1 v H1 z1 st l dv => by
    obtain ⟨j, kvs, ho, hz, hb, z1⟩ := z1
    obtain ⟨u, e1, e2⟩ := l.sl i _ hd
    have e2 : u = .ref a := e2
    subst e2
    refine ⟨_, e1, hb σ H1 l _ fun y H2 s2 d2 => ?_⟩
    cases d2
    have l2 := l.mono s2
    obtain ⟨vs, g1, g2⟩ := l2.ro.ob a _ (at_mem ho)
    have lv : vs.length = kvs.length := paired_len g2
    refine ⟨a, _, rfl, DPut.k (k := .inr z) g1 (by rw [lv]; exact small1000 (by omega)), ?_⟩
    have am : a ∈ ads ω1 := List.mem_append_right _ (List.mem_map.mpr ⟨_, at_mem ho, rfl⟩)
    have hh : Same (hid (ads ω1) H2) (hid (ads ω1) (upd H2 a (.dK (putK vs (.inr z) v)))) := fun bb o h => by
      obtain ⟨n, e⟩ := hid_out h
      exact hid_of n (by rw [upd_ne (fun q => n (by rw [q]; exact am))]; exact e)
    obtain ⟨st2, l3⟩ := own_at (T := T) (o' := .dct (putS kvs (.inr z) r)) (H' := upd H2 a (.dK (putK vs (.inr z) v))) l2 ho g1 (fun _ q => by cases q) (fun _ _ q => by unfold LamX.CodeO at q; cases q) (fun bb o nb h => by rw [upd_ne nb]; exact h) ⟨_, upd_same, kvp_put (sdv_mono (hid_same s2 |>.trans hh) dv) (kvp_mono hh g2)⟩
    exact kt.nx δ _ σ _ z1 ((st.trans (.of s2)).trans st2) l3) (fun C ω' σ' H' z q l => kt.ex C ω' σ' H' z q l))
theorem paired_set {α β : Type} {R : α → β → Prop} {x : α} {y : β} (h : R x y) : ∀ {xs : List α} {ys : List β} (j : Nat), Paired R xs ys → Paired R (xs.set j x) (ys.set j y)
  | _, _, _, .nil => .nil
  | _, _, 0, .cons _ b => .cons h b
  | _, _, j + 1, .cons a b => .cons a (paired_set h j b)
/-- o[b] = e, o a list of one's own that stands somewhere -/
theorem sd_lset {n : Nat} (he : EX X W T e δ ω (Val1 (fun r ω1 => ∃ j xs, PS1 X δ ω1 o (.ad c) ∧ ω1.os[j]? = some (c, .lst xs) ∧ PD X δ ω1 b (.int (n : Int)) ∧ n < xs.length ∧ SD X W T ss δ (putO ω1 j (c, .lst (xs.set n r))) R) R))
    (ha : ∀ v, assign (.Subscript o b sp) X.env v = (do
      let ov ← holding [v] (eval o X.env)
      let iv ← holding [v, ov] (eval b X.env)
      standAt sp
      holding [v, ov, iv] (setItem ov iv v)
      release [v, ov, iv] []) := by intro _; rfl)
    (hs : swapsWithSole [.Subscript o b sp] e pos.line X.env = pure false := by rfl) (hw : swappedStores [.Subscript o b sp] e X.env = pure none := by rfl) (h3 : (assignEach [.Subscript o b sp] X.env).map (·.2) = [assign (.Subscript o b sp) X.env] := by rfl) :
    SD X W T (.Assign [.Subscript o b sp] e pos :: ss) δ ω R :=
  sd_cons fun σ H Dd rl t kt => ws (ps_asg pe_w (pg_sub pe_w pe_w set_list ha) hs hw h3) (he σ H rl t _ (fun r ω1 y H1 z1 st l dv => by
    obtain ⟨j, xs, hx, ho, hb, hn, z1⟩ := z1
    refine hx σ H1 l _ fun v H2 s2 d2 => hb σ H2 (l.mono s2) _ fun iv H3 s3 d3 => ?_
    have d2 : v = .ref c := d2
    subst d2
    cases d3
    have l3 := l.mono (s2.trans s3)
    obtain ⟨vs, g1, g2⟩ := l3.ro.ob c _ (at_mem ho)
    have lv : vs.length = xs.length := paired_len g2
    refine ⟨c, vs, (n : Int), n, rfl, rfl, g1, ?_, ?_⟩
    · unfold ixN
      rw [lv, if_pos (Int.natCast_nonneg n), if_pos (show (n : Int) < (xs.length : Int) by omega), Int.toNat_natCast]
    · have am : c ∈ ads ω1 := List.mem_append_right _ (List.mem_map.mpr ⟨_, at_mem ho, rfl⟩)
      have hh : Same (hid (ads ω1) H3) (hid (ads ω1) (upd H3 c (.lst (vs.set n y)))) := fun bb o h => by
        obtain ⟨n, e⟩ := hid_out h
        exact hid_of n (by rw [upd_ne (fun q => n (by rw [q]; exact am))]; exact e)
      obtain ⟨st2, l4⟩ := own_at (T := T) (o' := .lst (xs.set n r)) (H' := upd H3 c (.lst (vs.set n y))) l3 ho g1 (fun _ q => by cases q) (fun _ _ q => by unfold LamX.CodeO at q; cases q) (fun bb o nb h => by rw [upd_ne nb]; exact h) ⟨_, upd_same, paired_set (sdv_mono ((hid_same (s2.trans s3)).trans hh) dv) n (L2.Paired.mapP g2 fun _ _ q => sdv_mono hh q)⟩
      exact kt.nx δ _ σ _ z1 ((st.trans (.of (s2.trans s3))).trans st2) l4) (fun C ω' σ' H' z q l => kt.ex C ω' σ' H' z q l))
/-! ### a dict is made -/
def DX (X : Cx) (T : List (Addr × Str)) (δ : De) (ω : Om) (trs : List (TE × TE)) (Z : List (Key × Sd) → Om → Prop) : Prop := ∀ σ H, Rl X.K H σ δ ω → LamX.Tabs T H → ∀ Q : List (V × V) → Hp → Prop,
  (∀ kvs ω' vs H', Z kvs ω' → Stp T ω ω' H H' → Rl X.K H' σ δ ω' → KvP X.K (hid (ads ω') H') kvs vs → Q (vs.map fun q => (kV q.1, q.2)) H') → tPairs trs σ H Q
variable {trs : List (TE × TE)} {Z : List (Key × Sd) → Om → Prop} {jk : Nat} {kp : Pos}
theorem dx_nil (h : Z [] ω) : DX X T δ ω [] Z := fun σ H rl t Q k => k [] ω [] H h .refl rl .nil
theorem kvp_stp {H H' : Hp} {ω1 ω2 : Om} (s : Stp T ω1 ω2 H H') {r : Sd} {v : V} (h : SdV X.K (hid (ads ω1) H) r v) : SdV X.K (hid (ads ω2) H') r v := stp_sd s h
theorem dx_pd (he : PD X δ ω e d) (hr : DX X T δ ω trs (fun kvs ω' => Z ((.inr z, .im d) :: kvs) ω')) : DX X T δ ω ((wpe X (.Constant (.str z) jk kp), wpe X e) :: trs) Z := fun σ H rl t Q k =>
  we pe_str (he σ H rl _ fun v H1 s1 d1 => hr σ H1 (rl.mono s1) (t.ext s1) _ fun kvs ω' vs H2 zz st l pr => k _ ω' ((.inr z, v) :: vs) H2 zz ((Stp.of s1).trans st) l (.cons ⟨rfl, stp_sd (X := X) (r := .im d) st d1⟩ pr))
theorem dx_nw {ob : Od} (he : NW X T δ ω e ob) (hr : ∀ D, DX X T δ (omD ω D ob) trs (fun kvs ω' => Z ((.inr z, .ad D) :: kvs) ω')) : DX X T δ ω ((wpe X (.Constant (.str z) jk kp), wpe X e) :: trs) Z := fun σ H rl t Q k =>
  we pe_str (he σ H rl t _ fun D H1 s1 l1 => hr D σ H1 l1 (s1.tab t) _ fun kvs ω' vs H2 zz st l pr => k _ ω' ((.inr z, .ref D) :: vs) H2 zz (s1.trans st) l (.cons ⟨rfl, (show V.ref D = V.ref D from rfl)⟩ pr))
theorem merge_new : ∀ {more kvs : List (Key × V)}, ((kvs ++ more).map (·.1)).Nodup → mergeK kvs more = kvs ++ more
  | [], kvs, _ => by
    rw [List.append_nil]
    rfl
  | q :: more, kvs, h => by
    have hn : valV kvs q.1 = none := by
      have : (valV kvs q.1).isSome = false := by
        rw [← valV_any]
        cases e : (kvs.any fun kv => decide (kv.1 = q.1)) with
        | false => rfl
        | true =>
          obtain ⟨kv, h1, h2⟩ := List.any_eq_true.mp e
          have h2 := of_decide_eq_true h2
          rw [List.map_append] at h
          exact absurd h2 ((List.nodup_append.mp h).2.2 kv.1 (List.mem_map.mpr ⟨_, h1, rfl⟩) q.1 List.mem_cons_self)
      cases e : valV kvs q.1 with
      | none => rfl
      | some _ =>
        rw [e] at this
        cases this
    show mergeK (putK kvs q.1 q.2) more = _
    rw [putK_new q.2 hn]
    have e2 : kvs ++ [(q.1, q.2)] ++ more = kvs ++ q :: more := by simp
    rw [merge_new (by rw [e2]; exact h), e2]
theorem kvp_keys {K : PySem.W.Frag} {H : Hp} : ∀ {kvs : List (Key × Sd)} {vs : List (Key × V)}, KvP K H kvs vs → vs.map (·.1) = kvs.map (·.1)
  | _, _, .nil => rfl
  | _, _, .cons a b => by rw [List.map_cons, List.map_cons, kvp_keys b, a.1]
theorem ex_disp {keys : List (Option Expr)} {values : List Expr} (hp : PPs X pos keys values trs) (h : ∀ D, DX X T δ (omD ω D (.dct [])) trs (fun kvs ω' => kvs.length ≤ 15 ∧ (kvs.map (·.1)).Nodup ∧ ∃ j, ω'.os[j]? = some (D, .dct []) ∧ R (.rt (.ad D) (putO ω' j (D, .dct kvs)))))
    (hall : keys.all (·.isSome) = true := by rfl) (hl : keys.length = values.length := by rfl) (h0 : keys ≠ [] := by simp) (h15 : keys.length ≤ 15 := by decide) : EX X W T (.Dict keys values pos) δ ω R := fun σ H rl t Q q _ =>
  we (pe_disp hp hall hl h0 h15) (fun D hD => by
    have sm : Same H (upd H D (.dK [])) := same_new hD
    have l0 : Rl X.K (upd H D (.dK [])) σ δ (omD ω D (.dct [])) := by
      refine ⟨rl.len, fun i r hi => ?_, fun z o hz => ?_, ?_, there_mono rl.ro.th sm⟩
      · obtain ⟨v, h1, h2⟩ := rl.sl i r hi
        exact ⟨v, h1, sdv_mono (hid_in hD sm) h2⟩
      · rcases List.mem_cons.mp hz with w | w
        · cases w
          exact ⟨[], upd_same, .nil⟩
        · exact odv_mono (hid_in hD sm) sm (rl.ro.ob z o w)
      · show (D :: ω.os.map (·.1)).Nodup
        exact List.nodup_cons.mpr ⟨fun w => new_out rl.ro.there hD (List.mem_append_right _ w), rl.ro.nd⟩
    refine h D σ _ l0 (t.ext sm) _ fun kvs ω' vs H2 zz st l pr => ?_
    obtain ⟨z1, z2, j, ho, z3⟩ := zz
    obtain ⟨v0, g1, g2⟩ := l.ro.ob D _ (at_mem ho)
    cases g2
    have lv : vs.length = kvs.length := paired_len pr
    refine ⟨g1, vs, rfl, by omega, ?_⟩
    have em : mergeK [] vs = vs := by
      rw [merge_new (by rw [List.nil_append, kvp_keys pr]; exact z2), List.nil_append]
    rw [em]
    have am : D ∈ ads ω' := List.mem_append_right _ (List.mem_map.mpr ⟨_, at_mem ho, rfl⟩)
    have hh : Same (hid (ads ω') H2) (hid (ads ω') (upd H2 D (.dK vs))) := fun bb o h => by
      obtain ⟨n, e⟩ := hid_out h
      exact hid_of n (by rw [upd_ne (fun q => n (by rw [q]; exact am))]; exact e)
    obtain ⟨st2, l3⟩ := own_at (T := T) (o' := .dct kvs) (H' := upd H2 D (.dK vs)) l ho g1 (fun _ q => by cases q) (fun _ _ q => by unfold LamX.CodeO at q; cases q) (fun bb o nb h => by rw [upd_ne nb]; exact h) ⟨_, upd_same, kvp_mono hh pr⟩
    exact q _ _ _ _ z3 (((stp_new sm hD).trans st).trans st2) l3 rfl)
end
end FP

namespace FP
open PySem PySem.Spec PyProof.Rows L2
section
variable {X : Cx} {W : WX} {T : List (Addr × Str)} {δ : De} {ω : Om} {a b e o : Expr} {es : List Expr} {d : PyData} {ds : List PyData} {r : Sd} {pos p p1 sp : Pos} {R : Out → Prop} {ss : List Stmt} {x : Str}
theorem pd_abs {i : Int} (hm : X.mg "abs" = none) (ha : PD X δ ω a (.int i)) (hg : Gl X "abs" := by rfl) (he : starEach [a] X.env = (false, eval a X.env) :: starEach [] X.env := by rfl) : PD X δ ω (.Call (.Name "abs" p) [a] [] pos) (.int (if i < 0 then -i else i)) :=
  pd_callB call_abs (fun ps vs H _ h Q k => by
    cases h with
    | cons h1 h2 =>
      cases h2
      cases h1
      exact ⟨i, rfl, k _ H (Same.refl H) (.int _)⟩) hm (by decide +kernel) (pds_cons ha pds_nil he) hg (by decide) (by decide) he (by rfl)
/-- an object of one's own is left to itself -/
theorem sd_drop (j : Nat) {ps : List Addr} {os : Os} (h : SD X W T ss δ ⟨ps, os.eraseIdx j⟩ R) : SD X W T ss δ ⟨ps, os⟩ R := fun σ H D rl t k => by
  have sub : (os.eraseIdx j).Sublist os := List.eraseIdx_sublist os j
  have sm : Same (hid (ads ⟨ps, os⟩) H) (hid (ads ⟨ps, os.eraseIdx j⟩) H) := hid_more fun b hb => by
    rcases List.mem_append.mp hb with q | q
    · exact List.mem_append_left _ q
    · exact List.mem_append_right _ ((sub.map _).subset q)
  refine h σ H D ⟨rl.len, fun i r hi => ?_, fun z o hz => ?_, (sub.map _).nodup rl.ro.nd, rl.ro.th⟩ t (k.step ⟨fun b o e _ _ => e, fun a ha => .inl ((sub.map _).subset ha), rfl, fun t => t⟩)
  · obtain ⟨v, h1, h2⟩ := rl.sl i r hi
    exact ⟨v, h1, sdv_mono sm h2⟩
  · exact odv_mono sm (Same.refl H) (rl.ro.ob z o (sub.subset hz))
theorem sd_ifF' {c : Expr} {sa sb : List Stmt} (h : PTd X δ ω c false) (h2 : SD X W T sb δ ω (Nxt X W T ss R)) : SD X W T (.If c sa sb pos :: ss) δ ω R := sd_if h (fun z => by cases z) fun _ => h2
/-- int of a truth -/
theorem PS1.pd (h : PS1 X δ ω e (.im d)) : PD X δ ω e d := h
end
end FP

namespace FP
open PySem PySem.Spec PyProof.Rows L2
section
variable {X : Cx} {W : WX} {T : List (Addr × Str)} {δ : De} {ω : Om} {a b c e o : Expr} {es : List Expr} {d : PyData} {ds : List PyData} {r : Sd} {pos p p1 sp : Pos} {R : Out → Prop} {ss : List Stmt} {x : Str}
theorem EX.ye {d : PyData} {ω' : Om} (h : EX X (fun _ _ _ _ => False) T e δ ω (fun o => o = .rt (.im d) ω')) : YE X T δ ω e d ω' := fun σ H rl t Q q => h σ H rl t Q (fun r ω1 v H' z st l dv => by
  cases z
  exact q v H' st l dv) (fun C ω1 σ' H' z => by cases z)
/-- list of a list -/
theorem pn_listL (hm : X.mg "list" = none) (ha : PL X δ ω a ds) (hg : Gl X "list" := by rfl) (he : starEach [a] X.env = (false, eval a X.env) :: starEach [] X.env := by rfl) : PN X δ ω (.Call (.Name "list" p) [a] [] pos) ds := fun σ H rl Q k =>
  we (pe_callTy call_list_of hg hm (by decide +kernel) (pa_cons pe_w pa_nil he) (he := he)) (ha σ H rl _ fun v vs H1 s1 h1 d1 => ⟨v, vs, rfl, .inl h1, fun l hl => k l _ _ (s1.trans (same_new hl)) (s1.free hl) upd_same (dpam (hid_new hl (same_new hl)) d1)⟩)
/-- a new list of one's own, which the caller doesn't have -/
theorem sd_ownP (i : Nat) {pos' : Pos} (he : PN X δ ω e ds) (hk : ∀ D, D ∉ ω.ps → SD X W T ss (δ.set i (some (.ad D))) (omD ω D (.lst (ds.map .im))) R) (hN : X.N.Nodup) (hi : X.N[i]? = some x := by rfl) (hx : Loc X.env.scope x := by first | exact Or.inl rfl | exact Or.inr rfl) (hs : swapsWith e (some (.Name x pos')) pos.line X.env = pure false := by rfl)
    (hf : X.fn x = true ∨ X.env.scope.names.lookup x = some .local := by first | exact .inl rfl | exact .inr rfl | assumption) : SD X W T (.Assign [.Name x pos'] e pos :: ss) δ ω R :=
  sd_cons fun σ H D rl t k => ws (ps_set hN hi hx pe_w hs hf) (he σ H rl _ fun q vs H' s n hv dv => by
    have rl2 : Rl X.K H' σ δ (omD ω q (.lst (ds.map .im))) := rl.omD n s hv (dpam (hid_more fun b h => List.mem_cons.mpr (ads_omD.mp h)) dv)
    exact k.nx _ _ _ H' (hk q (fun z => rl.ro.th q z n)) (stp_new s n) (rl2.set (x := .ad q) (v := .ref q) rfl))
/-- it is handed back -/
theorem sd_retP (i : Nat) {D : Addr} {xs : List PyData} (hm : (D, Od.lst (xs.map .im)) ∈ ω.os) (hD : D ∉ ω.ps) (hR : R (.rt (.im (.list xs)) ⟨ω.ps, []⟩)) (hd : δ[i]? = some (some (.ad D)) := by rfl) (hN : X.N[i]? = some x := by rfl) (hv : Vis X.env.scope x := by first | exact Or.inl rfl | exact Or.inr (Or.inl rfl) | exact Or.inr (Or.inr rfl))
    (h1 : (x == ("__debug__" : Str)) = false := by decide) (h2 : (x == ("__classdict__" : Str)) = false := by decide) : SD X W T (.Return (some (.Name x p)) pos :: ss) δ ω R :=
  sd_cons fun σ H Dd rl t k => by
    obtain ⟨v, e1, e2⟩ := rl.sl i _ hd
    have e2 : v = .ref D := e2
    subst e2
    obtain ⟨vs, g1, g2⟩ := rl.ro.ob D _ hm
    refine ws (ps_ret (pe_var hN hv h1 h2)) ⟨_, e1, k.rt _ ⟨ω.ps, []⟩ (.ref D) H hR ⟨fun b o h _ _ => h, fun a h => (List.not_mem_nil h).elim, rfl, fun t => t⟩ (Ro.nil rl.ro.th) ?_⟩
    show Dp X.K (hid (ads ⟨ω.ps, []⟩) H) (.ref D) (.list xs)
    rw [ads_nil]
    exact .lst (SqL.of (hid_of hD g1)) (dpam (hid_more fun b h => List.mem_append_left _ h) (dpa_im g2))
/-- x, y, z = a, b, c -/
theorem sd_par3X (i j l : Nat) {x y z : Str} {px py pz pt pt2 : Pos} {kt k2 : Nat} (hc : X.calm = true) (hN : X.N.Nodup) (ha : AX X T δ ω [a, b, c] (fun rs ω' => ∃ r1 r2 r3, rs = [r1, r2, r3] ∧ SD X W T ss (((δ.set i (some r1)).set j (some r2)).set l (some r3)) ω' R))
    (hw : swappedStores [.Tuple [.Name x px, .Name y py, .Name z pz] kt pt] (.Tuple [a, b, c] k2 pt2) X.env = pure (some [x, y, z])) (hij : i ≠ j := by decide) (hil : i ≠ l := by decide) (hjl : j ≠ l := by decide) (hi : X.N[i]? = some x := by rfl) (hj : X.N[j]? = some y := by rfl) (hl : X.N[l]? = some z := by rfl)
    (hx : X.env.scope.names.lookup x = some .local := by rfl) (hy : X.env.scope.names.lookup y = some .local := by rfl) (hz : X.env.scope.names.lookup z = some .local := by rfl)
    (hs : swapsWithSole [.Tuple [.Name x px, .Name y py, .Name z pz] kt pt] (.Tuple [a, b, c] k2 pt2) pos.line X.env = pure false := by rfl) : SD X W T (.Assign [.Tuple [.Name x px, .Name y py, .Name z pz] kt pt] (.Tuple [a, b, c] k2 pt2) pos :: ss) δ ω R :=
  sd_cons fun σ H D rl t k => ws (ps_par3 hc hN hi hj hl hij hil hjl hx hy hz pa_w hw hs) (ha σ H rl t _ fun rs ω' vs H1 zz st l pr => by
    obtain ⟨r1, r2, r3, rfl, zz⟩ := zz
    cases pr with
    | cons b1 b2 =>
      cases b2 with
      | cons b3 b4 =>
        cases b4 with
        | cons b5 b6 =>
          cases b6
          exact ⟨_, _, _, rfl, k.nx _ ω' _ H1 zz st (((l.set (x := r1) b1).set (x := r2) b3).set (x := r3) b5)⟩)
end
end FP

namespace K21
open PySem PySem.Spec PyProof.Rows L2 FP
/-! ### the text -/
def top (i : Nat) : Stmt := PySem.Challenge.pw_farpanes_k21_whole_deeds_in_parts.main.body.getD i (.Pass ⟨0, 0, 0, 0⟩)
abbrev s__wall : Stmt := top 0
abbrev s_is_whole : Stmt := top 7
abbrev s_is_within : Stmt := top 8
abbrev s_are_signs : Stmt := top 9
abbrev s_need_size : Stmt := top 14
abbrev s_blank_cells : Stmt := top 15
abbrev s_blank : Stmt := top 16
abbrev s_need_deed : Stmt := top 22
abbrev s_need_deeds : Stmt := top 23
abbrev s_is_deed : Stmt := top 24
abbrev s_are_numbers_within : Stmt := top 25
abbrev s_pushed : Stmt := top 26
abbrev s_pulled : Stmt := top 27
abbrev s_rolled : Stmt := top 28
abbrev s__law_cell : Stmt := top 31
abbrev s__law_drawn : Stmt := top 32
abbrev s__law_size : Stmt := top 33
abbrev s__law_deed : Stmt := top 34
abbrev s__law_deeds : Stmt := top 35
abbrev s__law_pen : Stmt := top 36
abbrev s__law_blanks : Stmt := top 37
abbrev s__law_roll : Stmt := top 38
abbrev s__law_down : Stmt := top 39
abbrev s__law_say : Stmt := top 40
abbrev s__law_cells_done : Stmt := top 41
abbrev s__law_do : Stmt := top 42
abbrev s__law_face_of : Stmt := top 43
abbrev s__law_cut_texts : Stmt := top 44
abbrev s_law : Stmt := top 45
abbrev dOf (x : Str) (st : Stmt) : He.DefD := ⟨(x, none), x, x, defArgs st, defBody st, defScope st, [], []⟩
abbrev s_Pen___init__ : Stmt := inClass (top 29) 0
abbrev s_Pen_write : Stmt := inClass (top 29) 1
abbrev s_Pen_face : Stmt := inClass (top 29) 2
abbrev s_Pen_take : Stmt := inClass (top 29) 3
abbrev s_Pen_do : Stmt := inClass (top 29) 4
abbrev s_Pen_place : Stmt := inClass (top 29) 5
abbrev s_Pen_cells : Stmt := inClass (top 29) 6
abbrev s_Pen_put_cells : Stmt := inClass (top 29) 7
abbrev s_Pen_say : Stmt := inClass (top 29) 8
abbrev s_Pen_down : Stmt := inClass (top 29) 9
abbrev s_Pen_wipe : Stmt := inClass (top 29) 10
def fn : List He.DefD := [dOf "_wall" s__wall, dOf "is_whole" s_is_whole, dOf "is_within" s_is_within, dOf "are_signs" s_are_signs, dOf "need_size" s_need_size, dOf "blank_cells" s_blank_cells, dOf "blank" s_blank, dOf "need_deed" s_need_deed, dOf "need_deeds" s_need_deeds, dOf "is_deed" s_is_deed, dOf "are_numbers_within" s_are_numbers_within, dOf "pushed" s_pushed, dOf "pulled" s_pulled, dOf "rolled" s_rolled, dOf "_law_cell" s__law_cell, dOf "_law_drawn" s__law_drawn, dOf "_law_size" s__law_size, dOf "_law_deed" s__law_deed, dOf "_law_deeds" s__law_deeds, dOf "_law_pen" s__law_pen, dOf "_law_blanks" s__law_blanks, dOf "_law_roll" s__law_roll, dOf "_law_down" s__law_down, dOf "_law_say" s__law_say, dOf "_law_cells_done" s__law_cells_done, dOf "_law_do" s__law_do, dOf "_law_face_of" s__law_face_of, dOf "_law_cut_texts" s__law_cut_texts, dOf "law" s_law, ⟨("Pen", some "__init__"), "__init__", "Pen.__init__", defArgs s_Pen___init__, defBody s_Pen___init__, defScope s_Pen___init__, [], []⟩, ⟨("Pen", some "write"), "write", "Pen.write", defArgs s_Pen_write, defBody s_Pen_write, defScope s_Pen_write, [], []⟩, ⟨("Pen", some "face"), "face", "Pen.face", defArgs s_Pen_face, defBody s_Pen_face, defScope s_Pen_face, [], []⟩, ⟨("Pen", some "take"), "take", "Pen.take", defArgs s_Pen_take, defBody s_Pen_take, defScope s_Pen_take, [], []⟩, ⟨("Pen", some "do"), "do", "Pen.do", defArgs s_Pen_do, defBody s_Pen_do, defScope s_Pen_do, [], []⟩, ⟨("Pen", some "place"), "place", "Pen.place", defArgs s_Pen_place, defBody s_Pen_place, defScope s_Pen_place, [], []⟩, ⟨("Pen", some "cells"), "cells", "Pen.cells", defArgs s_Pen_cells, defBody s_Pen_cells, defScope s_Pen_cells, [], []⟩, ⟨("Pen", some "put_cells"), "put_cells", "Pen.put_cells", defArgs s_Pen_put_cells, defBody s_Pen_put_cells, defScope s_Pen_put_cells, [], []⟩, ⟨("Pen", some "say"), "say", "Pen.say", defArgs s_Pen_say, defBody s_Pen_say, defScope s_Pen_say, [], []⟩, ⟨("Pen", some "down"), "down", "Pen.down", defArgs s_Pen_down, defBody s_Pen_down, defScope s_Pen_down, [], []⟩, ⟨("Pen", some "wipe"), "wipe", "Pen.wipe", defArgs s_Pen_wipe, defBody s_Pen_wipe, defScope s_Pen_wipe, [], []⟩]
def fa : List He.Fa := [.glo "_wall", .glo "is_whole", .glo "is_within", .glo "are_signs", .glo "need_size", .glo "blank_cells", .glo "blank", .glo "need_deed", .glo "need_deeds", .glo "is_deed", .glo "are_numbers_within", .glo "pushed", .glo "pulled", .glo "rolled", .glo "_law_cell", .glo "_law_drawn", .glo "_law_size", .glo "_law_deed", .glo "_law_deeds", .glo "_law_pen", .glo "_law_blanks", .glo "_law_roll", .glo "_law_down", .glo "_law_say", .glo "_law_cells_done", .glo "_law_do", .glo "_law_face_of", .glo "_law_cut_texts", .glo "law", .glo "ScreenError", .glo "BadFace", .glo "BadDeed", .glo "Pen", .free "abs", .free "all", .free "bool", .free "int", .free "isinstance", .free "len", .free "list", .free "max", .free "min", .free "ord", .free "range", .free "str", .free "tuple", .free "zip", .free "ValueError", .int "PERCENT" 37, .int "MOST_ROWS" 10, .int "MOST_COLUMNS" 20, .glo "BLANK", .int "MOST_SAID" 200, .glo "BARE_WORDS", .glo "WIPED_PARTS", .glo "LIMITS", .exc "BadFace", .exc "BadDeed", .cls "Pen", .mkr "Pen", .noat "Pen" "height", .noat "Pen" "width", .noat "Pen" "ink", .noat "Pen" "rows", .noat "Pen" "column", .noat "Pen" "row", .meth "Pen" "write", .meth "Pen" "face", .meth "Pen" "take", .meth "Pen" "do", .meth "Pen" "place", .meth "Pen" "cells", .meth "Pen" "put_cells", .meth "Pen" "say", .meth "Pen" "down", .meth "Pen" "wipe"]
def ex (K : PySem.W.Frag) : Bool := gldB K "BLANK" (.tuple [.str " ", .int 0]) && (gldB K "BARE_WORDS" (.tuple [.str "line", .str "home", .str "back"]) && (gldB K "WIPED_PARTS" (.tuple [.str "row", .str "rest", .str "all"]) && (kvB K (He.ga K "LIMITS") "go" (.tuple [.tuple [.int 0, .int 99], .tuple [.int 0, .int 99]]) && (kvB K (He.ga K "LIMITS") "ink" (.tuple [.tuple [.int 0, .int 7]]) && (kvB K (He.ga K "LIMITS") "roll" (.tuple [.tuple [.int (-99), .int 99]]) && (kvB K (He.ga K "LIMITS") "open" (.tuple [.tuple [.int 0, .int 99]]) && (kvB K (He.ga K "LIMITS") "cut" (.tuple [.tuple [.int 0, .int 99]]) && (kvB K (He.ga K "LIMITS") "more" (.tuple [.tuple [.int 0, .int 99]]) && (kvB K (He.ga K "LIMITS") "less" (.tuple [.tuple [.int 0, .int 99]]) && (noB K (He.ga K "LIMITS") "say" && (noB K (He.ga K "LIMITS") "line" && (noB K (He.ga K "LIMITS") "home" && (noB K (He.ga K "LIMITS") "back" && (noB K (He.ga K "LIMITS") "wipe"))))))))))))))
def tf : List He.Defn := [("law", none)]
abbrev R : PySem.W.OpenRow := PySem.W.OpenLaw.row PySem.Challenge.rw_farpanes_k21_whole_deeds_in_parts
def ts : List He.Tab := [(fun K => He.ga K "LIMITS", ["go", "ink", "roll", "open", "cut", "more", "less"])]
abbrev hk : PySem.W.Hook := He.hookX 6 fa fn ts tf ex
def ob (s : PySem.W.SharedT) : He.AlX := He.obsX 6 fa fn ts tf ex (HandSHeadRun.getT s)
theorem ob_eq (s : PySem.W.SharedT) : ob s = hk.obs s.abs := He.obsX_eq (HandSHeadRun.getT_eq s)
def loose0 : List Str := ["_wall", "ScreenError", "BadFace", "BadDeed", "PERCENT", "is_whole", "is_within", "are_signs", "MOST_ROWS", "MOST_COLUMNS", "BLANK", "need_size", "blank_cells", "blank", "MOST_SAID", "BARE_WORDS", "WIPED_PARTS", "LIMITS", "need_deed", "need_deeds", "is_deed", "are_numbers_within", "pushed", "pulled", "rolled", "Pen", "_law_cell", "_law_drawn", "_law_size", "_law_deed"]
def loose1 : List Str := ["_law_deeds", "_law_pen", "_law_blanks", "_law_roll", "_law_down", "_law_say", "_law_cells_done", "_law_do", "_law_face_of", "_law_cut_texts"]
def loose : List Str := loose0 ++ loose1
set_option maxHeartbeats 0 in
theorem run (w : World) : HandSHeadRun.RunEq R (PySem.W.view R.prog [45]) hk ob 8000 loose w := by
  refine PySem.W.byRow2 "special-get-raises" (P := fun w => HandSHeadRun.RunEq R (PySem.W.view R.prog [45]) hk ob 8000 loose w) (fun w => ?_) (fun w => ?_) w
  · intro os
    kernel_rfl
  · intro os
    kernel_rfl
end K21

namespace K21
open PySem PySem.Spec PyProof.Rows L2 FP
/-! ### what the top leaves -/
structure Bl (mg : Str → Option Value) : Prop where
  len : mg "len" = none
  range : mg "range" = none
  isi : mg "isinstance" = none
  int : mg "int" = none
  bool : mg "bool" = none
  str : mg "str" = none
  tuple : mg "tuple" = none
  all : mg "all" = none
  ord : mg "ord" = none
  min : mg "min" = none
  max : mg "max" = none
/-! ### mirrors -/
def isWhole : PyData → Bool
  | .int _ => true
  | _ => false
def isWithin (d : PyData) (lo hi : Int) : Bool := match d with
  | .int i => decide (lo ≤ i) && decide (i ≤ hi)
  | _ => false
def isTupleOf (d : PyData) (n : Int) : Bool := match d with
  | .tuple ds => decide ((ds.length : Int) = n)
  | _ => false
def okSign (c : Nat) : Bool := (decide (32 ≤ c) && decide (c ≤ 126)) && !decide (c = 37)
def areSigns (d : PyData) : Bool := match d with
  | .str z => z.cps.toList.all okSign
  | _ => false
def isSign (d : PyData) : Bool := match d with
  | .str z => z.cps.toList.all okSign && decide (z.length = 1)
  | _ => false
def isCell (d : PyData) : Bool := match d with
  | .tuple [a, b] => isSign a && isWithin b 0 7
  | _ => false
def isI : PyData → Bool
  | .int _ => true
  | .bool _ => true
  | _ => false
def isB : PyData → Bool
  | .bool _ => true
  | _ => false
def isS : PyData → Bool
  | .str _ => true
  | _ => false
def isT : PyData → Bool
  | .tuple _ => true
  | _ => false
def isL : PyData → Bool
  | .list _ => true
  | _ => false
theorem k_int : ∀ d : PyData, kitB (kindD d) "int" = some (isI d)
  | .none => (by decide +kernel : kitB "NoneType" "int" = some false)
  | .bool _ => (by decide +kernel : kitB "bool" "int" = some true)
  | .int _ => (by decide +kernel : kitB "int" "int" = some true)
  | .str _ => (by decide +kernel : kitB "str" "int" = some false)
  | .list _ => (by decide +kernel : kitB "list" "int" = some false)
  | .tuple _ => (by decide +kernel : kitB "tuple" "int" = some false)
  | .dict _ => (by decide +kernel : kitB "dict" "int" = some false)
theorem k_bool : ∀ d : PyData, kitB (kindD d) "bool" = some (isB d)
  | .none => (by decide +kernel : kitB "NoneType" "bool" = some false)
  | .bool _ => (by decide +kernel : kitB "bool" "bool" = some true)
  | .int _ => (by decide +kernel : kitB "int" "bool" = some false)
  | .str _ => (by decide +kernel : kitB "str" "bool" = some false)
  | .list _ => (by decide +kernel : kitB "list" "bool" = some false)
  | .tuple _ => (by decide +kernel : kitB "tuple" "bool" = some false)
  | .dict _ => (by decide +kernel : kitB "dict" "bool" = some false)
theorem k_str : ∀ d : PyData, kitB (kindD d) "str" = some (isS d)
  | .none => (by decide +kernel : kitB "NoneType" "str" = some false)
  | .bool _ => (by decide +kernel : kitB "bool" "str" = some false)
  | .int _ => (by decide +kernel : kitB "int" "str" = some false)
  | .str _ => (by decide +kernel : kitB "str" "str" = some true)
  | .list _ => (by decide +kernel : kitB "list" "str" = some false)
  | .tuple _ => (by decide +kernel : kitB "tuple" "str" = some false)
  | .dict _ => (by decide +kernel : kitB "dict" "str" = some false)
theorem k_tuple : ∀ d : PyData, kitB (kindD d) "tuple" = some (isT d)
  | .none => (by decide +kernel : kitB "NoneType" "tuple" = some false)
  | .bool _ => (by decide +kernel : kitB "bool" "tuple" = some false)
  | .int _ => (by decide +kernel : kitB "int" "tuple" = some false)
  | .str _ => (by decide +kernel : kitB "str" "tuple" = some false)
  | .list _ => (by decide +kernel : kitB "list" "tuple" = some false)
  | .tuple _ => (by decide +kernel : kitB "tuple" "tuple" = some true)
  | .dict _ => (by decide +kernel : kitB "dict" "tuple" = some false)
theorem k_list : ∀ d : PyData, kitB (kindD d) "list" = some (isL d)
  | .none => (by decide +kernel : kitB "NoneType" "list" = some false)
  | .bool _ => (by decide +kernel : kitB "bool" "list" = some false)
  | .int _ => (by decide +kernel : kitB "int" "list" = some false)
  | .str _ => (by decide +kernel : kitB "str" "list" = some false)
  | .list _ => (by decide +kernel : kitB "list" "list" = some true)
  | .tuple _ => (by decide +kernel : kitB "tuple" "list" = some false)
  | .dict _ => (by decide +kernel : kitB "dict" "list" = some false)
theorem bb_int : bootBuiltins "int" = some (.type "int") := by decide +kernel
theorem bb_bool : bootBuiltins "bool" = some (.type "bool") := by decide +kernel
theorem bb_str : bootBuiltins "str" = some (.type "str") := by decide +kernel
theorem bb_tuple : bootBuiltins "tuple" = some (.type "tuple") := by decide +kernel
theorem bb_list : bootBuiltins "list" = some (.type "list") := by decide +kernel
section
variable {P : Program} {w : World} {K : PySem.W.Frag} {mg : Str → Option Value} {base : Heap} {f : Addr} {fd : FuncData}
abbrev Df (K : PySem.W.Frag) (x : Str) (st : Stmt) (f : Addr) (fd : FuncData) : Prop := FunD K x x (defArgs st) (defBody st) (defScope st) [] [] f fd
def frWhole : List PyData → Rs → Prop := fun ds r => ∃ d, ds = [d] ∧ r = .ok (.bool (isWhole d))
theorem sc_whole : FnScope ["value"] ["value"] (defScope s_is_whole) := ⟨rfl, rfl, rfl, by decide +kernel, rfl, by decide +kernel, by decide +kernel⟩
theorem ok_whole (F : Df K "is_whole" s_is_whole f fd) (hm : mg "is_whole" = some (.ref f)) (B : Bl mg) : DefOk P w K mg base 1 "is_whole" frWhole := by
  refine def_ok F hm sc_whole (fun _ _ _ _ _ _ us hl => match us, hl with | [_], _ => rfl) (fun ds r h => by obtain ⟨d, rfl, _⟩ := h; rfl) (fun cdv A outer s H E qs ds r hr h => ?_)
  obtain ⟨d, rfl, rfl⟩ := h
  refine sd_ret (pd_and (pd_isi B.isi B.int bb_int (pd_var 0) (k_int d)) (fun _ => pd_one (pd_not (pd_isi B.isi B.bool bb_bool (pd_var 0) (k_bool d))))) ?_
  cases d <;> rfl
def frWithin : List PyData → Rs → Prop := fun ds r => ∃ d lo hi, ds = [d, .int lo, .int hi] ∧ r = .ok (.bool (isWithin d lo hi))
theorem sc_within : FnScope ["value", "least", "most"] ["value", "least", "most"] (defScope s_is_within) := ⟨rfl, rfl, rfl, by decide +kernel, rfl, by decide +kernel, by decide +kernel⟩
theorem ok_within (F : Df K "is_within" s_is_within f fd) (hm : mg "is_within" = some (.ref f)) (G1 : DefOk P w K mg base 1 "is_whole" frWhole) : DefOk P w K mg base 2 "is_within" frWithin := by
  refine def_ok F hm sc_within (fun _ _ _ _ _ _ us hl => match us, hl with | [_, _, _], _ => rfl) (fun ds r h => by obtain ⟨d, lo, hi, rfl, _⟩ := h; rfl) (fun cdv A outer s H E qs ds r hr h => ?_)
  obtain ⟨d, lo, hi, rfl, rfl⟩ := h
  cases hd : isWhole d with
  | false =>
    refine sd_ret (pd_andF (pd_call G1 hr (pds_cons (pd_var 0) pds_nil) ⟨d, rfl, by rw [hd]⟩)) ?_
    cases d <;> first | exact rfl | cases hd
  | true =>
    obtain ⟨i, rfl⟩ : ∃ i, d = .int i := by
      cases d <;> first | exact ⟨_, rfl⟩ | cases hd
    refine sd_ret (pd_and (pd_call G1 hr (pds_cons (pd_var 0) pds_nil) ⟨_, rfl, rfl⟩) (fun _ => pd_one (pd_chain op_le op_le rd_B0 (fun _ => rd_B0) (pd_var 1) (pd_var 0) (fun _ => pd_var 2)))) ?_
    exact rfl
def frTupleOf : List PyData → Rs → Prop := fun ds r => ∃ d n, ds = [d, .int n] ∧ r = .ok (.bool (isTupleOf d n))
def frSigns : List PyData → Rs → Prop := fun ds r => ∃ d, ds = [d] ∧ r = .ok (.bool (areSigns d)) ∧ ∀ z, d = .str z → z.length ≤ 1000
theorem sc_signs : FnScope ["value", "sign"] ["value"] (defScope s_are_signs) := ⟨rfl, rfl, rfl, by decide +kernel, rfl, by decide +kernel, by decide +kernel⟩
theorem rd_leS {K : PySem.W.Frag} {y z : Str} : RD K (fun x y H Q => ∃ i j, x = .str i ∧ y = .str j ∧ Q (.bl (!decide (j.cps.toList < i.cps.toList))) H) (.str y) (.str z) (.bool (!decide (z.cps.toList < y.cps.toList))) := fun ps x w H t hx hy Q q => by
  cases hx
  cases hy
  exact ⟨y, z, rfl, rfl, q _ H (Same.refl H) (.bl _)⟩
theorem le_one (a b : Nat) : (!decide (([b] : List Nat) < [a])) = decide (a ≤ b) := by
  by_cases h : a ≤ b
  · rw [decide_eq_true h, decide_eq_false]
    · rfl
    · intro z
      simp only [List.cons_lt_cons_iff] at z
      rcases z with z | ⟨_, z⟩
      · omega
      · exact absurd z (by simp)
  · rw [decide_eq_false h, decide_eq_true]
    · rfl
    · simp only [List.cons_lt_cons_iff]
      left
      omega
theorem ok_signs (F : Df K "are_signs" s_are_signs f fd) (hm : mg "are_signs" = some (.ref f)) (B : Bl mg) (hp : GlD K mg "PERCENT" (.int 37)) : DefOk P w K mg base 1 "are_signs" frSigns := by
  refine def_ok F hm sc_signs (fun _ _ _ _ _ _ us hl => match us, hl with | [_], _ => rfl) (fun ds r h => by obtain ⟨d, rfl, _⟩ := h; rfl) (fun cdv A outer s H E qs ds r hr h => ?_)
  obtain ⟨d, rfl, rfl, hz⟩ := h
  by_cases hd : ∃ z, d = .str z
  · obtain ⟨z, rfl⟩ := hd
    refine sd_ifF (pt_notd (k := true) (pt_bool (pd_isi B.isi B.str bb_str (pd_var 0) (k_str _)))) ?_
    have hl : (signsD z).length = z.length := by
      unfold signsD
      rw [List.length_map, Array.length_toList]
      rfl
    refine sd_ret (d := .bool ((z.cps.toList.map okSign).all id)) (pd_all rfl B.all (PN.pl (pn_lc (y := "sign") (j := 1) (items := signsD z) rfl sc_signs.nd (PWk.ws (wk_str (pd_var 0))) ?_ (blkOk_by (N := ["value", "sign"]) (sc := defScope s_are_signs) (by decide +kernel)) (fun _ _ _ _ _ => pg_name sc_signs.nd rfl (Or.inl rfl)) ?_ (by rw [hl]; exact Nat.le_trans (hz z rfl) (by decide))))) ?_
    · unfold signsD
      rw [List.length_map, List.length_map, List.length_map]
    · intro i d y hd hy D o s H C cl fp
      unfold signsD at hd
      rw [List.getElem?_map] at hd
      rw [List.getElem?_map, List.getElem?_map] at hy
      cases hc : z.cps.toList[i]? with
      | none =>
        rw [hc] at hd
        cases hd
      | some c =>
        rw [hc] at hd hy
        cases hd
        cases hy
        refine PD.eq (pd_and (pd_chain op_le_str op_le_str rd_leS (fun _ => rd_leS) pd_str (pd_var 1) (fun _ => pd_str)) (fun _ => pd_one (pd_neI (pd_ord B.ord (pd_var 1) rfl rfl) (pd_glob hp)))) ?_
        show PyData.bool ((!decide (([c] : List Nat) < [32]) && !decide (([126] : List Nat) < [c])) && !decide (((c : Nat) : Int) = 37)) = PyData.bool (okSign c)
        rw [le_one, le_one]
        unfold okSign
        have e : decide (((c : Nat) : Int) = 37) = decide (c = 37) := by
          by_cases h : c = 37
          · rw [decide_eq_true h, decide_eq_true (by omega)]
          · rw [decide_eq_false h, decide_eq_false (by omega)]
        rw [e]
    · show Rs.ok (.bool (z.cps.toList.all okSign)) = Rs.ok (.bool _)
      rw [List.all_map]
      rfl
  · have hk : kitB (kindD d) "str" = some false := by
      rw [k_str]
      cases d <;> first | rfl | exact absurd ⟨_, rfl⟩ hd
    refine sd_ifT (pt_notd (k := false) (pt_bool (pd_isi B.isi B.str bb_str (pd_var 0) hk))) (sd_ret pd_bl ?_)
    cases d <;> first | exact rfl | exact absurd ⟨_, rfl⟩ hd
end
end K21

namespace K21
open PySem PySem.Spec PyProof.Rows L2 FP
/-! ### smallness -/
def smS (d : PyData) : Prop := ∀ z, d = .str z → z.length ≤ 1000
def smC (d : PyData) : Prop := ∀ ds, d = .tuple ds → ∀ x ∈ ds, smS x
def smR (d : PyData) : Prop := ∀ ds, d = .tuple ds → ds.length ≤ 1000 ∧ ∀ x ∈ ds, smC x
def smRs (d : PyData) : Prop := ∀ ds, d = .tuple ds → ds.length ≤ 1000 ∧ ∀ x ∈ ds, smR x
def smF (d : PyData) : Prop := ∀ ds, d = .tuple ds → ∀ x ∈ ds, smRs x
/-! ### mirrors -/
def lenT : PyData → Nat
  | .tuple ds => ds.length
  | _ => 0
def itemsT : PyData → List PyData
  | .tuple ds => ds
  | _ => []
def okSize (h w : PyData) : Bool := isWithin h 1 10 && isWithin w 1 20
def okRow (n : Nat) (c : PyData) : Bool := decide (lenT c = n) && (itemsT c).all isCell
def isRows (d : PyData) : Bool := match d with
  | .tuple (r0 :: rs) => (r0 :: rs).all isT && (okSize (.int (rs.length + 1 : Nat)) (.int (lenT r0 : Nat)) && (r0 :: rs).all (okRow (lenT r0)))
  | _ => false
def isFace (d : PyData) : Bool := match d with
  | .tuple [rows, row, col] => isRows rows && (isWithin row 0 ((lenT rows : Int) - 1) && isWithin col 0 ((lenT ((itemsT rows).headD .none) : Int) - 1))
  | _ => false
section
variable {P : Program} {w : World} {K : PySem.W.Frag} {mg : Str → Option Value} {base : Heap} {f C : Addr} {fd : FuncData}
def frSign : List PyData → Rs → Prop := fun ds r => ∃ d, ds = [d] ∧ r = .ok (.bool (isSign d)) ∧ smS d
def frCell : List PyData → Rs → Prop := fun ds r => ∃ d, ds = [d] ∧ r = .ok (.bool (isCell d)) ∧ smC d
theorem two_of {d : PyData} (h : isTupleOf d 2 = true) : ∃ a b, d = .tuple [a, b] := by
  cases d with
  | tuple ds =>
    have e : (ds.length : Int) = 2 := of_decide_eq_true h
    match ds, e with
    | [a, b], _ => exact ⟨a, b, rfl⟩
    | [], e => exact absurd e (by simp)
    | [_], e => exact absurd e (by simp)
    | _ :: _ :: _ :: r, e => exact absurd e (by simp only [List.length_cons]; omega)
  | _ => cases h
def frSize (C : Addr) : List PyData → Rs → Prop := fun ds r => ∃ h w, ds = [h, w] ∧ r = if okSize h w then .ok .none else .er C
theorem sc_size : FnScope ["height", "width"] ["height", "width"] (defScope s_need_size) := ⟨rfl, rfl, rfl, by decide +kernel, rfl, by decide +kernel, by decide +kernel⟩
theorem ok_size (F : Df K "need_size" s_need_size f fd) (hm : mg "need_size" = some (.ref f)) (X1 : ExcF K mg "BadFace" C) (G1 : DefOk P w K mg base 2 "is_within" frWithin) (g1 : GlD K mg "MOST_ROWS" (.int 10)) (g2 : GlD K mg "MOST_COLUMNS" (.int 20)) :
    DefOk P w K mg base 3 "need_size" (frSize C) := by
  refine def_ok F hm sc_size (fun _ _ _ _ _ _ us hl => match us, hl with | [_, _], _ => rfl) (fun ds r h => by obtain ⟨_, _, rfl, _⟩ := h; rfl) (fun cdv A outer s H E qs ds r hr h => ?_)
  obtain ⟨a, b, rfl, rfl⟩ := h
  cases h1 : isWithin a 1 10 with
  | false =>
    refine sd_ifT (pt_notd (k := false) (pt_bool (pd_call G1 hr (pds_cons (pd_var 0) (pds_cons pd_int (pds_cons (pd_glob g1) pds_nil))) ⟨_, _, _, rfl, by rw [h1]⟩))) (sd_raise X1 (L2N.takes_of rfl rfl rfl rfl) ?_ rfl)
    show (if okSize a b = true then Rs.ok .none else Rs.er C) = Rs.er C
    unfold okSize
    rw [h1]
    rfl
  | true =>
    refine sd_ifF (pt_notd (k := true) (pt_bool (pd_call G1 hr (pds_cons (pd_var 0) (pds_cons pd_int (pds_cons (pd_glob g1) pds_nil))) ⟨_, _, _, rfl, by rw [h1]⟩))) ?_
    cases h2 : isWithin b 1 20 with
    | false =>
      refine sd_ifT (pt_notd (k := false) (pt_bool (pd_call G1 hr (pds_cons (pd_var 1) (pds_cons pd_int (pds_cons (pd_glob g2) pds_nil))) ⟨_, _, _, rfl, by rw [h2]⟩))) (sd_raise X1 (L2N.takes_of rfl rfl rfl rfl) ?_ rfl)
      show (if okSize a b = true then Rs.ok .none else Rs.er C) = Rs.er C
      unfold okSize
      rw [h1, h2]
      rfl
    | true =>
      refine sd_ifF (pt_notd (k := true) (pt_bool (pd_call G1 hr (pds_cons (pd_var 1) (pds_cons pd_int (pds_cons (pd_glob g2) pds_nil))) ⟨_, _, _, rfl, by rw [h2]⟩))) (sd_nil ?_)
      show (if okSize a b = true then Rs.ok .none else Rs.er C) = Rs.ok .none
      unfold okSize
      rw [h1, h2]
      rfl
def frRows (C : Addr) : List PyData → Rs → Prop := fun ds r => ∃ d, ds = [d] ∧ (r = if isRows d then .ok .none else .er C) ∧ smRs d
theorem isT_of {d : PyData} (h : isT d = true) : ∃ ds, d = .tuple ds := by
  cases d with
  | tuple ds => exact ⟨ds, rfl⟩
  | _ => cases h
end
end K21

namespace K21
open PySem PySem.Spec PyProof.Rows L2 FP
section
variable {P : Program} {w : World} {K : PySem.W.Frag} {mg : Str → Option Value} {base : Heap} {f C : Addr} {fd : FuncData}
def frFace (C : Addr) : List PyData → Rs → Prop := fun ds r => ∃ d, ds = [d] ∧ (r = if isFace d then .ok .none else .er C) ∧ smF d
theorem three_of {d : PyData} (h : isTupleOf d 3 = true) : ∃ a b c, d = .tuple [a, b, c] := by
  cases d with
  | tuple ds =>
    have e : (ds.length : Int) = 3 := of_decide_eq_true h
    match ds, e with
    | [a, b, c], _ => exact ⟨a, b, c, rfl⟩
    | [], e => exact absurd e (by simp)
    | [_], e => exact absurd e (by simp)
    | [_, _], e => exact absurd e (by simp)
    | _ :: _ :: _ :: _ :: r, e => exact absurd e (by simp only [List.length_cons]; omega)
  | _ => cases h
theorem rows_of {d : PyData} (h : isRows d = true) : ∃ c0 rs, d = .tuple (.tuple c0 :: rs) := by
  cases d with
  | tuple ds =>
    cases ds with
    | nil => cases h
    | cons r0 rs =>
      have h1 : ((r0 :: rs).all isT && _) = true := h
      rw [Bool.and_eq_true] at h1
      have h2 := h1.1
      rw [List.all_cons, Bool.and_eq_true] at h2
      obtain ⟨c0, rfl⟩ := isT_of h2.1
      exact ⟨c0, rs, rfl⟩
  | _ => cases h
/-! ### faces made -/
def blankC : PyData := .tuple [.str (Str.ofString " "), .int 0]
def frBlankCells : List PyData → Rs → Prop := fun ds r => ∃ n : Int, ds = [.int n] ∧ -1000 ≤ n ∧ n ≤ 1000 ∧ r = .ok (.tuple (List.replicate n.toNat blankC))
theorem sc_bcells : FnScope ["width"] ["width"] (defScope s_blank_cells) := ⟨rfl, rfl, rfl, by decide +kernel, rfl, by decide +kernel, by decide +kernel⟩
theorem ok_bcells (F : Df K "blank_cells" s_blank_cells f fd) (hm : mg "blank_cells" = some (.ref f)) (g : GlD K mg "BLANK" blankC) : DefOk P w K mg base 1 "blank_cells" frBlankCells := by
  refine def_ok F hm sc_bcells (fun _ _ _ _ _ _ us hl => match us, hl with | [_], _ => rfl) (fun ds r h => by obtain ⟨_, rfl, _⟩ := h; rfl) (fun cdv A outer s H E qs ds r hr h => ?_)
  obtain ⟨n, rfl, h1, h2, rfl⟩ := h
  refine sd_ret (pd_rep1 (pd_tup (pds_cons (pd_glob g) pds_nil)) (pd_var 0) h1 h2) ?_
  exact rfl
def blankF (h w : Nat) : PyData := .tuple [.tuple (List.replicate h (.tuple (List.replicate w blankC))), .int 0, .int 0]
def frBlank (C : Addr) : List PyData → Rs → Prop := fun ds r => ∃ h w : Int, ds = [.int h, .int w] ∧ r = if okSize (.int h) (.int w) then .ok (blankF h.toNat w.toNat) else .er C
theorem sc_blank : FnScope ["height", "width"] ["height", "width"] (defScope s_blank) := ⟨rfl, rfl, rfl, by decide +kernel, rfl, by decide +kernel, by decide +kernel⟩
theorem size_b {h w : Int} (e : okSize (.int h) (.int w) = true) : 1 ≤ h ∧ h ≤ 10 ∧ 1 ≤ w ∧ w ≤ 20 := by
  have e1 : ((decide (1 ≤ h) && decide (h ≤ 10)) && (decide (1 ≤ w) && decide (w ≤ 20))) = true := e
  simp only [Bool.and_eq_true, decide_eq_true_eq] at e1
  omega
theorem ok_blank (F : Df K "blank" s_blank f fd) (hm : mg "blank" = some (.ref f)) (G1 : DefOk P w K mg base 3 "need_size" (frSize C)) (G2 : DefOk P w K mg base 1 "blank_cells" frBlankCells) : DefOk P w K mg base 4 "blank" (frBlank C) := by
  refine def_ok F hm sc_blank (fun _ _ _ _ _ _ us hl => match us, hl with | [_, _], _ => rfl) (fun ds r h => by obtain ⟨_, _, rfl, _⟩ := h; rfl) (fun cdv A outer s H E qs ds r hr h => ?_)
  obtain ⟨h, w, rfl, er⟩ := h
  refine sd_callX G1 hr (L2N.takes_of rfl rfl rfl rfl) (pds_cons (pd_var 0) (pds_cons (pd_var 1) pds_nil)) ⟨_, _, rfl, rfl⟩ (fun d0 h0 => ?_) (fun C' h0 => ?_)
  · have hs : okSize (.int h) (.int w) = true := by
      cases z : okSize (.int h) (.int w) with
      | true => rfl
      | false => rw [z] at h0; cases h0
    obtain ⟨b1, b2, b3, b4⟩ := size_b hs
    rw [hs] at er
    refine sd_ret (pd_tup (pds_cons (pd_rep1 (pd_tup (pds_cons (pd_call (G2.mono (by decide)) hr (pds_cons (pd_var 1) pds_nil) ⟨_, rfl, by omega, by omega, rfl⟩) pds_nil)) (pd_var 0) (by omega) (by omega)) (pds_cons pd_int (pds_cons pd_int pds_nil)))) ?_
    exact er
  · show r = Rs.er C'
    have hs : okSize (.int h) (.int w) = false := by
      cases z : okSize (.int h) (.int w) with
      | false => rfl
      | true => rw [z] at h0; cases h0
    rw [hs] at h0 er
    cases h0
    exact er
/-! ### fitted -/
theorem cut_to (ds : List PyData) (n : Nat) : FP.cutD ds none (some (n : Int)) = ds.take n := by
  unfold FP.cutD
  rw [HT.sIx_none, HT.sIx_nat, List.drop_zero, Nat.sub_zero]
  rcases Nat.le_total n ds.length with h | h
  · rw [Nat.min_eq_left h]
  · rw [Nat.min_eq_right h, List.take_length, List.take_of_length_le h]
theorem cut_from (ds : List PyData) (n : Nat) : FP.cutD ds (some (n : Int)) none = ds.drop n := by
  unfold FP.cutD
  rw [HT.sIx_none, HT.sIx_nat]
  rcases Nat.le_total n ds.length with h | h
  · rw [Nat.min_eq_left h, List.take_of_length_le (by rw [List.length_drop]; exact Nat.le_refl _)]
  · rw [Nat.min_eq_right h, List.drop_length, List.drop_of_length_le h, List.take_nil]
end
end K21

namespace K21
open PySem PySem.Spec PyProof.Rows L2 FP
theorem cell_of {d : PyData} (h : isCell d = true) : ∃ (c : Nat) (i : Int), d = .tuple [.str ⟨#[c]⟩, .int i] ∧ okSign c = true ∧ 0 ≤ i ∧ i ≤ 7 := by
  cases d with
  | tuple ds => match ds, h with
    | [], h => cases h
    | [_], h => cases h
    | _ :: _ :: _ :: _, h => cases h
    | [a, b], h =>
      have h1 : (isSign a && isWithin b 0 7) = true := h
      rw [Bool.and_eq_true] at h1
      obtain ⟨h1, h2⟩ := h1
      cases a with
      | str z =>
        cases b with
        | int i =>
          have h1 : (z.cps.toList.all okSign && decide (z.length = 1)) = true := h1
          have h2 : (decide (0 ≤ i) && decide (i ≤ 7)) = true := h2
          rw [Bool.and_eq_true, decide_eq_true_eq] at h1
          rw [Bool.and_eq_true, decide_eq_true_eq, decide_eq_true_eq] at h2
          obtain ⟨c⟩ := z
          have hs : c.toList.length = 1 := by rw [Array.length_toList]; exact h1.2
          match hc : c.toList, hs with
          | [k], _ =>
            have e : c = #[k] := Array.toList_inj.mp (by rw [hc])
            subst e
            have h3 := h1.1
            have h4 : ([k].all okSign) = true := h3
            rw [List.all_cons, Bool.and_eq_true] at h4
            exact ⟨k, i, rfl, h4.1, h2.1, h2.2⟩
        | _ => cases h2
      | _ => cases h1
  | _ => cases h
end K21

namespace K21
open PySem PySem.Spec PyProof.Rows L2 FP
section
variable {P : Program} {w : World} {K : PySem.W.Frag} {mg : Str → Option Value} {base : Heap} {f C : Addr} {fd : FuncData}
/-! ### the law's draws -/
def cellAt (ns : List Int) (k : Nat) : Int := if ns = [] then (k : Int) * 7919 else ns.getD (k % ns.length) 0 + ((k / ns.length : Nat) : Int) * 104729
def bitsOk (z : Int) : Prop := z.natAbs < 2 ^ 1048577
def frLCell : List PyData → Rs → Prop := fun ds r => ∃ (ns : List Int) (k : Nat), ds = [.list (ns.map .int), .int (k : Int)] ∧ ns.length ≤ 63 ∧ k ≤ 63 ∧ r = .ok (.int (cellAt ns k))
theorem sc_lcell : FnScope ["_law_script", "_law_k"] ["_law_script", "_law_k"] (defScope s__law_cell) := ⟨rfl, rfl, rfl, by decide +kernel, rfl, by decide +kernel, by decide +kernel⟩
theorem shp_ints (ns : List Int) : Shp 1 (.list (ns.map PyData.int)) := Shp.lst fun x h => by
  obtain ⟨n, _, rfl⟩ := List.mem_map.mp h
  exact .int n
theorem cmul_small {i j : Int} (h : -(2 ^ 64) < j ∧ j < 2 ^ 64) : CMul i j := .inr h
theorem ok_lcell (F : Df K "_law_cell" s__law_cell f fd) (hm : mg "_law_cell" = some (.ref f)) (B : Bl mg) : DefOk P w K mg base 1 "_law_cell" frLCell := by
  refine def_ok F hm sc_lcell (fun _ _ _ _ _ _ us hl => match us, hl with | [_, _], _ => rfl) (fun ds r h => by obtain ⟨_, _, rfl, _⟩ := h; rfl) (fun cdv A outer s H E qs ds r hr h => ?_)
  obtain ⟨ns, k, rfl, h1, h2, rfl⟩ := h
  refine sd_if (pt_cmpd (op_eqD hr.units) (rd_eqD (shp_ints ns).ok rfl) (pd_var 0) (PN.pd (pn_lst pds_nil)) (nomark _)) (fun hk => ?_) (fun hk => sd_nil ?_)
  · have e : ns = [] := by
      cases ns with
      | nil => rfl
      | cons n ns => cases hk
    subst e
    refine sd_ret (pd_mulS (cmul_small (by decide)) (pd_var 1) pd_int) ?_
    exact rfl
  · have hne : ns ≠ [] := fun e => by
      subst e
      cases hk
    have hl : 0 < ns.length := List.length_pos_iff.mpr hne
    have hlt : k % ns.length < ns.length := Nat.mod_lt _ hl
    have e1 : ((k : Int) % ((ns.map PyData.int).length : Nat) : Int) = ((k % ns.length : Nat) : Int) := by
      rw [List.length_map]
      omega
    have hat : atI (ns.map PyData.int) ((k : Int) % ((ns.map PyData.int).length : Nat) : Int) = some (.int (ns.getD (k % ns.length) 0)) := by
      rw [e1]
      refine atI_nat ?_
      rw [List.getElem?_map, List.getD_eq_getElem?_getD, List.getElem?_eq_getElem hlt]
      rfl
    have hL : (0 : Int) < (((ns.map PyData.int).length : Nat) : Int) := by rw [List.length_map]; omega
    refine sd_ret (pd_add (pd_ixL (PD.pl (pd_var 0)) (pd_mod hL (pd_var 1) (pd_lenL B.len (PD.pl (pd_var 0)))) hat) (pd_mulS (cmul_small (by decide)) (pd_fdiv (wide_div (b := 20) hL ?_ (by decide) (by decide)) (pd_var 1) (pd_lenL B.len (PD.pl (pd_var 0)))) pd_int)) ?_
    · rw [List.length_map]
      have : (2 : Nat) ^ 20 = 1048576 := by decide
      omega
    · show Rs.ok (.int (cellAt ns k)) = _
      unfold cellAt
      rw [if_neg hne]
      have e2 : ((k : Int) / (((ns.map PyData.int).length : Nat) : Int)) = ((k / ns.length : Nat) : Int) := by
        rw [List.length_map]
        omega
      rw [e2]
/-! drawn -/
def M1 : Int := 340282366920938463463374607431768211507
def M2 : Int := 340282366920938463463374607431768211297
def M3 : Int := 18446744073709551557
def drawn (c k : Int) : Int :=
  let a := (c * 6364136223846793005 + (k + 1) * 1442695040888963407) % M1
  let b := a * a % M2
  ((b % M3 + 1) * (b / M3 + 1) * b) % M1
theorem M1p : (0 : Int) < M1 := by decide
theorem M2p : (0 : Int) < M2 := by decide
theorem M3p : (0 : Int) < M3 := by decide
theorem drawn_b (c k : Int) : 0 ≤ drawn c k ∧ drawn c k < M1 := ⟨Int.emod_nonneg _ (by decide), Int.emod_lt_of_pos _ M1p⟩
def frDrawn : List PyData → Rs → Prop := fun ds r => ∃ c k : Int, ds = [.int c, .int k] ∧ r = .ok (.int (drawn c k))
theorem sc_drawn : FnScope ["_law_cell_here", "_law_k", "_law_more"] ["_law_cell_here", "_law_k"] (defScope s__law_drawn) := ⟨rfl, rfl, rfl, by decide +kernel, rfl, by decide +kernel, by decide +kernel⟩
theorem abs_lt {a : Int} {n : Nat} (h0 : 0 ≤ a) (h : a < ((2 ^ n : Nat) : Int)) : a.natAbs < 2 ^ n := by omega
theorem mod_abs (a : Int) {m : Int} (h : 0 < m) {n : Nat} (hm : m ≤ ((2 ^ n : Nat) : Int)) : (a % m).natAbs < 2 ^ n := abs_lt (Int.emod_nonneg _ (by omega)) (Int.lt_of_lt_of_le (Int.emod_lt_of_pos _ h) hm)
theorem ok_drawn (F : Df K "_law_drawn" s__law_drawn f fd) (hm : mg "_law_drawn" = some (.ref f)) : DefOk P w K mg base 1 "_law_drawn" frDrawn := by
  refine def_ok F hm sc_drawn (fun _ _ _ _ _ _ us hl => match us, hl with | [_, _], _ => rfl) (fun ds r h => by obtain ⟨_, _, rfl, _⟩ := h; rfl) (fun cdv A outer s H E qs ds r hr h => ?_)
  obtain ⟨c, k, rfl, rfl⟩ := h
  show SD _ _ _ _ _ _ (FP.Fin (.ok (.int (drawn c k))))
  refine sd_set 2 (pd_mod M1p (pd_add (pd_mulS (cmul_small (by decide)) (pd_var 0) pd_int) (pd_mulS (cmul_small (by decide)) (pd_add (pd_var 1) pd_int) pd_int)) pd_int) ?_ sc_drawn.nd
  have ha : ((c * 6364136223846793005 + (k + 1) * 1442695040888963407) % M1).natAbs < 2 ^ 129 := mod_abs _ M1p (by decide)
  have ed : drawn c k = (((((c * 6364136223846793005 + (k + 1) * 1442695040888963407) % M1) * ((c * 6364136223846793005 + (k + 1) * 1442695040888963407) % M1) % M2) % M3 + 1) * ((((c * 6364136223846793005 + (k + 1) * 1442695040888963407) % M1) * ((c * 6364136223846793005 + (k + 1) * 1442695040888963407) % M1) % M2) / M3 + 1) * (((c * 6364136223846793005 + (k + 1) * 1442695040888963407) % M1) * ((c * 6364136223846793005 + (k + 1) * 1442695040888963407) % M1) % M2)) % M1 := rfl
  rw [ed]
  generalize (c * 6364136223846793005 + (k + 1) * 1442695040888963407) % M1 = a at *
  refine sd_set 2 (pd_mod M2p (pd_mul (wide_mul ha ha (by decide) (by decide) (by decide)) (pd_var 2) (pd_var 2)) pd_int) ?_ sc_drawn.nd
  have hb : (a * a % M2).natAbs < 2 ^ 129 := mod_abs _ M2p (by decide)
  have hb0 : 0 ≤ a * a % M2 := Int.emod_nonneg _ (by decide)
  generalize a * a % M2 = b at *
  have h1 : (b % M3 + 1).natAbs < 2 ^ 65 := by
    have x1 := Int.emod_nonneg b (show M3 ≠ 0 by decide)
    have x2 := Int.emod_lt_of_pos b M3p
    have x3 : M3 + 1 < ((2 ^ 65 : Nat) : Int) := by decide
    exact abs_lt (by omega) (by omega)
  have h2 : (b / M3 + 1).natAbs < 2 ^ 130 := by
    have x1 : 0 ≤ b / M3 := Int.ediv_nonneg hb0 (by decide)
    have x2 : b / M3 ≤ b := Int.ediv_le_self _ hb0
    have x3 : b < ((2 ^ 129 : Nat) : Int) := by omega
    have x4 : ((2 ^ 129 : Nat) : Int) + 1 < ((2 ^ 130 : Nat) : Int) := by decide
    exact abs_lt (by omega) (by omega)
  have h3 : ((b % M3 + 1) * (b / M3 + 1)).natAbs < 2 ^ 195 := by
    rw [Int.natAbs_mul]
    calc (b % M3 + 1).natAbs * (b / M3 + 1).natAbs < 2 ^ 65 * 2 ^ 130 := Nat.mul_lt_mul'' h1 h2
      _ = 2 ^ 195 := by decide
  refine sd_set 2 (pd_mul (wide_mul h3 hb (by decide) (by decide) (by decide)) (pd_mul (wide_mul h1 h2 (by decide) (by decide) (by decide)) (pd_add (pd_mod M3p (pd_var 2) pd_int) pd_int) (pd_add (pd_fdiv (wide_div (b := 65) M3p (by decide) (by decide) (by decide)) (pd_var 2) pd_int) pd_int)) (pd_var 2)) ?_ sc_drawn.nd
  refine sd_ret (pd_mod M1p (pd_var 2) pd_int) ?_
  exact rfl
/-! ### cells, sizes, faces -/
def sgs : List Nat := [32, 32, 97, 98, 126, 94]
def iks : List Int := [0, 0, 0, 1, 7]
def cellD (c : Nat) (i : Int) : PyData := .tuple [.str ⟨#[c]⟩, .int i]
def cellOfD (m : Int) : PyData := cellD (sgs.getD (m % 6).toNat 0) (iks.getD (m / 8 % 5).toNat 0)
def frCellOf : List PyData → Rs → Prop := fun ds r => ∃ m : Int, ds = [.int m] ∧ r = .ok (cellOfD m)
theorem mod_nat (m : Int) (n : Nat) (h : 0 < n) : ∃ j : Nat, m % (n : Int) = (j : Int) ∧ j < n := ⟨(m % (n : Int)).toNat, by have := Int.emod_nonneg m (show (n : Int) ≠ 0 by omega); omega, by have := Int.emod_nonneg m (show (n : Int) ≠ 0 by omega); have := Int.emod_lt_of_pos m (show (0 : Int) < n by omega); omega⟩
def sizeD (m : Int) : Int × Int := (1 + m % (([3, 10] : List Int).getD (m / 16 % 2).toNat 1), 1 + m / 64 % (([4, 9, 20] : List Int).getD (m / 2048 % 3).toNat 1))
def frLSize : List PyData → Rs → Prop := fun ds r => ∃ m : Int, ds = [.int m] ∧ r = .ok (.tuple [.int (sizeD m).1, .int (sizeD m).2])
theorem sc_lsize : FnScope ["_law_more"] ["_law_more"] (defScope s__law_size) := ⟨rfl, rfl, rfl, by decide +kernel, rfl, by decide +kernel, by decide +kernel⟩
theorem size_le (m : Int) : 1 ≤ (sizeD m).1 ∧ (sizeD m).1 ≤ 10 ∧ 1 ≤ (sizeD m).2 ∧ (sizeD m).2 ≤ 20 := by
  obtain ⟨j1, e1, l1⟩ := mod_nat (m / 16) 2 (by decide)
  obtain ⟨j2, e2, l2⟩ := mod_nat (m / 2048) 3 (by decide)
  have e1 : m / 16 % 2 = (j1 : Int) := e1
  have e2 : m / 2048 % 3 = (j2 : Int) := e2
  unfold sizeD
  rw [e1, e2]
  show 1 ≤ 1 + m % (([3, 10] : List Int).getD j1 1) ∧ 1 + m % (([3, 10] : List Int).getD j1 1) ≤ 10 ∧ 1 ≤ 1 + m / 64 % (([4, 9, 20] : List Int).getD j2 1) ∧ 1 + m / 64 % (([4, 9, 20] : List Int).getD j2 1) ≤ 20
  have a1 : 1 ≤ 1 + m % (([3, 10] : List Int).getD j1 1) ∧ 1 + m % (([3, 10] : List Int).getD j1 1) ≤ 10 := by
    match j1, l1 with
    | 0, _ => show 1 ≤ 1 + m % 3 ∧ 1 + m % 3 ≤ 10; omega
    | 1, _ => show 1 ≤ 1 + m % 10 ∧ 1 + m % 10 ≤ 10; omega
    | n + 2, h => omega
  have a2 : 1 ≤ 1 + m / 64 % (([4, 9, 20] : List Int).getD j2 1) ∧ 1 + m / 64 % (([4, 9, 20] : List Int).getD j2 1) ≤ 20 := by
    match j2, l2 with
    | 0, _ => show 1 ≤ 1 + m / 64 % 4 ∧ 1 + m / 64 % 4 ≤ 20; omega
    | 1, _ => show 1 ≤ 1 + m / 64 % 9 ∧ 1 + m / 64 % 9 ≤ 20; omega
    | 2, _ => show 1 ≤ 1 + m / 64 % 20 ∧ 1 + m / 64 % 20 ≤ 20; omega
    | n + 3, h => omega
  exact ⟨a1.1, a1.2, a2.1, a2.2⟩
theorem ok_lsize (F : Df K "_law_size" s__law_size f fd) (hm : mg "_law_size" = some (.ref f)) : DefOk P w K mg base 1 "_law_size" frLSize := by
  refine def_ok F hm sc_lsize (fun _ _ _ _ _ _ us hl => match us, hl with | [_], _ => rfl) (fun ds r h => by obtain ⟨_, rfl, _⟩ := h; rfl) (fun cdv A outer s H E qs ds r hr h => ?_)
  obtain ⟨m, rfl, rfl⟩ := h
  obtain ⟨j1, e1, l1⟩ := mod_nat (m / 16) 2 (by decide)
  obtain ⟨j2, e2, l2⟩ := mod_nat (m / 2048) 3 (by decide)
  have e1 : m / 16 % 2 = (j1 : Int) := e1
  have e2 : m / 2048 % 3 = (j2 : Int) := e2
  have p1 : (0 : Int) < ([3, 10] : List Int).getD j1 1 := by
    match j1, l1 with
    | 0, _ => decide
    | 1, _ => decide
    | n + 2, h => omega
  have p2 : (0 : Int) < ([4, 9, 20] : List Int).getD j2 1 := by
    match j2, l2 with
    | 0, _ => decide
    | 1, _ => decide
    | 2, _ => decide
    | n + 3, h => omega
  refine sd_ret (pd_tup (pds_cons (pd_add pd_int (pd_mod p1 (pd_var 0) (pd_ixL (d := .int (([3, 10] : List Int).getD j1 1)) (PN.pl (pn_lst (pds_cons pd_int (pds_cons pd_int pds_nil)))) (pd_mod (by decide) (pd_fdiv (wide_div (b := 20) (by decide) (by decide) (by decide) (by decide)) (pd_var 0) pd_int) pd_int) ?_)))
    (pds_cons (pd_add pd_int (pd_mod p2 (pd_fdiv (wide_div (b := 20) (by decide) (by decide) (by decide) (by decide)) (pd_var 0) pd_int) (pd_ixL (d := .int (([4, 9, 20] : List Int).getD j2 1)) (PN.pl (pn_lst (pds_cons pd_int (pds_cons pd_int (pds_cons pd_int pds_nil))))) (pd_mod (by decide) (pd_fdiv (wide_div (b := 20) (by decide) (by decide) (by decide) (by decide)) (pd_var 0) pd_int) pd_int) ?_))) pds_nil))) ?_
  · rw [e1]
    refine atI_nat ?_
    match j1, l1 with
    | 0, _ => rfl
    | 1, _ => rfl
    | n + 2, h => omega
  · rw [e2]
    refine atI_nat ?_
    match j2, l2 with
    | 0, _ => rfl
    | 1, _ => rfl
    | 2, _ => rfl
    | n + 3, h => omega
  · show Rs.ok (.tuple [.int (1 + m % (([3, 10] : List Int).getD (m / 16 % 2).toNat 1)), .int (1 + m / 64 % (([4, 9, 20] : List Int).getD (m / 2048 % 3).toNat 1))]) = _
    rw [e1, e2]
    rfl
end
end K21

namespace K21
open PySem PySem.Spec PyProof.Rows L2 FP
section
variable {P : Program} {w : World} {K : PySem.W.Frag} {mg : Str → Option Value} {base : Heap} {f C : Addr} {fd : FuncData}
/-! ### a drawn face -/
def rowL (m : Int) (wd j : Nat) : List PyData := if drawn m j % 3 = 0 then List.replicate wd blankC else (List.range wd).map fun (n : Nat) => cellOfD (drawn (drawn m j) n)
def rowsL (m : Int) (h wd : Nat) : List PyData := (List.range h).map fun (j : Nat) => .tuple (rowL m wd j)
def faceL (m : Int) (h wd : Nat) : PyData := .tuple [.tuple (rowsL m h wd), .int (m / 8 % (h : Int)), .int (m / 128 % (wd : Int))]
def frLFace : List PyData → Rs → Prop := fun ds r => ∃ (m : Int) (h wd : Nat), ds = [.int m, .int (h : Int), .int (wd : Int)] ∧ 1 ≤ h ∧ h ≤ 10 ∧ 1 ≤ wd ∧ wd ≤ 20 ∧ r = .ok (faceL m h wd)
abbrev NF : List Str := ["_law_more", "_law_height", "_law_width", "_law_rows", "_law_j", "_law_here", "_law_cells", "_law_n"]
theorem rangeD_nat (n : Nat) : (rangeD 0 ((n : Nat) : Int).toNat).length = n := by
  rw [rangeD_len]
  omega
theorem rangeD_at {n i : Nat} {d : PyData} (h : (rangeD 0 ((n : Nat) : Int).toNat)[i]? = some d) : i < n ∧ d = .int (i : Int) := by
  have hl : i < n := by
    have := (List.getElem?_eq_some_iff.mp h).1
    rw [rangeD_nat] at this
    exact this
  have e : ((n : Nat) : Int).toNat = n := by omega
  rw [e, rangeD_get hl] at h
  cases h
  exact ⟨hl, by rw [Int.zero_add]⟩
theorem blank_eq : PyData.tuple [.str (Str.ofString " "), .int 0] = blankC := rfl
end
end K21

namespace K21
open PySem PySem.Spec PyProof.Rows L2 FP
/-! ### faces of a size -/
def Row (wd : Nat) (x : PyData) : Prop := ∃ cs, x = .tuple cs ∧ cs.length = wd ∧ ∀ y ∈ cs, isCell y = true
structure Fc (h wd : Nat) (d : PyData) (rs : List PyData) (r c : Nat) : Prop where
  eq : d = .tuple [.tuple rs, .int (r : Int), .int (c : Int)]
  len : rs.length = h
  row : ∀ x ∈ rs, Row wd x
  hr : r < h
  hc : c < wd
  h10 : h ≤ 10
  w20 : wd ≤ 20
section
variable {h wd r c H W : Nat} {d : PyData} {rs : List PyData}
theorem Fc.face (F : Fc h wd d rs r c) : isFace d = true := by
  obtain ⟨rfl, hl, row, hr, hc, h10, w20⟩ := F
  match rs, hl, row with
  | [], hl, _ => simp at hl; omega
  | x0 :: rest, hl, row =>
    obtain ⟨c0, rfl, l0, a0⟩ := row x0 List.mem_cons_self
    have e1 : (PyData.tuple c0 :: rest).all isT = true := List.all_eq_true.mpr fun x hx => by
      obtain ⟨cs, rfl, _⟩ := row x hx
      rfl
    have e2 : okSize (.int ((rest.length + 1 : Nat) : Int)) (.int ((c0.length : Nat) : Int)) = true := by
      rw [List.length_cons] at hl
      show ((decide ((1 : Int) ≤ ((rest.length + 1 : Nat) : Int)) && decide (((rest.length + 1 : Nat) : Int) ≤ 10)) && (decide ((1 : Int) ≤ ((c0.length : Nat) : Int)) && decide (((c0.length : Nat) : Int) ≤ 20))) = true
      rw [decide_eq_true (by omega), decide_eq_true (by omega), decide_eq_true (by omega), decide_eq_true (by omega)]
      rfl
    have e3 : (PyData.tuple c0 :: rest).all (okRow c0.length) = true := List.all_eq_true.mpr fun x hx => by
      obtain ⟨cs, rfl, l, a⟩ := row x hx
      show (decide (cs.length = c0.length) && cs.all isCell) = true
      rw [decide_eq_true (by omega), List.all_eq_true.mpr a]
      rfl
    have e4 : isRows (.tuple (.tuple c0 :: rest)) = true := by
      show ((PyData.tuple c0 :: rest).all isT && (okSize (.int ((rest.length + 1 : Nat) : Int)) (.int ((c0.length : Nat) : Int)) && (PyData.tuple c0 :: rest).all (okRow c0.length))) = true
      rw [e1, e2, e3]
      rfl
    show (isRows _ && ((decide ((0 : Int) ≤ (r : Int)) && decide ((r : Int) ≤ (((PyData.tuple c0 :: rest).length : Nat) : Int) - 1)) && (decide ((0 : Int) ≤ (c : Int)) && decide ((c : Int) ≤ ((c0.length : Nat) : Int) - 1)))) = true
    rw [e4, decide_eq_true (by omega), decide_eq_true (by omega), decide_eq_true (by omega), decide_eq_true (by omega)]
    rfl
theorem sm_cell {y : PyData} (h : isCell y = true) : smC y := by
  obtain ⟨k, i, rfl, _⟩ := cell_of h
  intro ds e x hx
  cases e
  intro z ez
  rcases List.mem_cons.mp hx with q | q
  · subst q
    cases ez
    exact (by decide : (1 : Nat) ≤ 1000)
  · rcases List.mem_cons.mp q with q | q
    · subst q
      cases ez
    · cases q
theorem Fc.small (F : Fc h wd d rs r c) : smF d := by
  obtain ⟨rfl, hl, row, hr, hc, h10, w20⟩ := F
  intro ds e x hx
  cases e
  intro es ee
  subst ee
  rcases List.mem_cons.mp hx with q | q
  · cases q
    refine ⟨by omega, fun y hy => ?_⟩
    obtain ⟨cs, rfl, l, a⟩ := row y hy
    intro es ee
    cases ee
    exact ⟨by omega, fun z hz => sm_cell (a z hz)⟩
  · simp at q
theorem shp_cell {y : PyData} (h : isCell y = true) : Shp 1 y := by
  obtain ⟨k, i, rfl, hk, _⟩ := cell_of h
  refine .tup fun x hx => ?_
  rcases List.mem_cons.mp hx with q | q
  · subst q
    refine .str ?_
    unfold okSign at hk
    simp only [Bool.and_eq_true, decide_eq_true_eq] at hk
    show (#[k].all (· < 0x110000)) = true
    simp
    omega
  · rcases List.mem_cons.mp q with q | q
    · subst q
      exact .int i
    · cases q
theorem Fc.shp (F : Fc h wd d rs r c) : Shp 4 d := by
  obtain ⟨rfl, hl, row, hr, hc, h10, w20⟩ := F
  refine .tup fun x hx => ?_
  rcases List.mem_cons.mp hx with q | q
  · subst q
    refine .tup fun y hy => ?_
    obtain ⟨cs, rfl, l, a⟩ := row y hy
    exact .tup fun z hz => shp_cell (a z hz)
  · rcases List.mem_cons.mp q with q | q
    · subst q
      exact .int _
    · rcases List.mem_cons.mp q with q | q
      · subst q
        exact .int _
      · cases q
theorem blank_cell : isCell blankC = true := by decide +kernel
theorem iks_b (j : Nat) (h : j < 5) : 0 ≤ iks.getD j 0 ∧ iks.getD j 0 ≤ 7 := by
  match j, h with
  | 0, _ => decide
  | 1, _ => decide
  | 2, _ => decide
  | 3, _ => decide
  | 4, _ => decide
  | n + 5, h => omega
theorem sgs_b (j : Nat) (h : j < 6) : okSign (sgs.getD j 0) = true := by
  match j, h with
  | 0, _ => decide
  | 1, _ => decide
  | 2, _ => decide
  | 3, _ => decide
  | 4, _ => decide
  | 5, _ => decide
  | n + 6, h => omega
theorem cell_ok {k : Nat} {i : Int} (hk : okSign k = true) (h0 : 0 ≤ i) (h7 : i ≤ 7) : isCell (cellD k i) = true := by
  show (([k].all okSign && decide (1 = 1)) && (decide (0 ≤ i) && decide (i ≤ 7))) = true
  rw [List.all_cons, hk, decide_eq_true h0, decide_eq_true h7]
  rfl
theorem cellOf_ok (m : Int) : isCell (cellOfD m) = true := by
  obtain ⟨j1, e1, l1⟩ := mod_nat m 6 (by decide)
  obtain ⟨j2, e2, l2⟩ := mod_nat (m / 8) 5 (by decide)
  have e1 : m % 6 = (j1 : Int) := e1
  have e2 : m / 8 % 5 = (j2 : Int) := e2
  unfold cellOfD
  rw [e1, e2]
  exact cell_ok (sgs_b j1 l1) (iks_b j2 l2).1 (iks_b j2 l2).2
theorem rowL_row (m : Int) (wd j : Nat) : Row wd (.tuple (rowL m wd j)) := by
  refine ⟨_, rfl, ?_, fun y hy => ?_⟩
  · unfold rowL
    split
    · exact List.length_replicate
    · rw [List.length_map, List.length_range]
  · unfold rowL at hy
    split at hy
    · rw [(List.mem_replicate.mp hy).2]
      exact blank_cell
    · obtain ⟨n, _, rfl⟩ := List.mem_map.mp hy
      exact cellOf_ok _
theorem faceL_fc (m : Int) (h1 : 1 ≤ h) (h2 : h ≤ 10) (w1 : 1 ≤ wd) (w2 : wd ≤ 20) : Fc h wd (faceL m h wd) (rowsL m h wd) (m / 8 % (h : Int)).toNat (m / 128 % (wd : Int)).toNat := by
  obtain ⟨j1, e1, l1⟩ := mod_nat (m / 8) h h1
  obtain ⟨j2, e2, l2⟩ := mod_nat (m / 128) wd w1
  refine ⟨?_, by unfold rowsL; rw [List.length_map, List.length_range], fun x hx => ?_, by rw [e1]; exact l1, by rw [e2]; exact l2, h2, w2⟩
  · unfold faceL
    rw [e1, e2]
    rfl
  · obtain ⟨j, _, rfl⟩ := List.mem_map.mp hx
    exact rowL_row m wd j
theorem blankF_fc (h1 : 1 ≤ h) (h2 : h ≤ 10) (w1 : 1 ≤ wd) (w2 : wd ≤ 20) : Fc h wd (blankF h wd) (List.replicate h (.tuple (List.replicate wd blankC))) 0 0 := by
  refine ⟨rfl, List.length_replicate, fun x hx => ?_, by omega, by omega, h2, w2⟩
  rw [(List.mem_replicate.mp hx).2]
  exact ⟨_, rfl, List.length_replicate, fun y hy => by rw [(List.mem_replicate.mp hy).2]; exact blank_cell⟩
end
end K21

namespace K21
open PySem PySem.Spec PyProof.Rows L2 FP
section
variable {P : Program} {w : World} {K : PySem.W.Frag} {mg : Str → Option Value} {base : Heap} {f C : Addr} {fd : FuncData}
/-! ### things pushed and pulled -/
def pushD (ts : List PyData) (i n : Nat) (d : PyData) : List PyData := (ts.take i ++ List.replicate n d ++ ts.drop i).take ts.length
def pullD (ts : List PyData) (i n : Nat) (d : PyData) : List PyData := (ts.take i ++ ts.drop (i + n)) ++ List.replicate (ts.length - (ts.take i ++ ts.drop (i + n)).length) d
def frPush : List PyData → Rs → Prop := fun ds r => ∃ (ts : List PyData) (i n : Nat) (d : PyData), ds = [.tuple ts, .int (i : Int), .int (n : Int), d] ∧ ts.length ≤ 100 ∧ i ≤ 100 ∧ n ≤ 100 ∧ r = .ok (.tuple (pushD ts i n d))
def frPull : List PyData → Rs → Prop := fun ds r => ∃ (ts : List PyData) (i n : Nat) (d : PyData), ds = [.tuple ts, .int (i : Int), .int (n : Int), d] ∧ ts.length ≤ 100 ∧ i ≤ 100 ∧ n ≤ 100 ∧ r = .ok (.tuple (pullD ts i n d))
theorem sc_push : FnScope ["things", "at", "many", "new"] ["things", "at", "many", "new"] (defScope s_pushed) := ⟨rfl, rfl, rfl, by decide +kernel, rfl, by decide +kernel, by decide +kernel⟩
theorem sc_pull : FnScope ["things", "at", "many", "new", "left"] ["things", "at", "many", "new"] (defScope s_pulled) := ⟨rfl, rfl, rfl, by decide +kernel, rfl, by decide +kernel, by decide +kernel⟩
theorem ok_push (F : Df K "pushed" s_pushed f fd) (hm : mg "pushed" = some (.ref f)) (B : Bl mg) : DefOk P w K mg base 1 "pushed" frPush := by
  refine def_ok F hm sc_push (fun _ _ _ _ _ _ us hl => match us, hl with | [_, _, _, _], _ => rfl) (fun ds r h => by obtain ⟨_, _, _, _, rfl, _⟩ := h; rfl) (fun cdv A outer s H E qs ds r hr h => ?_)
  obtain ⟨ts, i, n, d, rfl, h1, h2, h3, rfl⟩ := h
  have l1 := List.length_take_le i ts
  have l2 : (ts.drop i).length ≤ ts.length := by rw [List.length_drop]; omega
  refine sd_ret (d := .tuple (pushD ts i n d)) (PD.eq (pd_slT (i := none) (j := some ((ts.length : Nat) : Int)) (pd_catT (ds := ts.take i ++ List.replicate n d) (dt := ts.drop i) (pd_catT (ds := ts.take i) (dt := List.replicate n d) (PD.eq (pd_slT (i := none) (j := some ((i : Nat) : Int)) (pd_var 0) rfl ⟨_, rfl, pd_var 1⟩) (by rw [cut_to]))
    (PD.eq (pd_rep1 (k := (n : Int)) (pd_tup (pds_cons (pd_var 3) pds_nil)) (pd_var 2) (by omega) (by omega)) (by rw [show ((n : Nat) : Int).toNat = n by omega])) (by rw [List.length_replicate]; omega)) (PD.eq (pd_slT (i := some ((i : Nat) : Int)) (j := none) (pd_var 0) ⟨_, rfl, pd_var 1⟩ rfl) (by rw [cut_from])) (by rw [List.length_append, List.length_replicate]; omega)) rfl ⟨_, rfl, pd_lenT B.len (pd_var 0)⟩) (by rw [cut_to]; rfl)) rfl
theorem ok_pull (F : Df K "pulled" s_pulled f fd) (hm : mg "pulled" = some (.ref f)) (B : Bl mg) : DefOk P w K mg base 1 "pulled" frPull := by
  refine def_ok F hm sc_pull (fun _ _ _ _ _ _ us hl => match us, hl with | [_, _, _, _], _ => rfl) (fun ds r h => by obtain ⟨_, _, _, _, rfl, _⟩ := h; rfl) (fun cdv A outer s H E qs ds r hr h => ?_)
  obtain ⟨ts, i, n, d, rfl, h1, h2, h3, rfl⟩ := h
  have l1 := List.length_take_le i ts
  have l2 : (ts.drop (i + n)).length ≤ ts.length := by rw [List.length_drop]; omega
  refine sd_set 4 (d := .tuple (ts.take i ++ ts.drop (i + n))) (pd_catT (PD.eq (pd_slT (i := none) (j := some ((i : Nat) : Int)) (pd_var 0) rfl ⟨_, rfl, pd_var 1⟩) (by rw [cut_to])) (PD.eq (pd_slT (i := some (((i + n : Nat)) : Int)) (j := none) (pd_var 0) ⟨_, rfl, PD.eq (pd_add (pd_var 1) (pd_var 2)) (by congr 1)⟩ rfl) (by rw [cut_from])) (by omega)) ?_ sc_pull.nd
  have l3 : (ts.take i ++ ts.drop (i + n)).length ≤ ts.length := by
    rw [List.length_append, List.length_take, List.length_drop]
    omega
  refine sd_ret (PD.eq (pd_catT (pd_var 4) (PD.eq (pd_rep1 (k := (ts.length : Int) - ((ts.take i ++ ts.drop (i + n)).length : Int)) (pd_tup (pds_cons (pd_var 3) pds_nil)) (pd_sub (pd_lenT B.len (pd_var 0)) (pd_lenT B.len (pd_var 4))) (by omega) (by omega)) (by rw [show ((ts.length : Int) - ((ts.take i ++ ts.drop (i + n)).length : Int)).toNat = ts.length - (ts.take i ++ ts.drop (i + n)).length by omega])) (by rw [List.length_replicate]; omega)) rfl) rfl
/-! rolled -/
def rollD (rs : List PyData) (wd : Nat) (by_ : Int) : List PyData := if by_ < 0 then pushD rs 0 (-by_).toNat (.tuple (List.replicate wd blankC)) else pullD rs 0 by_.toNat (.tuple (List.replicate wd blankC))
def frRoll : List PyData → Rs → Prop := fun ds r => ∃ (c0 : List PyData) (rs : List PyData) (by_ : Int), ds = [.tuple (.tuple c0 :: rs), .int by_] ∧ rs.length < 100 ∧ c0.length ≤ 100 ∧ -100 ≤ by_ ∧ by_ ≤ 100 ∧ r = .ok (.tuple (rollD (.tuple c0 :: rs) c0.length by_))
theorem sc_roll : FnScope ["rows", "by", "new"] ["rows", "by"] (defScope s_rolled) := ⟨rfl, rfl, rfl, by decide +kernel, rfl, by decide +kernel, by decide +kernel⟩
theorem ok_roll (F : Df K "rolled" s_rolled f fd) (hm : mg "rolled" = some (.ref f)) (B : Bl mg) (G1 : DefOk P w K mg base 1 "pushed" frPush) (G2 : DefOk P w K mg base 1 "pulled" frPull) (G3 : DefOk P w K mg base 1 "blank_cells" frBlankCells) : DefOk P w K mg base 2 "rolled" frRoll := by
  refine def_ok F hm sc_roll (fun _ _ _ _ _ _ us hl => match us, hl with | [_, _], _ => rfl) (fun ds r h => by obtain ⟨_, _, _, rfl, _⟩ := h; rfl) (fun cdv A outer s H E qs ds r hr h => ?_)
  obtain ⟨c0, rs, by_, rfl, h1, h2, h3, h4, rfl⟩ := h
  refine sd_set 2 (d := .tuple (List.replicate c0.length blankC)) (PD.eq (pd_call G3 hr (pds_cons (pd_lenT B.len (pd_ixT (pd_var 0) pd_int atI0)) pds_nil) ⟨_, rfl, by omega, by omega, rfl⟩) (by rw [show ((c0.length : Nat) : Int).toNat = c0.length by omega])) ?_ sc_roll.nd
  refine sd_if (pt_cmpd op_lt rd_B0 (pd_var 1) pd_int (nomark _)) (fun hk => ?_) (fun hk => sd_nil ?_)
  · have hlt := of_decide_eq_true hk
    refine sd_ret (pd_call G1 hr (pds_cons (pd_var 0) (pds_cons pd_int (pds_cons (pd_neg (pd_var 1)) (pds_cons (pd_var 2) pds_nil)))) ⟨_, 0, (-by_).toNat, _, by rw [show (((-by_).toNat : Nat) : Int) = -by_ by omega]; rfl, by simp; omega, by decide, by omega, rfl⟩) ?_
    unfold rollD
    rw [if_pos hlt]
    exact rfl
  · have hge := of_decide_eq_false hk
    refine sd_ret (pd_call G2 hr (pds_cons (pd_var 0) (pds_cons pd_int (pds_cons (pd_var 1) (pds_cons (pd_var 2) pds_nil)))) ⟨_, 0, by_.toNat, _, by rw [show ((by_.toNat : Nat) : Int) = by_ by omega]; rfl, by simp; omega, by decide, by omega, rfl⟩) ?_
    unfold rollD
    rw [if_neg hge]
    exact rfl
end
end K21

namespace K21
open PySem PySem.Spec PyProof.Rows L2 FP
section
variable {P : Program} {w : World} {K : PySem.W.Frag} {mg : Str → Option Value} {base : Heap} {f C : Addr} {fd : FuncData}
/-! ### a face of a size -/
theorem face_ok {h wd r c : Nat} {d : PyData} {rs : List PyData} (F : Fc h wd d rs r c) : frFace C [d] (.ok .none) := by
  refine ⟨d, rfl, ?_, F.small⟩
  rw [F.face]
  rfl
theorem rd_neI' {K : PySem.W.Frag} {m n : Nat} (h : m = n) : RD K rNe (.int (m : Int)) (.int (n : Int)) (.bool false) := by
  have z := rd_neI (K := K) (i := (m : Int)) (j := (n : Int))
  rw [decide_eq_true (show (m : Int) = (n : Int) by omega)] at z
  exact z
def hgt : PyData → Int
  | .tuple (.tuple rs :: _) => rs.length
  | _ => 0
def wid : PyData → Int
  | .tuple (.tuple (.tuple c :: _) :: _) => c.length
  | _ => 0
def faceOf (d : PyData) (h w : Int) : Bool := isFace d && (decide (hgt d = h) && decide (wid d = w))
def frFos (C : Addr) : List PyData → Rs → Prop := fun ds s => ∃ (d : PyData) (h w : Int), ds = [d, .int h, .int w] ∧ smF d ∧ s = if faceOf d h w then .ok .none else .er C
theorem face_form {d : PyData} (h : isFace d = true) : ∃ c0 rs a b, d = .tuple [.tuple (.tuple c0 :: rs), a, b] := by
  unfold isFace at h
  split at h
  · rename_i x a b
    simp only [Bool.and_eq_true] at h
    obtain ⟨c0, rs, rfl⟩ := rows_of h.1
    exact ⟨c0, rs, a, b, rfl⟩
  · cases h
theorem fos_ok {h wd r c : Nat} {d : PyData} {rs : List PyData} (F : Fc h wd d rs r c) : faceOf d h wd = true := by
  unfold faceOf
  rw [F.face]
  have e := F.eq
  have hl := F.len
  have hr := F.hr
  have row := F.row
  subst e
  match rs, hl, row with
  | [], hl, _ => simp at hl; omega
  | x0 :: rest, hl, row =>
    obtain ⟨c0, rfl, l0, _⟩ := row x0 List.mem_cons_self
    show (true && (decide ((((PyData.tuple c0 :: rest).length : Nat) : Int) = (h : Int)) && decide (((c0.length : Nat) : Int) = (wd : Int)))) = true
    rw [decide_eq_true (by omega), decide_eq_true (by omega)]
    rfl
theorem fos_no {h wd r c : Nat} {d : PyData} {rs : List PyData} {h' w' : Int} (F : Fc h wd d rs r c) (hn : (h : Int) ≠ h' ∨ (wd : Int) ≠ w') : faceOf d h' w' = false := by
  unfold faceOf
  rw [F.face]
  have e := F.eq
  have hl := F.len
  have hr := F.hr
  have row := F.row
  subst e
  match rs, hl, row with
  | [], hl, _ => simp at hl; omega
  | x0 :: rest, hl, row =>
    obtain ⟨c0, rfl, l0, _⟩ := row x0 List.mem_cons_self
    show (true && (decide ((((PyData.tuple c0 :: rest).length : Nat) : Int) = h') && decide (((c0.length : Nat) : Int) = w'))) = false
    rcases hn with hn | hn
    · rw [decide_eq_false (by omega)]
      rfl
    · rw [decide_eq_false (p := ((c0.length : Nat) : Int) = w') (by omega), Bool.and_false]
      rfl
end
end K21

namespace K21
open PySem PySem.Spec PyProof.Rows L2 FP
section
variable {P : Program} {w : World} {K : PySem.W.Frag} {mg : Str → Option Value} {base : Heap} {f C : Addr} {fd : FuncData}
def prs (ls : List (Int × Int)) : List PyData := ls.map fun q => .tuple [.int q.1, .int q.2]
def within (xs : List PyData) (ls : List (Int × Int)) : List Bool := (xs.zip ls).map fun q => isWithin q.1 q.2.1 q.2.2
def anw (xs : List PyData) (ls : List (Int × Int)) : Bool := decide (xs.length = ls.length) && (within xs ls).all id
def frAnw : List PyData → Rs → Prop := fun ds r => ∃ (xs : List PyData) (ls : List (Int × Int)), ds = [.tuple xs, .tuple (prs ls)] ∧ xs.length ≤ 100 ∧ r = .ok (.bool (anw xs ls))
abbrev NA : List Str := ["numbers", "limits", "number", "least", "most"]
theorem sc_anw : FnScope NA ["numbers", "limits"] (defScope s_are_numbers_within) := ⟨rfl, rfl, rfl, by decide +kernel, rfl, by decide +kernel, by decide +kernel⟩
theorem ok_anw (F : Df K "are_numbers_within" s_are_numbers_within f fd) (hm : mg "are_numbers_within" = some (.ref f)) (B : Bl mg) (mz : mg "zip" = none) (G1 : DefOk P w K mg base 2 "is_within" frWithin) : DefOk P w K mg base 3 "are_numbers_within" frAnw := by
  refine def_ok F hm sc_anw (fun _ _ _ _ _ _ us hl => match us, hl with | [_, _], _ => rfl) (fun ds r h => by obtain ⟨_, _, rfl, _⟩ := h; rfl) (fun cdv A outer s H E qs ds r hr h => ?_)
  obtain ⟨xs, ls, rfl, h1, rfl⟩ := h
  have lp : (prs ls).length = ls.length := by unfold prs; rw [List.length_map]
  by_cases h2 : xs.length = ls.length
  · refine sd_ifF (pt_cmpd op_ne (rd_neI' (m := xs.length) (n := (prs ls).length) (by omega)) (pd_lenT B.len (pd_var 0)) (pd_lenT B.len (pd_var 1)) (nomark _)) ?_
    have e0 : anw xs ls = (within xs ls).all id := by
      unfold anw
      rw [decide_eq_true h2]
      rfl
    rw [e0]
    refine sd_ret (pd_all (bs := within xs ls) rfl B.all (PN.pl (pn_lcz (j1 := 2) (j2 := 3) (j3 := 4) (n1 := "number") (n2 := "least") (n3 := "most") (zs := (within xs ls).map .bool) (ls.map fun q => (PyData.int q.1, PyData.int q.2)) rfl sc_anw.nd mz (pd_var 0) (PD.eq (pd_var 1) ?eq) (by rw [List.length_map]; exact h2) ?len (by omega)
      (blkOk_by (N := NA) (sc := defScope s_are_numbers_within) (by decide +kernel)) (fun _ _ _ _ _ => pg_tup rfl (pgs_cons (pg_name sc_anw.nd rfl (Or.inl rfl)) (pgs_cons (pg_tup rfl (pgs_cons (pg_name sc_anw.nd rfl (Or.inl rfl)) (pgs_cons (pg_name sc_anw.nd rfl (Or.inl rfl)) pgs_nil))) pgs_nil))) ?el))) rfl
    case eq =>
      unfold prs
      rw [List.map_map]
      rfl
    case len =>
      unfold within
      rw [List.length_map, List.length_map, List.length_zip]
      omega
    case el =>
      intro i x l m z hx hl hz D o s H C cl fp
      have e1 : ∃ q, ls[i]? = some q ∧ l = .int q.1 ∧ m = .int q.2 := by
        rw [List.getElem?_map] at hl
        cases e : ls[i]? with
        | none =>
          rw [e] at hl
          cases hl
        | some q =>
          rw [e] at hl
          cases hl
          exact ⟨q, rfl, rfl, rfl⟩
      obtain ⟨q, eq, rfl, rfl⟩ := e1
      unfold within at hz
      have ezip : (xs.zip ls)[i]? = some (x, q) := by
        rw [List.getElem?_zip_eq_some]
        exact ⟨hx, eq⟩
      rw [List.getElem?_map, List.getElem?_map, ezip] at hz
      cases hz
      exact pd_call G1 hr (pds_cons (pd_var 2) (pds_cons (pd_var 3) (pds_cons (pd_var 4) pds_nil))) ⟨_, _, _, rfl, rfl⟩
  · refine sd_ifT (PTd.eq (pt_cmpd op_ne rd_neI (pd_lenT B.len (pd_var 0)) (pd_lenT B.len (pd_var 1)) (nomark _)) ?_) (sd_ret pd_bl ?_)
    · rw [decide_eq_false (by omega)]
      rfl
    · unfold anw
      rw [decide_eq_false h2]
      rfl
theorem pt_inKD {X : Cx} {δ : De} {ω : Om} {a : Expr} {n z : Str} {A : Addr} {p2 pos : Pos} {k : Bool} {r : Option Value} (G : KTab X.w X.K X.mg n A) (ha : PD X δ ω a (.str z)) (hz : PySem.W.nsIn X.K A z = some r) (hk : r.isSome = k) (hg : Gl X n := by rfl) (hd : (n == ("__debug__" : Str)) = false := by decide) (hm : behindInMarks .In (.Name n p2) = false := by rfl) : PTd X δ ω (.Compare a [.In] [.Name n p2] pos) k := fun σ H rl Q q => by
  obtain ⟨es, c, D⟩ := G.ex
  refine wt (pt_cmpR (op_in_kd D) pe_w (pe_glob (v := .ref A) hg G.mg rfl hd) hm) (ha σ H rl _ fun v H1 s1 d1 => ?_)
  cases d1
  refine ⟨z, r, rfl, rfl, hz, ?_⟩
  rw [hk]
  exact ⟨k, rfl, q H1 s1⟩
/-! ### what is a deed -/
def limT (z : Str) : Option (List (Int × Int)) :=
  if z = "go" then some [(0, 99), (0, 99)] else if z = "ink" then some [(0, 7)] else if z = "roll" then some [(-99, 99)] else if z = "open" then some [(0, 99)] else if z = "cut" then some [(0, 99)]
  else if z = "more" then some [(0, 99)] else if z = "less" then some [(0, 99)] else none
def bareW : List Str := ["line", "home", "back"]
def partW : List Str := ["row", "rest", "all"]
def isSaid (z : Str) (told : List PyData) : Bool := match told with
  | [.str y] => if z = "say" then (decide (1 ≤ y.length) && decide (y.length ≤ 200)) && y.cps.toList.all okSign else decide (z = "wipe") && partW.any (· == y)
  | _ => false
def isDeed (d : PyData) : Bool := match d with
  | .tuple (.str z :: told) => if bareW.any (· == z) then told.isEmpty else match limT z with
    | some ls => anw told ls
    | none => isSaid z told
  | _ => false
/-- what the module's LIMITS have at this word -/
structure Lim (w : World) (K : PySem.W.Frag) (mg : Str → Option Value) (A : Addr) (z : Str) : Prop where
  tab : KTab w K mg "LIMITS" A
  has : match limT z with
    | some ls => ∃ u v, PySem.W.nsIn K A z = some (some u) ∧ RelV v u ∧ ∀ H, Dp K H v (.tuple (prs ls))
    | none => PySem.W.nsIn K A z = some none
/-- small enough to be looked at, its word is known -/
def okD (kn : Str → Prop) (d : PyData) : Prop := ∀ x told, d = .tuple (x :: told) → told.length ≤ 100 ∧ (∀ z, x = .str z → kn z) ∧ ∀ y ∈ told, smS y
def frIsDeed (kn : Str → Prop) : List PyData → Rs → Prop := fun ds r => ∃ d, ds = [d] ∧ okD kn d ∧ r = .ok (.bool (isDeed d))
abbrev ND : List Str := ["deed", "word", "told"]
theorem sc_isd : FnScope ND ["deed"] (defScope s_is_deed) := ⟨rfl, rfl, rfl, by decide +kernel, rfl, by decide +kernel, by decide +kernel⟩
theorem isT_tup (d : PyData) (h : ∀ ds, d ≠ .tuple ds) : isT d = false := by
  cases d with
  | tuple ds => exact absurd rfl (h ds)
  | _ => rfl
theorem rd_eqS {K : PySem.W.Frag} {y z : Str} : RD K rEq (.str y) (.str z) (.bool (decide (y = z))) := fun ps u v H _ hx hy Q k => by
  cases hx
  cases hy
  refine ⟨rfl, ?_⟩
  have e : decide (V.str y = V.str z) = decide (y = z) := by
    by_cases c : y = z
    · subst c
      simp
    · rw [decide_eq_false c, decide_eq_false (fun q => c (V.str.inj q))]
  rw [e]
  exact k _ H (Same.refl H) (.bl _)
theorem signs_str (y : Str) : areSigns (.str y) = y.cps.toList.all okSign := rfl
theorem ok_isd {kn : Str → Prop} {A : Addr} (F : Df K "is_deed" s_is_deed f fd) (hm : mg "is_deed" = some (.ref f)) (B : Bl mg) (gb : GlD K mg "BARE_WORDS" (.tuple [.str "line", .str "home", .str "back"])) (gp : GlD K mg "WIPED_PARTS" (.tuple [.str "row", .str "rest", .str "all"])) (gs : GlD K mg "MOST_SAID" (.int 200))
    (hlim : ∀ z, kn z → Lim w K mg A z) (G1 : DefOk P w K mg base 3 "are_numbers_within" frAnw) (G2 : DefOk P w K mg base 1 "are_signs" frSigns) : DefOk P w K mg base 4 "is_deed" (frIsDeed kn) := by
  refine def_ok F hm sc_isd (fun _ _ _ _ _ _ us hl => match us, hl with | [_], _ => rfl) (fun ds r h => by obtain ⟨_, rfl, _⟩ := h; rfl) (fun cdv A' outer s H E qs ds r hr h => ?_)
  obtain ⟨d, rfl, sm, rfl⟩ := h
  by_cases hd : ∃ ds, d = .tuple ds
  · obtain ⟨ds, rfl⟩ := hd
    cases ds with
    | nil => exact sd_ifT (PWd.pt (PWd.eq (pw_ord (pt_notd (pt_bool (pd_isi B.isi B.tuple bb_tuple (pd_var 0) (k_tuple _)))) (fun _ => pw_orT (pt_notd (k := false) (pt_truT (pd_var 0) rfl)))) rfl)) (sd_ret pd_bl rfl)
    | cons x told =>
      obtain ⟨sl, skn, ss⟩ := sm x told rfl
      by_cases hx : ∃ z, x = .str z
      · obtain ⟨z, rfl⟩ := hx
        obtain ⟨T, has⟩ := hlim z (skn z rfl)
        refine sd_ifF (PWd.pt (pw_ord (x := false) (y := false) (pt_notd (k := true) (pt_bool (pd_isi B.isi B.tuple bb_tuple (pd_var 0) (k_tuple _)))) (fun _ => pw_ord (x := false) (y := false) (pt_notd (k := true) (pt_truT (pd_var 0) rfl)) (fun _ => pw_or1d (pt_notd (k := true) (pt_bool (pd_isi B.isi B.str bb_str (pd_ixT (d := .str z) (pd_var 0) pd_int atI0) (k_str _)))))))) ?_
        refine sd_par 1 2 rfl sc_isd.nd (pds_cons (pd_ixT (d := .str z) (pd_var 0) pd_int atI0) (pds_cons (PD.eq (pd_slT (i := some 1) (j := none) (pd_var 0) ⟨_, rfl, pd_int⟩ rfl) (show _ = PyData.tuple told by rw [show (some (1 : Int)) = some (((1 : Nat) : Int)) from rfl, cut_from]; rfl)) pds_nil)) ?_ rfl
        refine sd_if (pt_cmpd op_in_seq (rd_inT (ys := bareW)) (pd_var 1) (pd_glob gb) rfl) (fun hk => ?_) (fun hk => sd_nil ?_)
        · refine sd_ret (pd_notT (pd_var 2)) ?_
          show Rs.ok (.bool (isDeed _)) = Rs.ok (.bool (!!told.isEmpty))
          unfold isDeed
          rw [Bool.not_not]
          simp only [hk, if_true]
        · have ei : isDeed (.tuple (.str z :: told)) = match limT z with | some ls => anw told ls | none => isSaid z told := by
            show (if bareW.any (· == z) = true then told.isEmpty else _) = _
            rw [hk]
            rfl
          rw [ei]
          cases el : limT z with
          | some ls =>
            rw [el] at has
            obtain ⟨u, v, n1, n2, n3⟩ := has
            exact sd_ifT (pt_inKD T (pd_var 1) n1 rfl) (sd_ret (pd_call G1 hr (pds_cons (pd_var 2) (pds_cons (pd_ixKD T (pd_var 1) n1 n2 n3) pds_nil)) ⟨told, ls, rfl, sl, rfl⟩) rfl)
          | none =>
            rw [el] at has
            refine sd_ifF (pt_inKD T (pd_var 1) has rfl) ?_
            by_cases h1 : told.length = 1
            · obtain ⟨y, rfl⟩ : ∃ y, told = [y] := by
                match told, h1 with
                | [y], _ => exact ⟨y, rfl⟩
              by_cases hy : ∃ q, y = .str q
              · obtain ⟨q, rfl⟩ := hy
                have lq := ss _ List.mem_cons_self q rfl
                refine sd_ifF (PWd.pt (PWd.eq (pw_ord (pt_cmpd op_ne rd_neI (pd_lenT B.len (pd_var 2)) pd_int (nomark _)) (fun _ => pw_or1d (pt_notd (pt_bool (pd_isi B.isi B.str bb_str (pd_ixT (d := .str q) (pd_var 2) pd_int atI0) (k_str _)))))) (by rfl))) ?_
                refine sd_if (pt_cmpd op_eq rd_eqS (pd_var 1) pd_str (nomark _)) (fun hs => ?_) (fun hs => sd_nil ?_)
                · have hs := of_decide_eq_true hs
                  refine sd_ret (pd_and (pd_chain op_le op_le rd_B0 (fun _ => rd_B0) pd_int (pd_lenS B.len (pd_ixT (d := .str q) (pd_var 2) pd_int atI0) (Nat.le_trans lq (by decide))) (fun _ => pd_glob gs)) (fun _ => pd_one (pd_call G2 (hr.mono (by decide)) (pds_cons (pd_ixT (d := .str q) (pd_var 2) pd_int atI0) pds_nil) ⟨_, rfl, rfl, fun z e => by cases e; exact lq⟩))) ?_
                  show Rs.ok (.bool (isSaid z [.str q])) = _
                  have ez : isSaid z [.str q] = if z = "say" then (decide (1 ≤ q.length) && decide (q.length ≤ 200)) && q.cps.toList.all okSign else decide (z = "wipe") && partW.any (· == q) := rfl
                  rw [ez, if_pos hs, signs_str]
                  have e1 : decide ((1 : Int) ≤ ((q.length : Nat) : Int)) = decide (1 ≤ q.length) := by
                    by_cases c : 1 ≤ q.length
                    · rw [decide_eq_true c, decide_eq_true (by omega)]
                    · rw [decide_eq_false c, decide_eq_false (by omega)]
                  have e2 : decide (((q.length : Nat) : Int) ≤ 200) = decide (q.length ≤ 200) := by
                    by_cases c : q.length ≤ 200
                    · rw [decide_eq_true c, decide_eq_true (by omega)]
                    · rw [decide_eq_false c, decide_eq_false (by omega)]
                  rw [e1, e2]
                · have hs := of_decide_eq_false hs
                  refine sd_ret (pd_and (pd_cmp op_eq rd_eqS (pd_var 1) pd_str (nomark _)) (fun _ => pd_one (pd_inT (ys := partW) (pd_ixT (d := .str q) (pd_var 2) pd_int atI0) (pd_glob gp)))) ?_
                  show Rs.ok (.bool (isSaid z [.str q])) = _
                  have ez : isSaid z [.str q] = if z = "say" then (decide (1 ≤ q.length) && decide (q.length ≤ 200)) && q.cps.toList.all okSign else decide (z = "wipe") && partW.any (· == q) := rfl
                  rw [ez, if_neg hs]
              · have nS : isS y = false := by
                  cases y with
                  | str q => exact absurd ⟨q, rfl⟩ hy
                  | _ => rfl
                refine sd_ifT (PWd.pt (PWd.eq (pw_ord (pt_cmpd op_ne rd_neI (pd_lenT B.len (pd_var 2)) pd_int (nomark _)) (fun _ => pw_or1d (pt_notd (pt_bool (pd_isi B.isi B.str bb_str (pd_ixT (d := y) (pd_var 2) pd_int atI0) (k_str _)))))) (by rw [nS]; rfl))) (sd_ret pd_bl ?_)
                show Rs.ok (.bool (isSaid z [y])) = Rs.ok (.bool false)
                cases y with
                | str q => exact absurd ⟨q, rfl⟩ hy
                | _ => rfl
            · refine sd_ifT (PWd.pt (pw_orT (PTd.eq (pt_cmpd op_ne rd_neI (pd_lenT B.len (pd_var 2)) pd_int (nomark _)) (by rw [decide_eq_false (by omega)]; rfl)))) (sd_ret pd_bl ?_)
              show Rs.ok (.bool (isSaid z told)) = Rs.ok (.bool false)
              match told, h1 with
              | [], _ => rfl
              | a :: b :: t, _ => cases a <;> rfl
              | [_], h => exact absurd rfl h
      · have nS : isS x = false := by
          cases x with
          | str q => exact absurd ⟨q, rfl⟩ hx
          | _ => rfl
        refine sd_ifT (PWd.pt (PWd.eq (pw_ord (pt_notd (k := true) (pt_bool (pd_isi B.isi B.tuple bb_tuple (pd_var 0) (k_tuple _)))) (fun _ => pw_ord (pt_notd (k := true) (pt_truT (pd_var 0) rfl)) (fun _ => pw_or1d (pt_notd (pt_bool (pd_isi B.isi B.str bb_str (pd_ixT (d := x) (pd_var 0) pd_int atI0) (k_str _))))))) (by rw [nS]; rfl))) (sd_ret pd_bl ?_)
        show Rs.ok (.bool (isDeed (.tuple (x :: told)))) = Rs.ok (.bool false)
        cases x with
        | str q => exact absurd ⟨q, rfl⟩ hx
        | _ => rfl
  · refine sd_ifT (PWd.pt (pw_orT (PTd.eq (pt_notd (pt_bool (pd_isi B.isi B.tuple bb_tuple (pd_var 0) (k_tuple _)))) (by rw [isT_tup d (fun ds e => hd ⟨ds, e⟩)]; rfl)))) (sd_ret pd_bl ?_)
    show Rs.ok (.bool (isDeed d)) = Rs.ok (.bool false)
    cases d with
    | tuple ds => exact absurd ⟨ds, rfl⟩ hd
    | _ => rfl
/-! need_deed, need_deeds -/
def frNeed (kn : Str → Prop) (C : Addr) : List PyData → Rs → Prop := fun ds r => ∃ d, ds = [d] ∧ okD kn d ∧ r = if isDeed d then .ok .none else .er C
theorem sc_nd : FnScope ["deed"] ["deed"] (defScope s_need_deed) := ⟨rfl, rfl, rfl, by decide +kernel, rfl, by decide +kernel, by decide +kernel⟩
theorem ok_nd {kn : Str → Prop} (F : Df K "need_deed" s_need_deed f fd) (hm : mg "need_deed" = some (.ref f)) (X1 : ExcF K mg "BadDeed" C) (G1 : DefOk P w K mg base 4 "is_deed" (frIsDeed kn)) : DefOk P w K mg base 5 "need_deed" (frNeed kn C) := by
  refine def_ok F hm sc_nd (fun _ _ _ _ _ _ us hl => match us, hl with | [_], _ => rfl) (fun ds r h => by obtain ⟨_, rfl, _⟩ := h; rfl) (fun cdv A outer s H E qs ds r hr h => ?_)
  obtain ⟨d, rfl, sm, rfl⟩ := h
  have tk : L2N.Takes (cxOf (L2N.CX P w) P w K mg base ["deed"] "need_deed" (defScope s_need_deed) f cdv A outer s H E) (WOf E) := L2N.takes_of rfl rfl rfl rfl
  refine sd_if (pt_notd (pt_bool (pd_call G1 hr (pds_cons (pd_var 0) pds_nil) ⟨d, rfl, sm, rfl⟩))) (fun hk => ?_) (fun hk => sd_nil (sd_nil ?_))
  · refine sd_raise X1 tk ?_ rfl
    show (if isDeed d = true then Rs.ok PyData.none else Rs.er C) = Rs.er C
    rw [if_neg]
    intro z
    rw [z] at hk
    cases hk
  · show (if isDeed d = true then Rs.ok PyData.none else Rs.er C) = Rs.ok PyData.none
    rw [if_pos]
    cases e : isDeed d with
    | true => rfl
    | false =>
      rw [e] at hk
      cases hk
def areDeeds (d : PyData) : Bool := match d with
  | .list xs => xs.all isDeed
  | _ => false
def okDs (kn : Str → Prop) (d : PyData) : Prop := ∀ xs, d = .list xs → ∀ x ∈ xs, okD kn x
def frNeeds (kn : Str → Prop) (C : Addr) : List PyData → Rs → Prop := fun ds r => ∃ d, ds = [d] ∧ okDs kn d ∧ r = if areDeeds d then .ok .none else .er C
theorem sc_nds : FnScope ["deeds", "deed"] ["deeds"] (defScope s_need_deeds) := ⟨rfl, rfl, rfl, by decide +kernel, rfl, by decide +kernel, by decide +kernel⟩
theorem ok_nds {kn : Str → Prop} (F : Df K "need_deeds" s_need_deeds f fd) (hm : mg "need_deeds" = some (.ref f)) (B : Bl mg) (ml : mg "list" = none) (X1 : ExcF K mg "BadDeed" C) (G1 : DefOk P w K mg base 5 "need_deed" (frNeed kn C)) : DefOk P w K mg base 6 "need_deeds" (frNeeds kn C) := by
  refine def_ok F hm sc_nds (fun _ _ _ _ _ _ us hl => match us, hl with | [_], _ => rfl) (fun ds r h => by obtain ⟨_, rfl, _⟩ := h; rfl) (fun cdv A outer s H E qs ds r hr h => ?_)
  obtain ⟨d, rfl, sm, rfl⟩ := h
  have tk : L2N.Takes (cxOf (L2N.CX P w) P w K mg base ["deeds", "deed"] "need_deeds" (defScope s_need_deeds) f cdv A outer s H E) (WOf E) := L2N.takes_of rfl rfl rfl rfl
  by_cases hd : ∃ xs, d = .list xs
  · obtain ⟨xs, rfl⟩ := hd
    refine sd_ifF (pt_notd (k := true) (pt_bool (pd_isi B.isi ml bb_list (pd_var 0) (k_list _)))) ?_
    refine sd_for 1 (items := xs) (fun i δ' ω' => (xs.take i).all isDeed = true ∧ ω' = ⟨qs, []⟩ ∧ ∃ y1, δ' = [some (.im (.list xs)), y1]) (wk_lst (pd_var 0)) ⟨rfl, rfl, _, rfl⟩ ?_ ?_ (pg_name sc_nds.nd rfl (Or.inl rfl)) (passes_of rfl) rfl
    · rintro i d δ' ω' hd ⟨ha, rfl, y1, rfl⟩
      refine sd_callX G1 hr tk (pds_cons (pd_var 1) pds_nil) ⟨d, rfl, sm xs rfl d (List.mem_of_getElem? hd), rfl⟩ (fun d1 e1 => sd_nil ⟨?_, rfl, _, rfl⟩) (fun Z e1 => ?_)
      · have hf : isDeed d = true := by
          cases e : isDeed d with
          | true => rfl
          | false =>
            rw [e] at e1
            cases e1
        rw [List.take_add_one, hd, List.all_append, ha]
        simp [hf]
      · have hf : isDeed d = false := by
          cases e : isDeed d with
          | false => rfl
          | true =>
            rw [e] at e1
            cases e1
        rw [hf] at e1
        cases e1
        show (if areDeeds (.list xs) = true then Rs.ok PyData.none else Rs.er C) = Rs.er C
        rw [if_neg]
        intro z
        have := List.all_eq_true.mp (show xs.all isDeed = true from z) d (List.mem_of_getElem? hd)
        rw [hf] at this
        cases this
    · rintro δ' ω' ⟨ha, rfl, y1, rfl⟩
      refine sd_nil ?_
      rw [List.take_length] at ha
      show (if areDeeds (.list xs) = true then Rs.ok PyData.none else Rs.er C) = Rs.ok PyData.none
      rw [if_pos (show areDeeds (.list xs) = true from ha)]
  · have nL : isL d = false := by
      cases d with
      | list q => exact absurd ⟨q, rfl⟩ hd
      | _ => rfl
    refine sd_ifT (PTd.eq (pt_notd (pt_bool (pd_isi B.isi ml bb_list (pd_var 0) (k_list _)))) (by rw [nL]; rfl)) (sd_raise X1 tk ?_ rfl)
    show (if areDeeds d = true then Rs.ok PyData.none else Rs.er C) = Rs.er C
    cases d with
    | list q => exact absurd ⟨q, rfl⟩ hd
    | _ => rfl
end
end K21

namespace K21
open PySem PySem.Spec PyProof.Rows L2 FP
/-! ### a pen as it is -/
section
variable {α β : Type}
def pushA (ts : List α) (i n : Nat) (d : α) : List α := (ts.take i ++ List.replicate n d ++ ts.drop i).take ts.length
def pullA (ts : List α) (i n : Nat) (d : α) : List α := (ts.take i ++ ts.drop (i + n)) ++ List.replicate (ts.length - (ts.take i ++ ts.drop (i + n)).length) d
theorem pushA_len (ts : List α) (i n : Nat) (d : α) : (pushA ts i n d).length = ts.length := by
  unfold pushA
  rw [List.length_take, List.length_append, List.length_append, List.length_replicate, List.length_take, List.length_drop]
  omega
theorem pullA_len (ts : List α) (i n : Nat) (d : α) : (pullA ts i n d).length = ts.length := by
  unfold pullA
  rw [List.length_append, List.length_append, List.length_replicate, List.length_take, List.length_drop]
  omega
theorem pushA_mem {ts : List α} {i n : Nat} {d x : α} (h : x ∈ pushA ts i n d) : x ∈ ts ∨ x = d := by
  have h := List.mem_of_mem_take h
  rcases List.mem_append.mp h with h | h
  · rcases List.mem_append.mp h with h | h
    · exact .inl (List.mem_of_mem_take h)
    · exact .inr (List.mem_replicate.mp h).2
  · exact .inl (List.mem_of_mem_drop h)
theorem pullA_mem {ts : List α} {i n : Nat} {d x : α} (h : x ∈ pullA ts i n d) : x ∈ ts ∨ x = d := by
  rcases List.mem_append.mp h with h | h
  · rcases List.mem_append.mp h with h | h
    · exact .inl (List.mem_of_mem_take h)
    · exact .inl (List.mem_of_mem_drop h)
  · exact .inr (List.mem_replicate.mp h).2
theorem pushA_map (g : α → β) (ts : List α) (i n : Nat) (d : α) : (pushA ts i n d).map g = pushA (ts.map g) i n (g d) := by
  unfold pushA
  rw [List.map_take, List.map_append, List.map_append, List.map_take, List.map_drop, List.map_replicate, List.length_map]
theorem pullA_map (g : α → β) (ts : List α) (i n : Nat) (d : α) : (pullA ts i n d).map g = pullA (ts.map g) i n (g d) := by
  unfold pullA
  rw [List.map_append, List.map_append, List.map_take, List.map_drop, List.map_replicate, List.length_map, List.length_append, List.length_append, List.length_take, List.length_take, List.length_drop, List.length_drop, List.length_map]
end
structure Pn where
  rows : List (List PyData)
  row : Nat
  col : Nat
  h : Nat
  w : Nat
  ink : Nat
structure Pn.Ok (s : Pn) : Prop where
  len : s.rows.length = s.h
  wid : ∀ r ∈ s.rows, r.length = s.w ∧ ∀ y ∈ r, isCell y = true
  hr : s.row < s.h
  hc : s.col ≤ s.w
  h10 : s.h ≤ 10
  w1 : 1 ≤ s.w
  w20 : s.w ≤ 20
  hi : s.ink ≤ 7
def blankR (w : Nat) : List PyData := List.replicate w blankC
def Pn.new (h w : Nat) : Pn := ⟨List.replicate h (blankR w), 0, 0, h, w, 0⟩
def Pn.place (s : Pn) : Nat := min s.col (s.w - 1)
def rollA (rs : List (List PyData)) (w : Nat) (n : Int) : List (List PyData) := if n < 0 then pushA rs 0 (-n).toNat (blankR w) else pullA rs 0 n.toNat (blankR w)
def Pn.cells (s : Pn) : List PyData := s.rows.getD s.row []
def Pn.put (s : Pn) (cs : List PyData) : Pn := { s with rows := s.rows.set s.row cs }
def Pn.down (s : Pn) : Pn := if s.row < s.h - 1 then { s with row := s.row + 1 } else { s with rows := rollA s.rows s.w 1 }
def Pn.at (s : Pn) : Pn := if s.col = s.w then Pn.down { s with col := 0 } else s
def Pn.say (s : Pn) (c : Nat) : Pn := { s.at with rows := s.at.rows.set s.at.row (s.at.cells.set s.at.col (cellD c (s.at.ink : Int))), col := s.at.col + 1 }
inductive Wp where
  | row
  | rest
  | all
def Wp.s : Wp → Str
  | .row => "row"
  | .rest => "rest"
  | .all => "all"
inductive Dd where
  | say (z : Str)
  | line
  | home
  | back
  | go (r c : Nat)
  | ink (n : Nat)
  | wipe (k : Wp)
  | roll (n : Int)
  | opn (n : Nat)
  | cut (n : Nat)
  | more (n : Nat)
  | less (n : Nat)
def Dd.d : Dd → PyData
  | .say z => .tuple [.str "say", .str z]
  | .line => .tuple [.str "line"]
  | .home => .tuple [.str "home"]
  | .back => .tuple [.str "back"]
  | .go r c => .tuple [.str "go", .int (r : Int), .int (c : Int)]
  | .ink n => .tuple [.str "ink", .int (n : Int)]
  | .wipe k => .tuple [.str "wipe", .str k.s]
  | .roll n => .tuple [.str "roll", .int n]
  | .opn n => .tuple [.str "open", .int (n : Int)]
  | .cut n => .tuple [.str "cut", .int (n : Int)]
  | .more n => .tuple [.str "more", .int (n : Int)]
  | .less n => .tuple [.str "less", .int (n : Int)]
def Dd.Ok : Dd → Prop
  | .say z => 1 ≤ z.length ∧ z.length ≤ 200 ∧ ∀ c ∈ z.cps.toList, okSign c = true
  | .go r c => r ≤ 99 ∧ c ≤ 99
  | .ink n => n ≤ 7
  | .roll n => -99 ≤ n ∧ n ≤ 99
  | .opn n => n ≤ 99
  | .cut n => n ≤ 99
  | .more n => n ≤ 99
  | .less n => n ≤ 99
  | _ => True
def Pn.wipe (s : Pn) : Wp → Pn
  | .row => s.put (blankR s.w)
  | .rest => s.put (s.cells.take s.place ++ blankR (s.w - s.place))
  | .all => { s with rows := List.replicate s.h (blankR s.w) }
def Pn.go (s : Pn) : Dd → Pn
  | .say z => z.cps.toList.foldl Pn.say s
  | .line => s.down
  | .home => { s with col := 0 }
  | .back => { s with col := s.place - 1 }
  | .go r c => { s with row := min r (s.h - 1), col := min c (s.w - 1) }
  | .ink n => { s with ink := n }
  | .wipe k => s.wipe k
  | .roll n => { s with rows := rollA s.rows s.w n }
  | .opn n => s.put (pushA s.cells s.place n blankC)
  | .cut n => s.put (pullA s.cells s.place n blankC)
  | .more n => { s with rows := pushA s.rows s.row n (blankR s.w) }
  | .less n => { s with rows := pullA s.rows s.row n (blankR s.w) }
/-! ### it stays a pen -/
theorem blankR_ok {w : Nat} : (blankR w).length = w ∧ ∀ y ∈ blankR w, isCell y = true := ⟨List.length_replicate, fun y h => by
  rw [(List.mem_replicate.mp h).2]
  exact blank_cell⟩
section
variable {s : Pn}
theorem Pn.Ok.cells (o : s.Ok) : s.rows[s.row]? = some s.cells ∧ s.cells.length = s.w ∧ ∀ y ∈ s.cells, isCell y = true := by
  have hl : s.row < s.rows.length := by rw [o.len]; exact o.hr
  have e : s.cells = s.rows[s.row] := by
    unfold Pn.cells
    rw [List.getD_eq_getElem?_getD, List.getElem?_eq_getElem hl]
    rfl
  refine ⟨?_, ?_⟩
  · rw [e]
    exact List.getElem?_eq_getElem hl
  · rw [e]
    exact o.wid _ (List.getElem_mem hl)
theorem Pn.Ok.place (o : s.Ok) : s.place < s.w := by
  have := o.w1
  unfold Pn.place
  omega
theorem Pn.Ok.rows (o : s.Ok) {rs : List (List PyData)} (hl : rs.length = s.rows.length) (hw : ∀ r ∈ rs, r ∈ s.rows ∨ (r.length = s.w ∧ ∀ y ∈ r, isCell y = true)) : ({ s with rows := rs } : Pn).Ok :=
  ⟨hl.trans o.len, fun r h => (hw r h).elim (o.wid r) id, o.hr, o.hc, o.h10, o.w1, o.w20, o.hi⟩
theorem Pn.Ok.put (o : s.Ok) {cs : List PyData} (hl : cs.length = s.w) (hc : ∀ y ∈ cs, isCell y = true) : (s.put cs).Ok :=
  o.rows (by rw [List.length_set]) fun r h => by
    rcases List.mem_or_eq_of_mem_set h with q | q
    · exact .inl q
    · subst q
      exact .inr ⟨hl, hc⟩
theorem rollA_len (rs : List (List PyData)) (w : Nat) (n : Int) : (rollA rs w n).length = rs.length := by
  unfold rollA
  split
  · exact pushA_len _ _ _ _
  · exact pullA_len _ _ _ _
theorem rollA_mem {rs : List (List PyData)} {w : Nat} {n : Int} {r : List PyData} (h : r ∈ rollA rs w n) : r ∈ rs ∨ r = blankR w := by
  unfold rollA at h
  split at h
  · exact pushA_mem h
  · exact pullA_mem h
theorem Pn.Ok.roll (o : s.Ok) (n : Int) : ({ s with rows := rollA s.rows s.w n } : Pn).Ok := o.rows (rollA_len _ _ _) fun r h => (rollA_mem h).imp id fun e => by
  subst e
  exact blankR_ok
theorem Pn.Ok.down (o : s.Ok) : s.down.Ok := by
  unfold Pn.down
  split
  · rename_i h
    exact ⟨o.len, o.wid, show s.row + 1 < s.h by omega, o.hc, o.h10, o.w1, o.w20, o.hi⟩
  · exact o.roll 1
theorem Pn.down_col : s.down.col = s.col ∧ s.down.w = s.w ∧ s.down.h = s.h ∧ s.down.ink = s.ink := by
  unfold Pn.down
  split <;> exact ⟨rfl, rfl, rfl, rfl⟩
theorem Pn.at_keep : s.at.w = s.w ∧ s.at.h = s.h ∧ s.at.ink = s.ink := by
  unfold Pn.at
  split
  · exact ⟨Pn.down_col.2.1, Pn.down_col.2.2.1, Pn.down_col.2.2.2⟩
  · exact ⟨rfl, rfl, rfl⟩
theorem Pn.Ok.at (o : s.Ok) : s.at.Ok ∧ s.at.col < s.at.w := by
  have hc := o.hc
  have w1 := o.w1
  unfold Pn.at
  split
  · rename_i h
    have o2 : ({ s with col := 0 } : Pn).Ok := ⟨o.len, o.wid, o.hr, Nat.zero_le _, o.h10, o.w1, o.w20, o.hi⟩
    refine ⟨o2.down, ?_⟩
    obtain ⟨a, b, _⟩ := Pn.down_col (s := { s with col := 0 })
    rw [a, b]
    show 0 < s.w
    omega
  · exact ⟨o, by omega⟩
theorem cell_okN {c : Nat} {i : Nat} (hc : okSign c = true) (hi : i ≤ 7) : isCell (cellD c (i : Int)) = true := by
  show ((([c] : List Nat).all okSign && decide (([c] : List Nat).length = 1)) && (decide ((0 : Int) ≤ (i : Int)) && decide ((i : Int) ≤ 7))) = true
  rw [decide_eq_true (show (0 : Int) ≤ (i : Int) by omega), decide_eq_true (show (i : Int) ≤ 7 by omega)]
  simp [hc]
theorem set_cells {cs : List PyData} {y : PyData} {n w : Nat} (hl : cs.length = w) (hc : ∀ y ∈ cs, isCell y = true) (hy : isCell y = true) : (cs.set n y).length = w ∧ ∀ z ∈ cs.set n y, isCell z = true :=
  ⟨by rw [List.length_set, hl], fun z h => by
    rcases List.mem_or_eq_of_mem_set h with q | q
    · exact hc z q
    · subst q
      exact hy⟩
theorem Pn.Ok.say (o : s.Ok) {c : Nat} (hc : okSign c = true) : (s.say c).Ok := by
  obtain ⟨o1, h1⟩ := o.at
  obtain ⟨e1, e2, e3⟩ := o1.cells
  obtain ⟨g1, g2⟩ := set_cells (n := s.at.col) e2 e3 (cell_okN hc o1.hi)
  have o2 := o1.put g1 g2
  exact ⟨o2.len, o2.wid, o2.hr, show s.at.col + 1 ≤ s.at.w by omega, o2.h10, o2.w1, o2.w20, o2.hi⟩
end
theorem say_all : ∀ {cs : List Nat} {s : Pn}, s.Ok → (∀ c ∈ cs, okSign c = true) → (cs.foldl Pn.say s).Ok
  | [], _, o, _ => o
  | c :: cs, s, o, h => say_all (cs := cs) (s := s.say c) (o.say (h c List.mem_cons_self)) fun x hx => h x (List.mem_cons_of_mem _ hx)
section
variable {s : Pn}
theorem Pn.Ok.go (o : s.Ok) {D : Dd} (hD : D.Ok) : (s.go D).Ok := by
  have hp := o.place
  obtain ⟨c1, c2, c3⟩ := o.cells
  have hr := o.hr
  have w1 := o.w1
  cases D with
  | say z => exact say_all o hD.2.2
  | line => exact o.down
  | home => exact ⟨o.len, o.wid, o.hr, Nat.zero_le _, o.h10, o.w1, o.w20, o.hi⟩
  | back => exact ⟨o.len, o.wid, o.hr, show s.place - 1 ≤ s.w by omega, o.h10, o.w1, o.w20, o.hi⟩
  | go r c => exact ⟨o.len, o.wid, show min r (s.h - 1) < s.h by omega, show min c (s.w - 1) ≤ s.w by omega, o.h10, o.w1, o.w20, o.hi⟩
  | ink n => exact ⟨o.len, o.wid, o.hr, o.hc, o.h10, o.w1, o.w20, hD⟩
  | wipe k =>
    cases k with
    | row => exact o.put blankR_ok.1 blankR_ok.2
    | rest =>
      refine o.put ?_ fun y h => ?_
      · rw [List.length_append, List.length_take, c2, blankR_ok.1]
        omega
      · rcases List.mem_append.mp h with h | h
        · exact c3 y (List.mem_of_mem_take h)
        · exact blankR_ok.2 y h
    | all => exact o.rows (by rw [List.length_replicate, o.len]) fun r h => .inr (by rw [(List.mem_replicate.mp h).2]; exact blankR_ok)
  | roll n => exact o.roll n
  | opn n => exact o.put (by rw [pushA_len, c2]) fun y h => (pushA_mem h).elim (c3 y) fun e => by rw [e]; exact blank_cell
  | cut n => exact o.put (by rw [pullA_len, c2]) fun y h => (pullA_mem h).elim (c3 y) fun e => by rw [e]; exact blank_cell
  | more n => exact o.rows (pushA_len _ _ _ _) fun r h => (pushA_mem h).imp id fun e => by rw [e]; exact blankR_ok
  | less n => exact o.rows (pullA_len _ _ _ _) fun r h => (pullA_mem h).imp id fun e => by rw [e]; exact blankR_ok
end
def Pn.all (s : Pn) (Ds : List Dd) : Pn := Ds.foldl Pn.go s
theorem Pn.Ok.all : ∀ {Ds : List Dd} {s : Pn}, s.Ok → (∀ D ∈ Ds, D.Ok) → (s.all Ds).Ok
  | [], _, o, _ => o
  | D :: Ds, s, o, h => Pn.Ok.all (Ds := Ds) (o.go (h D List.mem_cons_self)) fun x hx => h x (List.mem_cons_of_mem _ hx)
theorem say_keep : ∀ (cs : List Nat) (s : Pn), (cs.foldl Pn.say s).h = s.h ∧ (cs.foldl Pn.say s).w = s.w ∧ (cs.foldl Pn.say s).ink = s.ink
  | [], _ => ⟨rfl, rfl, rfl⟩
  | c :: cs, s => by
    obtain ⟨a, b, d⟩ := say_keep cs (s.say c)
    obtain ⟨x, y, z⟩ := Pn.at_keep (s := s)
    exact ⟨a.trans y, b.trans x, d.trans z⟩
theorem Pn.go_size (s : Pn) (D : Dd) : (s.go D).h = s.h ∧ (s.go D).w = s.w := by
  cases D with
  | say z => exact ⟨(say_keep _ s).1, (say_keep _ s).2.1⟩
  | line => exact ⟨Pn.down_col.2.2.1, Pn.down_col.2.1⟩
  | wipe k => cases k <;> exact ⟨rfl, rfl⟩
  | _ => exact ⟨rfl, rfl⟩
theorem Pn.all_size : ∀ (Ds : List Dd) (s : Pn), (s.all Ds).h = s.h ∧ (s.all Ds).w = s.w
  | [], _ => ⟨rfl, rfl⟩
  | D :: Ds, s => by
    obtain ⟨a, b⟩ := Pn.all_size Ds (s.go D)
    obtain ⟨x, y⟩ := s.go_size D
    exact ⟨a.trans x, b.trans y⟩
theorem Pn.new_ok {h w : Nat} (h1 : 1 ≤ h) (h2 : h ≤ 10) (w1 : 1 ≤ w) (w2 : w ≤ 20) : (Pn.new h w).Ok :=
  ⟨List.length_replicate, fun r hr => by rw [(List.mem_replicate.mp hr).2]; exact blankR_ok, h1, Nat.zero_le _, h2, w1, w2, Nat.zero_le _⟩
/-! ### deeds as data -/
theorem Wp.has (k : Wp) : partW.any (· == k.s) = true := by cases k <;> decide +kernel
theorem anw1 {n lo hi : Int} (h1 : lo ≤ n) (h2 : n ≤ hi) : anw [.int n] [(lo, hi)] = true := by
  show (decide (1 = 1) && ((decide (lo ≤ n) && decide (n ≤ hi)) && true)) = true
  rw [decide_eq_true h1, decide_eq_true h2]
  rfl
theorem Dd.is {D : Dd} (h : D.Ok) : isDeed D.d = true := by
  cases D with
  | say z =>
    obtain ⟨h1, h2, h3⟩ := h
    show ((decide (1 ≤ z.length) && decide (z.length ≤ 200)) && z.cps.toList.all okSign) = true
    rw [decide_eq_true h1, decide_eq_true h2, List.all_eq_true.mpr h3]
    rfl
  | go r c =>
    obtain ⟨h1, h2⟩ := h
    show (decide (2 = 2) && ((decide ((0 : Int) ≤ (r : Int)) && decide ((r : Int) ≤ 99)) && ((decide ((0 : Int) ≤ (c : Int)) && decide ((c : Int) ≤ 99)) && true))) = true
    rw [decide_eq_true (show (0 : Int) ≤ (r : Int) by omega), decide_eq_true (show (r : Int) ≤ 99 by omega), decide_eq_true (show (0 : Int) ≤ (c : Int) by omega), decide_eq_true (show (c : Int) ≤ 99 by omega)]
    rfl
  | ink n =>
    have h : n ≤ 7 := h
    exact anw1 (by omega) (by omega)
  | wipe k => exact (show (decide (Str.ofString "wipe" = "wipe") && partW.any (· == k.s)) = true by rw [k.has]; rfl)
  | roll n => exact anw1 h.1 h.2
  | opn n =>
    have h : n ≤ 99 := h
    exact anw1 (by omega) (by omega)
  | cut n =>
    have h : n ≤ 99 := h
    exact anw1 (by omega) (by omega)
  | more n =>
    have h : n ≤ 99 := h
    exact anw1 (by omega) (by omega)
  | less n =>
    have h : n ≤ 99 := h
    exact anw1 (by omega) (by omega)
  | line => rfl
  | home => rfl
  | back => rfl
def deedW : List Str := ["say", "line", "home", "back", "go", "ink", "wipe", "roll", "open", "cut", "more", "less"]
theorem Dd.okD {D : Dd} {kn : Str → Prop} (hk : ∀ z ∈ deedW, kn z) (h : D.Ok) : K21.okD kn D.d := by
  intro x told e
  have fin : ∀ {xs : List PyData} {z : Str}, D.d = .tuple (.str z :: xs) → z ∈ deedW → xs.length ≤ 100 → (∀ y ∈ xs, smS y) → told.length ≤ 100 ∧ (∀ z, x = .str z → kn z) ∧ ∀ y ∈ told, smS y := by
    intro xs z e2 hz hl hs
    rw [e2] at e
    cases e
    exact ⟨hl, fun z' e3 => by cases e3; exact hk z hz, hs⟩
  have int1 : ∀ i : Int, smS (.int i) := fun i z e => by cases e
  cases D with
  | say z =>
    refine fin (xs := [.str z]) rfl (by decide +kernel) (by simp) fun y hy => ?_
    rw [List.mem_singleton.mp hy]
    intro z' e3
    cases e3
    exact Nat.le_trans h.2.1 (by decide)
  | go r c =>
    refine fin (xs := [.int r, .int c]) rfl (by decide +kernel) (by simp) fun y hy => ?_
    simp only [List.mem_cons, List.not_mem_nil, or_false] at hy
    rcases hy with rfl | rfl
    · exact int1 _
    · exact int1 _
  | wipe k =>
    refine fin (xs := [.str k.s]) rfl (by decide +kernel) (by simp) fun y hy => ?_
    rw [List.mem_singleton.mp hy]
    intro z' e3
    cases e3
    cases k <;> decide +kernel
  | ink n => exact fin (xs := [.int n]) rfl (by decide +kernel) (by simp) fun y hy => by rw [List.mem_singleton.mp hy]; exact int1 _
  | roll n => exact fin (xs := [.int n]) rfl (by decide +kernel) (by simp) fun y hy => by rw [List.mem_singleton.mp hy]; exact int1 _
  | opn n => exact fin (xs := [.int n]) rfl (by decide +kernel) (by simp) fun y hy => by rw [List.mem_singleton.mp hy]; exact int1 _
  | cut n => exact fin (xs := [.int n]) rfl (by decide +kernel) (by simp) fun y hy => by rw [List.mem_singleton.mp hy]; exact int1 _
  | more n => exact fin (xs := [.int n]) rfl (by decide +kernel) (by simp) fun y hy => by rw [List.mem_singleton.mp hy]; exact int1 _
  | less n => exact fin (xs := [.int n]) rfl (by decide +kernel) (by simp) fun y hy => by rw [List.mem_singleton.mp hy]; exact int1 _
  | line => exact fin (xs := []) rfl (by decide +kernel) (by simp) fun y hy => by cases hy
  | home => exact fin (xs := []) rfl (by decide +kernel) (by simp) fun y hy => by cases hy
  | back => exact fin (xs := []) rfl (by decide +kernel) (by simp) fun y hy => by cases hy
end K21

namespace K21
open PySem PySem.Spec PyProof.Rows L2 FP
section
variable {P : Program} {w : World} {K : PySem.W.Frag} {mg : Str → Option Value} {base : Heap} {f C : Addr} {fd : FuncData}
/-! ### the pen -/
def penF (rs : List PyData) (r c h wd ink : Int) : Fs := [("rows", .tuple rs), ("row", .int r), ("column", .int c), ("height", .int h), ("width", .int wd), ("ink", .int ink)]
structure PenC (K : PySem.W.Frag) (C : Addr) : Prop where
  cl : Cls K C
  rows : NoAttr K C "rows"
  row : NoAttr K C "row"
  column : NoAttr K C "column"
  height : NoAttr K C "height"
  width : NoAttr K C "width"
  ink : NoAttr K C "ink"
variable {rs rs' : List PyData} {r c h wd ink x : Int} {d : PyData}
theorem get_rows : List.lookup (Str.ofString "rows") (penF rs r c h wd ink) = some (PyData.tuple rs) := rfl
theorem get_row : List.lookup (Str.ofString "row") (penF rs r c h wd ink) = some (PyData.int r) := rfl
theorem get_column : List.lookup (Str.ofString "column") (penF rs r c h wd ink) = some (PyData.int c) := rfl
theorem get_height : List.lookup (Str.ofString "height") (penF rs r c h wd ink) = some (PyData.int h) := rfl
theorem get_width : List.lookup (Str.ofString "width") (penF rs r c h wd ink) = some (PyData.int wd) := rfl
theorem get_ink : List.lookup (Str.ofString "ink") (penF rs r c h wd ink) = some (PyData.int ink) := rfl
theorem get_m {m : Str} (hm : ([("rows" : Str), "row", "column", "height", "width", "ink"].all fun y => !(m == y)) = true) : List.lookup m (penF rs r c h wd ink) = none := by
  simp only [List.all_cons, List.all_nil, Bool.and_true, Bool.and_eq_true, Bool.not_eq_true'] at hm
  obtain ⟨h1, h2, h3, h4, h5, h6⟩ := hm
  unfold penF
  simp only [List.lookup_cons, h1, h2, h3, h4, h5, h6, List.lookup_nil]
theorem put_rows : putD "rows" (.tuple rs') (penF rs r c h wd ink) = penF rs' r c h wd ink := rfl
theorem put_row : putD "row" (.int x) (penF rs r c h wd ink) = penF rs x c h wd ink := rfl
theorem put_column : putD "column" (.int x) (penF rs r c h wd ink) = penF rs r x h wd ink := rfl
theorem put_3 {r' c' : Int} : putAll ["rows", "row", "column"] [.tuple rs', .int r', .int c'] (penF rs r c h wd ink) = penF rs' r' c' h wd ink := rfl
theorem put_new {r' c' : Int} : putD "ink" (.int ink) (putD "width" (.int wd) (putD "height" (.int h) (putAll ["rows", "row", "column"] [.tuple rs', .int r', .int c'] []))) = penF rs' r' c' h wd ink := rfl
def placeD (c wd : Int) : Int := if wd - 1 < c then wd - 1 else c
/-! ### what only reads -/
def frPlace : Fs → List PyData → PyData → Prop := fun fs ds d => ∃ rs r c h wd ink, fs = penF rs r c h wd ink ∧ ds = [] ∧ d = .int (placeD c wd)
def frCells : Fs → List PyData → PyData → Prop := fun fs ds d => ∃ (rs : List PyData) (r : Nat) (c h wd ink : Int), fs = penF rs r c h wd ink ∧ ds = [] ∧ rs[r]? = some d
def frFaceM : Fs → List PyData → PyData → Prop := fun fs ds d => ∃ rs r c h wd ink, fs = penF rs r c h wd ink ∧ ds = [] ∧ d = .tuple [.tuple rs, .int r, .int (placeD c wd)]
theorem sc_place : FnScope ["self"] ["self"] (defScope s_Pen_place) := ⟨rfl, rfl, rfl, by decide +kernel, rfl, by decide +kernel, by decide +kernel⟩
theorem sc_cells : FnScope ["self"] ["self"] (defScope s_Pen_cells) := ⟨rfl, rfl, rfl, by decide +kernel, rfl, by decide +kernel, by decide +kernel⟩
theorem sc_faceM : FnScope ["self"] ["self"] (defScope s_Pen_face) := ⟨rfl, rfl, rfl, by decide +kernel, rfl, by decide +kernel, by decide +kernel⟩
abbrev Dm (K : PySem.W.Frag) (m q : Str) (st : Stmt) (f : Addr) (fd : FuncData) : Prop := FunD K m q (defArgs st) (defBody st) (defScope st) [] [] f fd
theorem ok_place (F : Dm K "place" "Pen.place" s_Pen_place f fd) (hm : Meth K C "place" f) (B : Bl mg) (PC : PenC K C) : RdOk P w K mg base 1 C "place" frPlace := by
  refine rd_ok F hm sc_place (fun _ _ _ _ _ _ us hl => match us, hl with | [_], _ => rfl) (fun fs ds d h => by obtain ⟨_, _, _, _, _, _, _, rfl, _⟩ := h; rfl) rfl (fun cdv A outer s H E qs a fs ds d hr h => ?_)
  obtain ⟨rs, r, c, h, wd, ink, rfl, rfl, rfl⟩ := h
  exact pd_min rfl B.min (pd_fld 0 PC.cl PC.column List.mem_cons_self get_column) (pd_sub (pd_fld 0 PC.cl PC.width List.mem_cons_self get_width) pd_int)
theorem ok_cellsM (F : Dm K "cells" "Pen.cells" s_Pen_cells f fd) (hm : Meth K C "cells" f) (PC : PenC K C) : RdOk P w K mg base 1 C "cells" frCells := by
  refine rd_ok F hm sc_cells (fun _ _ _ _ _ _ us hl => match us, hl with | [_], _ => rfl) (fun fs ds d h => by obtain ⟨_, _, _, _, _, _, _, rfl, _⟩ := h; rfl) rfl (fun cdv A outer s H E qs a fs ds d hr h => ?_)
  obtain ⟨rs, r, c, h, wd, ink, rfl, rfl, hx⟩ := h
  exact pd_ixT (pd_fld 0 PC.cl PC.rows List.mem_cons_self get_rows) (pd_fld 0 PC.cl PC.row List.mem_cons_self get_row) (atI_nat hx)
theorem ok_faceM (F : Dm K "face" "Pen.face" s_Pen_face f fd) (hm : Meth K C "face" f) (PC : PenC K C) (G : RdOk P w K mg base 1 C "place" frPlace) : RdOk P w K mg base 2 C "face" frFaceM := by
  refine rd_ok F hm sc_faceM (fun _ _ _ _ _ _ us hl => match us, hl with | [_], _ => rfl) (fun fs ds d h => by obtain ⟨_, _, _, _, _, _, _, rfl, _⟩ := h; rfl) rfl (fun cdv A outer s H E qs a fs ds d hr h => ?_)
  obtain ⟨rs, r, c, h, wd, ink, rfl, rfl, rfl⟩ := h
  exact pd_tup (pds_cons (pd_fld 0 PC.cl PC.rows List.mem_cons_self get_rows) (pds_cons (pd_fld 0 PC.cl PC.row List.mem_cons_self get_row) (pds_cons (pd_meth0 0 G hr PC.cl List.mem_cons_self ⟨_, _, _, _, _, _, rfl, rfl, rfl⟩ (get_m (by decide +kernel))) pds_nil)))
/-! ### what writes -/
def putRow (rs : List PyData) (r : Nat) (x : PyData) : List PyData := rs.take r ++ [x] ++ rs.drop (r + 1)
def frPut : Fs → List PyData → Rs → Fs → Prop := fun fs ds s fs' => ∃ (rs : List PyData) (r : Nat) (c h wd ink : Int) (x : PyData), fs = penF rs r c h wd ink ∧ ds = [x] ∧ rs.length ≤ 100 ∧ s = .ok .none ∧ fs' = penF (putRow rs r x) r c h wd ink
theorem sc_put : FnScope ["self", "cells"] ["self", "cells"] (defScope s_Pen_put_cells) := ⟨rfl, rfl, rfl, by decide +kernel, rfl, by decide +kernel, by decide +kernel⟩
theorem ok_putM (F : Dm K "put_cells" "Pen.put_cells" s_Pen_put_cells f fd) (hm : Meth K C "put_cells" f) (PC : PenC K C) : WrOk P w K mg base 1 C "put_cells" frPut := by
  refine wr_ok F hm sc_put (fun _ _ _ _ _ _ us hl => match us, hl with | [_, _], _ => rfl) (fun fs ds s fs' h => by obtain ⟨_, _, _, _, _, _, _, _, rfl, _⟩ := h; rfl) (fun cdv A outer s H E qs a fs ds s0 fs' hr h => ?_)
  obtain ⟨rs, r, c, h, wd, ink, x, rfl, rfl, hz, rfl, rfl⟩ := h
  have l1 := List.length_take_le r rs
  have l2 : (rs.drop (r + 1)).length ≤ rs.length := by rw [List.length_drop]; omega
  refine sd_fld (ω := ⟨qs, []⟩) 0 PC.cl PC.rows (d := .tuple (putRow rs r x)) (pd_catT (ds := rs.take r ++ [x]) (dt := rs.drop (r + 1)) (pd_catT (ds := rs.take r) (dt := [x]) (PD.eq (pd_slT (i := none) (j := some ((r : Nat) : Int)) (pd_fld 0 PC.cl PC.rows List.mem_cons_self get_rows) rfl ⟨_, rfl, pd_fld 0 PC.cl PC.row List.mem_cons_self get_row⟩) (by rw [cut_to]))
    (pd_tup (pds_cons (pd_var 1) pds_nil)) (by simp; omega)) (PD.eq (pd_slT (i := some (((r + 1 : Nat)) : Int)) (j := none) (pd_fld 0 PC.cl PC.rows List.mem_cons_self get_rows) ⟨_, rfl, PD.eq (pd_add (pd_fld 0 PC.cl PC.row List.mem_cons_self get_row) pd_int) rfl⟩ rfl) (by rw [cut_from])) (by rw [List.length_append]; simp; omega)) (sd_nil ⟨rfl, ?_⟩) (show (6 : Nat) < 1000 by decide)
  rw [put_rows]
  exact List.mem_cons_self
def pF (s : Pn) : Fs := penF (s.rows.map .tuple) s.row s.col s.h s.w s.ink
def Pn.take (s : Pn) (rs : List (List PyData)) (r c : Nat) : Pn := { s with rows := rs, row := r, col := c }
/-- a face's parts -/
def rowsF (d : PyData) : List (List PyData) := match d with
  | .tuple (.tuple rs :: _) => rs.map itemsT
  | _ => []
def frTake (CF : Addr) : Fs → List PyData → Rs → Fs → Prop := fun fs ds s fs' => ∃ (t : Pn) (d : PyData), fs = pF t ∧ ds = [d] ∧ smF d ∧
  ((∃ (rs : List PyData) (r c : Nat), Fc t.h t.w d rs r c ∧ s = .ok .none ∧ fs' = penF rs r c t.h t.w t.ink) ∨ (faceOf d t.h t.w = false ∧ s = .er CF ∧ fs' = fs))
def frInit : Fs → List PyData → Rs → Fs → Prop := fun fs ds s fs' => ∃ (h wd : Nat), fs = [] ∧ ds = [.int (h : Int), .int (wd : Int)] ∧ 1 ≤ h ∧ h ≤ 10 ∧ 1 ≤ wd ∧ wd ≤ 20 ∧ s = .ok .none ∧ fs' = penF (List.replicate h (.tuple (List.replicate wd blankC))) 0 0 (h : Int) (wd : Int) 0
theorem size_ok {H W : Nat} (h1 : 1 ≤ H) (h2 : H ≤ 10) (w1 : 1 ≤ W) (w2 : W ≤ 20) : okSize (.int (H : Int)) (.int (W : Int)) = true := by
  show ((decide ((1 : Int) ≤ (H : Int)) && decide ((H : Int) ≤ 10)) && (decide ((1 : Int) ≤ (W : Int)) && decide ((W : Int) ≤ 20))) = true
  rw [decide_eq_true (by omega), decide_eq_true (by omega), decide_eq_true (by omega), decide_eq_true (by omega)]
  rfl
theorem blank_ok {H W : Nat} (h1 : 1 ≤ H) (h2 : H ≤ 10) (w1 : 1 ≤ W) (w2 : W ≤ 20) : frBlank C [.int (H : Int), .int (W : Int)] (.ok (blankF H W)) := by
  refine ⟨_, _, rfl, ?_⟩
  rw [size_ok h1 h2 w1 w2]
  rfl
theorem sc_init : FnScope ["self", "height", "width"] ["self", "height", "width"] (defScope s_Pen___init__) := ⟨rfl, rfl, rfl, by decide +kernel, rfl, by decide +kernel, by decide +kernel⟩
theorem ok_init {CF : Addr} (F : Dm K "__init__" "Pen.__init__" s_Pen___init__ f fd) (hm : Meth K C "__init__" f) (PC : PenC K C) (G : DefOk P w K mg base 4 "blank" (frBlank CF)) : WrOk P w K mg base 5 C "__init__" frInit := by
  refine wr_ok F hm sc_init (fun _ _ _ _ _ _ us hl => match us, hl with | [_, _, _], _ => rfl) (fun fs ds s fs' h => by obtain ⟨_, _, _, rfl, _⟩ := h; rfl) (fun cdv A outer s H E qs a fs ds s0 fs' hr h => ?_)
  obtain ⟨h, wd, rfl, rfl, h1, h2, w1, w2, rfl, rfl⟩ := h
  refine sd_unpF (ω := ⟨qs, []⟩) 0 ["rows", "row", "column"] PC.cl ?_ (pd_call G hr (pds_cons (pd_var 1) (pds_cons (pd_var 2) pds_nil)) (blank_ok h1 h2 w1 w2)) (pg_tup rfl (pgs_cons (pg_fld 0 rfl (.inl rfl)) (pgs_cons (pg_fld 0 rfl (.inl rfl)) (pgs_cons (pg_fld 0 rfl (.inl rfl)) pgs_nil)))) rfl rfl (show (0 : Nat) + 3 < 1000 by decide) ?_
  · intro g hg
    simp only [List.mem_cons, List.not_mem_nil, or_false] at hg
    rcases hg with rfl | rfl | rfl
    · exact PC.rows
    · exact PC.row
    · exact PC.column
  · refine sd_fld (ω := ⟨qs, []⟩) 0 PC.cl PC.height (pd_var 1) ?_ (show (3 : Nat) < 1000 by decide)
    refine sd_fld (ω := ⟨qs, []⟩) 0 PC.cl PC.width (pd_var 2) ?_ (show (4 : Nat) < 1000 by decide)
    refine sd_fld (ω := ⟨qs, []⟩) 0 PC.cl PC.ink pd_int (sd_nil ⟨rfl, ?_⟩) (show (5 : Nat) < 1000 by decide)
    rw [put_new]
    exact List.mem_cons_self
end
end K21

namespace K21
open PySem PySem.Spec PyProof.Rows L2 FP
section
variable {P : Program} {w : World} {K : PySem.W.Frag} {mg : Str → Option Value} {base : Heap} {f C CD : Addr} {fd : FuncData}
theorem place_pn {s : Pn} (o : s.Ok) : placeD (s.col : Int) (s.w : Int) = (s.place : Int) := by
  have := o.w1
  unfold placeD Pn.place
  split <;> omega
theorem rows_form {s : Pn} (o : s.Ok) : ∃ c0 rest, s.rows = c0 :: rest ∧ c0.length = s.w ∧ rest.length < 10 := by
  have h1 := o.len
  have h2 := o.hr
  have h3 := o.h10
  match e : s.rows, h1 with
  | [], h1 => simp at h1; omega
  | c0 :: rest, h1 => exact ⟨c0, rest, rfl, (o.wid c0 (by rw [e]; exact List.mem_cons_self)).1, by simp at h1; omega⟩
theorem roll_map (rs : List (List PyData)) (w : Nat) (n : Int) : rollD (rs.map .tuple) w n = (rollA rs w n).map .tuple := by
  unfold rollD rollA
  split
  · exact (pushA_map PyData.tuple rs 0 _ (blankR w)).symm
  · exact (pullA_map PyData.tuple rs 0 _ (blankR w)).symm
theorem roll_call {s : Pn} (o : s.Ok) {n : Int} (h1 : -100 ≤ n) (h2 : n ≤ 100) : frRoll [.tuple (s.rows.map .tuple), .int n] (.ok (.tuple ((rollA s.rows s.w n).map .tuple))) := by
  obtain ⟨c0, rest, e, l, lr⟩ := rows_form o
  have w20 := o.w20
  refine ⟨c0, rest.map .tuple, n, by rw [e]; rfl, by rw [List.length_map]; omega, by omega, h1, h2, ?_⟩
  rw [← roll_map, e, l]
  rfl
theorem put_map {rs : List (List PyData)} {r : Nat} (x : List PyData) (h : r < rs.length) : putRow (rs.map .tuple) r (.tuple x) = (rs.set r x).map .tuple := by
  unfold putRow
  rw [List.map_set, List.set_eq_take_append_cons_drop, if_pos (by rw [List.length_map]; exact h)]
  simp
theorem set_cut {cs : List PyData} {c : Nat} (y : PyData) (h : c < cs.length) : cs.take c ++ [y] ++ cs.drop (c + 1) = cs.set c y := by
  rw [List.set_eq_take_append_cons_drop, if_pos h]
  simp
theorem cells_call {s : Pn} (o : s.Ok) : frCells (pF s) [] (.tuple s.cells) := by
  refine ⟨_, s.row, _, _, _, _, rfl, rfl, ?_⟩
  rw [List.getElem?_map, o.cells.1]
  rfl
theorem place_call {s : Pn} (o : s.Ok) : frPlace (pF s) [] (.int (s.place : Int)) := ⟨_, _, _, _, _, _, rfl, rfl, by rw [place_pn o]⟩
theorem put_call {s : Pn} (o : s.Ok) (cs : List PyData) : frPut (pF s) [.tuple cs] (.ok .none) (pF (s.put cs)) := by
  have h1 := o.len
  have h2 := o.hr
  have h3 := o.h10
  refine ⟨_, s.row, _, _, _, _, _, rfl, rfl, by rw [List.length_map]; omega, rfl, ?_⟩
  rw [put_map cs (by omega)]
  rfl
/-! ### down -/
def frDown : Fs → List PyData → Rs → Fs → Prop := fun fs ds r fs' => ∃ s : Pn, s.Ok ∧ fs = pF s ∧ ds = [] ∧ r = .ok .none ∧ fs' = pF s.down
theorem sc_down : FnScope ["self"] ["self"] (defScope s_Pen_down) := ⟨rfl, rfl, rfl, by decide +kernel, rfl, by decide +kernel, by decide +kernel⟩
theorem ok_down (F : Dm K "down" "Pen.down" s_Pen_down f fd) (hm : Meth K C "down" f) (PC : PenC K C) (G4 : DefOk P w K mg base 2 "rolled" frRoll) : WrOk P w K mg base 3 C "down" frDown := by
  refine wr_ok F hm sc_down (fun _ _ _ _ _ _ us hl => match us, hl with | [_], _ => rfl) (fun fs ds s fs' h => by obtain ⟨_, _, _, rfl, _⟩ := h; rfl) (fun cdv A outer s H E qs a fs ds s0 fs' hr h => ?_)
  obtain ⟨t, o, rfl, rfl, rfl, rfl⟩ := h
  refine sd_if (pt_cmpd op_lt rd_B0 (pd_fld 0 PC.cl PC.row List.mem_cons_self get_row) (pd_sub (pd_fld 0 PC.cl PC.height List.mem_cons_self get_height) pd_int) (nomark _)) (fun hk => ?_) (fun hk => ?_)
  · have hk := of_decide_eq_true hk
    refine sd_fldadd (ω := ⟨qs, []⟩) 0 PC.cl PC.row get_row pd_int (sd_nil (sd_nil ⟨rfl, ?_⟩)) (show (6 : Nat) < 1000 by decide)
    have e : t.down = { t with row := t.row + 1 } := by
      unfold Pn.down
      rw [if_pos (by omega)]
    rw [e]
    exact List.mem_cons_self
  · have hk := of_decide_eq_false hk
    refine sd_fld (ω := ⟨qs, []⟩) 0 PC.cl PC.rows (pd_call G4 hr (pds_cons (pd_fld 0 PC.cl PC.rows List.mem_cons_self get_rows) (pds_cons pd_int pds_nil)) (roll_call o (by decide) (by decide))) (sd_nil (sd_nil ⟨rfl, ?_⟩)) (show (6 : Nat) < 1000 by decide)
    have e : t.down = { t with rows := rollA t.rows t.w 1 } := by
      unfold Pn.down
      rw [if_neg (by omega)]
    rw [e]
    exact List.mem_cons_self
/-! ### say -/
def frSay : Fs → List PyData → Rs → Fs → Prop := fun fs ds r fs' => ∃ (s : Pn) (c : Nat), s.Ok ∧ fs = pF s ∧ ds = [.str ⟨#[c]⟩] ∧ r = .ok .none ∧ fs' = pF (s.say c)
theorem sc_say : FnScope ["self", "sign", "cells"] ["self", "sign"] (defScope s_Pen_say) := ⟨rfl, rfl, rfl, by decide +kernel, rfl, by decide +kernel, by decide +kernel⟩
theorem ok_say (F : Dm K "say" "Pen.say" s_Pen_say f fd) (hm : Meth K C "say" f) (PC : PenC K C) (GD : WrOk P w K mg base 3 C "down" frDown) (GC : RdOk P w K mg base 1 C "cells" frCells) (GU : WrOk P w K mg base 1 C "put_cells" frPut) : WrOk P w K mg base 4 C "say" frSay := by
  refine wr_ok F hm sc_say (fun _ _ _ _ _ _ us hl => match us, hl with | [_, _], _ => rfl) (fun fs ds s fs' h => by obtain ⟨_, _, _, _, rfl, _⟩ := h; rfl) (fun cdv A outer s H E qs a fs ds s0 fs' hr h => ?_)
  obtain ⟨t, c, o, rfl, rfl, rfl, rfl⟩ := h
  have tk : L2N.Takes (cxOf (L2N.CX P w) P w K mg base ["self", "sign", "cells"] "Pen.say" (defScope s_Pen_say) f cdv A outer s H E) (WOf E) := L2N.takes_of rfl rfl rfl rfl
  refine sd_ifJ (fun δ' ω' => δ' = [some (.ad a), some (.im (.str ⟨#[c]⟩)), none] ∧ ω' = omD ⟨qs, []⟩ a (.ins C (imF (pF t.at)))) (pt_cmpd op_eq rd_eqI (pd_fld 0 PC.cl PC.column List.mem_cons_self get_column) (pd_fld 0 PC.cl PC.width List.mem_cons_self get_width) (nomark _)) (fun hk => ?_) (fun hk => ?_) ?_
  · have hk := of_decide_eq_true hk
    refine sd_fld (ω := ⟨qs, []⟩) 0 PC.cl PC.column pd_int ?_ (show (6 : Nat) < 1000 by decide)
    have o2 : ({ t with col := 0 } : Pn).Ok := ⟨o.len, o.wid, o.hr, Nat.zero_le _, o.h10, o.w1, o.w20, o.hi⟩
    refine sd_methN (fs' := pF (Pn.down { t with col := 0 })) 0 GD (hr.mono (by decide)) tk PC.cl ⟨_, o2, rfl, rfl, rfl, rfl⟩ (get_m (by decide +kernel)) (fun _ _ => sd_nil ⟨rfl, ?_⟩) (fun _ z => by cases z)
    have e : t.at = Pn.down { t with col := 0 } := by
      unfold Pn.at
      rw [if_pos (by omega)]
    rw [e]
  · have hk := of_decide_eq_false hk
    refine sd_nil ⟨rfl, ?_⟩
    have e : t.at = t := by
      unfold Pn.at
      rw [if_neg (by omega)]
    rw [e]
    rfl
  · rintro δ' ω' ⟨rfl, rfl⟩
    obtain ⟨o1, h1⟩ := o.at
    have es : t.say c = { t.at with rows := t.at.rows.set t.at.row (t.at.cells.set t.at.col (cellD c (t.at.ink : Int))), col := t.at.col + 1 } := rfl
    rw [es]
    generalize t.at = u at o1 h1
    obtain ⟨e1, e2, e3⟩ := o1.cells
    have w20 := o1.w20
    refine sd_set 2 (pd_meth0 0 GC (hr.mono (by decide)) PC.cl List.mem_cons_self (cells_call o1) (get_m (by decide +kernel))) ?_ sc_say.nd
    refine sd_meth (ω := ⟨qs, []⟩) (fs' := pF (u.put (u.cells.set u.col (cellD c (u.ink : Int))))) 0 GU (hr.mono (by decide)) tk PC.cl (pds_cons (PD.eq (pd_catT (ds := u.cells.take u.col ++ [cellD c (u.ink : Int)]) (dt := u.cells.drop (u.col + 1)) (pd_catT (ds := u.cells.take u.col) (dt := [cellD c (u.ink : Int)]) (PD.eq (pd_slT (i := none) (j := some ((u.col : Nat) : Int)) (pd_var 2) rfl ⟨_, rfl, pd_fld 0 PC.cl PC.column List.mem_cons_self get_column⟩) (by rw [cut_to]))
      (pd_tup (pds_cons (pd_tup (pds_cons (pd_var 1) (pds_cons (pd_fld 0 PC.cl PC.ink List.mem_cons_self get_ink) pds_nil))) pds_nil)) (by simp; omega)) (PD.eq (pd_slT (i := some (((u.col + 1 : Nat)) : Int)) (j := none) (pd_var 2) ⟨_, rfl, PD.eq (pd_add (pd_fld 0 PC.cl PC.column List.mem_cons_self get_column) pd_int) rfl⟩ rfl) (by rw [cut_from])) (by rw [List.length_append]; simp; omega)) (by rw [set_cut _ (by omega)])) pds_nil)
      (put_call o1 _) (get_m (by decide +kernel)) (fun _ _ => ?_) (fun _ z => by cases z)
    refine sd_fldadd (ω := ⟨qs, []⟩) 0 PC.cl PC.column get_column pd_int (sd_nil ⟨rfl, ?_⟩) (show (6 : Nat) < 1000 by decide)
    exact List.mem_cons_self
/-! ### wipe -/
def frWipe : Fs → List PyData → Rs → Fs → Prop := fun fs ds r fs' => ∃ (s : Pn) (k : Wp), s.Ok ∧ fs = pF s ∧ ds = [.str k.s] ∧ r = .ok .none ∧ fs' = pF (s.wipe k)
theorem sc_wipe : FnScope ["self", "which", "first"] ["self", "which"] (defScope s_Pen_wipe) := ⟨rfl, rfl, rfl, by decide +kernel, rfl, by decide +kernel, by decide +kernel⟩
theorem ok_wipe (F : Dm K "wipe" "Pen.wipe" s_Pen_wipe f fd) (hm : Meth K C "wipe" f) (PC : PenC K C) (GP : RdOk P w K mg base 1 C "place" frPlace) (GC : RdOk P w K mg base 1 C "cells" frCells) (GU : WrOk P w K mg base 1 C "put_cells" frPut) (G3 : DefOk P w K mg base 1 "blank_cells" frBlankCells) : WrOk P w K mg base 2 C "wipe" frWipe := by
  refine wr_ok F hm sc_wipe (fun _ _ _ _ _ _ us hl => match us, hl with | [_, _], _ => rfl) (fun fs ds s fs' h => by obtain ⟨_, _, _, _, rfl, _⟩ := h; rfl) (fun cdv A outer s H E qs a fs ds s0 fs' hr h => ?_)
  obtain ⟨t, k, o, rfl, rfl, rfl, rfl⟩ := h
  have tk : L2N.Takes (cxOf (L2N.CX P w) P w K mg base ["self", "which", "first"] "Pen.wipe" (defScope s_Pen_wipe) f cdv A outer s H E) (WOf E) := L2N.takes_of rfl rfl rfl rfl
  have w20 := o.w20
  have h10 := o.h10
  have hp := o.place
  obtain ⟨e1, e2, e3⟩ := o.cells
  cases k with
  | all =>
    refine sd_ifT (PTd.eq (pt_cmpd op_eq rd_eqS (pd_var 1) pd_str (nomark _)) (by decide +kernel)) ?_
    refine sd_fld (ω := ⟨qs, []⟩) 0 PC.cl PC.rows (PD.eq (pd_rep1 (k := (t.h : Int)) (d := .tuple (blankR t.w)) (pd_tup (pds_cons (pd_call G3 hr (pds_cons (pd_fld 0 PC.cl PC.width List.mem_cons_self get_width) pds_nil) ⟨_, rfl, by omega, by omega, rfl⟩) pds_nil)) (pd_fld 0 PC.cl PC.height List.mem_cons_self get_height) (by omega) (by omega)) (by rw [Int.toNat_natCast])) (sd_ret0 ⟨rfl, ?_⟩) (show (6 : Nat) < 1000 by decide)
    show (a, Od.ins C (imF (pF (t.wipe .all)))) ∈ [(a, Od.ins C (imF (putD "rows" (.tuple (List.replicate t.h (.tuple (blankR t.w)))) (pF t))))]
    have e : pF (t.wipe .all) = putD "rows" (.tuple (List.replicate t.h (.tuple (blankR t.w)))) (pF t) := by
      show penF ((List.replicate t.h (blankR t.w)).map .tuple) _ _ _ _ _ = _
      rw [List.map_replicate]
      rfl
    rw [e]
    exact List.mem_cons_self
  | rest =>
    refine sd_ifF (PTd.eq (pt_cmpd op_eq rd_eqS (pd_var 1) pd_str (nomark _)) (by decide +kernel)) ?_
    refine sd_set 2 (d := .int (t.place : Int)) (pd_if (k := true) (PTd.eq (pt_cmpd op_eq rd_eqS (pd_var 1) pd_str (nomark _)) (by decide +kernel)) (fun _ => pd_meth0 0 GP hr PC.cl List.mem_cons_self (place_call o) (get_m (by decide +kernel))) (fun z => by cases z)) ?_ sc_wipe.nd
    refine sd_meth (ω := ⟨qs, []⟩) (fs' := pF (t.put (t.cells.take t.place ++ blankR (t.w - t.place)))) 0 GU hr tk PC.cl (pds_cons (pd_catT (ds := t.cells.take t.place) (dt := blankR (t.w - t.place)) (PD.eq (pd_slT (i := none) (j := some ((t.place : Nat) : Int)) (pd_meth0 0 GC hr PC.cl List.mem_cons_self (cells_call o) (get_m (by decide +kernel))) rfl ⟨_, rfl, pd_var 2⟩) (by rw [cut_to]))
      (PD.eq (pd_call G3 hr (pds_cons (pd_sub (pd_fld 0 PC.cl PC.width List.mem_cons_self get_width) (pd_var 2)) pds_nil) ⟨_, rfl, by omega, by omega, rfl⟩) (by rw [show ((t.w : Int) - (t.place : Int)).toNat = t.w - t.place by omega]; rfl)) (by rw [List.length_take, blankR_ok.1]; omega)) pds_nil) (put_call o _) (get_m (by decide +kernel)) (fun _ _ => sd_nil ⟨rfl, List.mem_cons_self⟩) (fun _ z => by cases z)
  | row =>
    refine sd_ifF (PTd.eq (pt_cmpd op_eq rd_eqS (pd_var 1) pd_str (nomark _)) (by decide +kernel)) ?_
    refine sd_set 2 (d := .int 0) (pd_if (k := false) (PTd.eq (pt_cmpd op_eq rd_eqS (pd_var 1) pd_str (nomark _)) (by decide +kernel)) (fun z => by cases z) (fun _ => pd_int)) ?_ sc_wipe.nd
    refine sd_meth (ω := ⟨qs, []⟩) (fs' := pF (t.put (blankR t.w))) 0 GU hr tk PC.cl (pds_cons (PD.eq (pd_catT (ds := t.cells.take 0) (dt := blankR t.w) (PD.eq (pd_slT (i := none) (j := some ((0 : Nat) : Int)) (pd_meth0 0 GC hr PC.cl List.mem_cons_self (cells_call o) (get_m (by decide +kernel))) rfl ⟨_, rfl, pd_var 2⟩) (by rw [cut_to]))
      (PD.eq (pd_call G3 hr (pds_cons (pd_sub (pd_fld 0 PC.cl PC.width List.mem_cons_self get_width) (pd_var 2)) pds_nil) ⟨_, rfl, by omega, by omega, rfl⟩) (by rw [show ((t.w : Int) - 0).toNat = t.w by omega]; rfl)) (by rw [List.length_take, blankR_ok.1]; omega)) (by rw [List.take_zero, List.nil_append])) pds_nil) (put_call o _) (get_m (by decide +kernel)) (fun _ _ => sd_nil ⟨rfl, List.mem_cons_self⟩) (fun _ z => by cases z)
end
end K21

namespace K21
open PySem PySem.Spec PyProof.Rows L2 FP
section
variable {P : Program} {w : World} {K : PySem.W.Frag} {mg : Str → Option Value} {base : Heap} {f C CD : Addr} {fd : FuncData}
/-! ### do -/
abbrev NDo : List Str := ["self", "deed", "text", "sign", "row", "column", "ink", "which", "by", "many"]
theorem sc_do : FnScope NDo ["self", "deed"] (defScope s_Pen_do) := ⟨rfl, rfl, rfl, by decide +kernel, rfl, by decide +kernel, by decide +kernel⟩
def frDo : Fs → List PyData → Rs → Fs → Prop := fun fs ds r fs' => ∃ (s : Pn) (D : Dd), s.Ok ∧ D.Ok ∧ fs = pF s ∧ ds = [D.d] ∧ r = .ok .none ∧ fs' = pF (s.go D)
theorem ok_do (F : Dm K "do" "Pen.do" s_Pen_do f fd) (hm : Meth K C "do" f) (PC : PenC K C) (B : Bl mg) (gb : GlD K mg "BLANK" blankC) (GP : RdOk P w K mg base 1 C "place" frPlace) (GC : RdOk P w K mg base 1 C "cells" frCells) (GU : WrOk P w K mg base 1 C "put_cells" frPut)
    (GS : WrOk P w K mg base 4 C "say" frSay) (GDn : WrOk P w K mg base 3 C "down" frDown) (GW : WrOk P w K mg base 2 C "wipe" frWipe)
    (G1 : DefOk P w K mg base 1 "pushed" frPush) (G2 : DefOk P w K mg base 1 "pulled" frPull) (G3 : DefOk P w K mg base 1 "blank_cells" frBlankCells) (G4 : DefOk P w K mg base 2 "rolled" frRoll) : WrOk P w K mg base 5 C "do" frDo := by
  refine wr_ok F hm sc_do (fun _ _ _ _ _ _ us hl => match us, hl with | [_, _], _ => rfl) (fun fs ds s fs' h => by obtain ⟨_, _, _, _, _, rfl, _⟩ := h; rfl) (fun cdv A outer s H E qs a fs ds s0 fs' hr h => ?_)
  obtain ⟨t, D, o, hD, rfl, rfl, rfl, rfl⟩ := h
  have hr1 : Room 1 (A.deeper (envOfC "Pen.do" (defScope s_Pen_do) s.heap.objs.size f cdv)) := hr.mono (by decide)
  have tk : L2N.Takes (cxOf (L2N.CX P w) P w K mg base NDo "Pen.do" (defScope s_Pen_do) f cdv A outer s H E) (WOf E) := L2N.takes_of rfl rfl rfl rfl
  have hp := o.place
  have w20 := o.w20
  have h10 := o.h10
  have hrow := o.hr
  have hlen := o.len
  obtain ⟨e1, e2, e3⟩ := o.cells
  refine sd_match (pd_var 1) ?_
  cases D with
  | say z =>
    refine mc_hit [2] rfl sc_do.nd rfl (by simp) rfl rfl (show capB NDo (defScope s_Pen_do) ["text"] [2] = true by decide +kernel) ?_
    refine sd_for 3 (items := signsD z) (fun i δ' ω' => ω' = omD ⟨qs, []⟩ a (.ins C (imF (pF ((z.cps.toList.take i).foldl Pn.say t)))) ∧ ∃ y3, δ' = [some (.ad a), some (.im (Dd.say z).d), some (.im (.str z)), y3, none, none, none, none, none, none]) (wk_str (pd_var 2)) ⟨rfl, _, rfl⟩ ?_ ?_ (pg_name sc_do.nd rfl (Or.inl rfl)) (passes_of rfl) rfl
    · rintro i d δ' ω' hd ⟨rfl, y3, rfl⟩
      unfold signsD at hd
      rw [List.getElem?_map] at hd
      cases e : z.cps.toList[i]? with
      | none =>
        rw [e] at hd
        cases hd
      | some c =>
        rw [e] at hd
        cases hd
        have o1 := say_all (cs := z.cps.toList.take i) o (fun x hx => hD.2.2 x (List.mem_of_mem_take hx))
        refine sd_meth (ω := ⟨qs, []⟩) 0 GS hr tk PC.cl (pds_cons (pd_var 3) pds_nil) ⟨_, c, o1, rfl, rfl, rfl, rfl⟩ (get_m (by decide +kernel)) (fun _ _ => sd_nil ⟨?_, _, rfl⟩) (fun _ z => by cases z)
        rw [List.take_add_one, e, List.foldl_append]
        rfl
    · rintro δ' ω' ⟨rfl, y3, rfl⟩
      refine sd_nil (sd_nil ⟨rfl, ?_⟩)
      have el : (signsD z).length = z.cps.toList.length := by
        unfold signsD
        rw [List.length_map]
      rw [el, List.take_length]
      exact List.mem_cons_self
  | line =>
    refine mc_len (by simp) (by simp) (mc_hit [] rfl sc_do.nd rfl (by simp) rfl rfl (show capB NDo (defScope s_Pen_do) [] [] = true by decide +kernel) ?_)
    exact sd_methN (ω := ⟨qs, []⟩) 0 GDn (hr.mono (by decide)) tk PC.cl ⟨t, o, rfl, rfl, rfl, rfl⟩ (get_m (by decide +kernel)) (fun _ _ => sd_nil (sd_nil ⟨rfl, List.mem_cons_self⟩)) (fun _ z => by cases z)
  | home =>
    refine mc_len (by simp) (by simp) (mc_word rfl (by decide) rfl (by simp) (mc_hit [] rfl sc_do.nd rfl (by simp) rfl rfl (show capB NDo (defScope s_Pen_do) [] [] = true by decide +kernel) ?_))
    refine sd_fld (ω := ⟨qs, []⟩) 0 PC.cl PC.column pd_int (sd_nil (sd_nil ⟨rfl, ?_⟩)) (show (6 : Nat) < 1000 by decide)
    exact List.mem_cons_self
  | back =>
    refine mc_len (by simp) (by simp) (mc_word rfl (by decide) rfl (by simp) (mc_word rfl (by decide) rfl (by simp) (mc_hit [] rfl sc_do.nd rfl (by simp) rfl rfl (show capB NDo (defScope s_Pen_do) [] [] = true by decide +kernel) ?_)))
    refine sd_fld (ω := ⟨qs, []⟩) 0 PC.cl PC.column (PD.eq (pd_max rfl B.max pd_int (pd_sub (pd_meth0 0 GP hr1 PC.cl List.mem_cons_self (place_call o) (get_m (by decide +kernel))) pd_int)) (show _ = PyData.int ((t.place - 1 : Nat) : Int) by congr 1; split <;> omega)) (sd_nil (sd_nil ⟨rfl, ?_⟩)) (show (6 : Nat) < 1000 by decide)
    exact List.mem_cons_self
  | go r c =>
    refine mc_len (by simp) (by simp) (mc_len (by simp) (by simp) (mc_len (by simp) (by simp) (mc_len (by simp) (by simp) (mc_hit [4, 5] rfl sc_do.nd rfl (by simp) rfl rfl (show capB NDo (defScope s_Pen_do) ["row", "column"] [4, 5] = true by decide +kernel) ?_))))
    refine sd_fld (ω := ⟨qs, []⟩) 0 PC.cl PC.row (PD.eq (pd_min rfl B.min (pd_var 4) (pd_sub (pd_fld 0 PC.cl PC.height List.mem_cons_self get_height) pd_int)) (show _ = PyData.int ((min r (t.h - 1) : Nat) : Int) by have := o.hr; congr 1; split <;> omega)) ?_ (show (6 : Nat) < 1000 by decide)
    refine sd_fld (ω := ⟨qs, []⟩) 0 PC.cl PC.column (PD.eq (pd_min rfl B.min (pd_var 5) (pd_sub (pd_fld 0 PC.cl PC.width List.mem_cons_self rfl) pd_int)) (show _ = PyData.int ((min c (t.w - 1) : Nat) : Int) by have := o.w1; congr 1; split <;> omega)) (sd_nil (sd_nil ⟨rfl, ?_⟩)) (show (6 : Nat) < 1000 by decide)
    exact List.mem_cons_self
  | ink n =>
    refine mc_word rfl (by decide) rfl (by simp) (mc_len (by simp) (by simp) (mc_len (by simp) (by simp) (mc_len (by simp) (by simp) (mc_len (by simp) (by simp) (mc_hit [6] rfl sc_do.nd rfl (by simp) rfl rfl (show capB NDo (defScope s_Pen_do) ["ink"] [6] = true by decide +kernel) ?_)))))
    refine sd_fld (ω := ⟨qs, []⟩) 0 PC.cl PC.ink (pd_var 6) (sd_nil (sd_nil ⟨rfl, ?_⟩)) (show (6 : Nat) < 1000 by decide)
    exact List.mem_cons_self
  | wipe k =>
    refine mc_word rfl (by decide) rfl (by simp) (mc_len (by simp) (by simp) (mc_len (by simp) (by simp) (mc_len (by simp) (by simp) (mc_len (by simp) (by simp) (mc_word rfl (by decide) rfl (by simp) (mc_hit [7] rfl sc_do.nd rfl (by simp) rfl rfl (show capB NDo (defScope s_Pen_do) ["which"] [7] = true by decide +kernel) ?_))))))
    exact sd_meth (ω := ⟨qs, []⟩) 0 GW (hr.mono (by decide)) tk PC.cl (pds_cons (pd_var 7) pds_nil) ⟨t, k, o, rfl, rfl, rfl, rfl⟩ (get_m (by decide +kernel)) (fun _ _ => sd_nil (sd_nil ⟨rfl, List.mem_cons_self⟩)) (fun _ z => by cases z)
  | roll n =>
    refine mc_word rfl (by decide) rfl (by simp) (mc_len (by simp) (by simp) (mc_len (by simp) (by simp) (mc_len (by simp) (by simp) (mc_len (by simp) (by simp) (mc_word rfl (by decide) rfl (by simp) (mc_word rfl (by decide) rfl (by simp) (mc_hit [8] rfl sc_do.nd rfl (by simp) rfl rfl (show capB NDo (defScope s_Pen_do) ["by"] [8] = true by decide +kernel) ?_)))))))
    refine sd_fld (ω := ⟨qs, []⟩) 0 PC.cl PC.rows (pd_call G4 (hr.mono (by decide)) (pds_cons (pd_fld 0 PC.cl PC.rows List.mem_cons_self get_rows) (pds_cons (pd_var 8) pds_nil)) (roll_call o (by have := hD.1; omega) (by have := hD.2; omega))) (sd_nil (sd_nil ⟨rfl, ?_⟩)) (show (6 : Nat) < 1000 by decide)
    exact List.mem_cons_self
  | opn n =>
    refine mc_word rfl (by decide) rfl (by simp) (mc_len (by simp) (by simp) (mc_len (by simp) (by simp) (mc_len (by simp) (by simp) (mc_len (by simp) (by simp) (mc_word rfl (by decide) rfl (by simp) (mc_word rfl (by decide) rfl (by simp) (mc_word rfl (by decide) rfl (by simp) (mc_hit [9] rfl sc_do.nd rfl (by simp) rfl rfl (show capB NDo (defScope s_Pen_do) ["many"] [9] = true by decide +kernel) ?_))))))))
    have hn : n ≤ 99 := hD
    refine sd_meth (ω := ⟨qs, []⟩) (fs' := pF (t.put (pushA t.cells t.place n blankC))) 0 GU hr1 tk PC.cl (pds_cons (pd_call G1 hr1 (pds_cons (pd_meth0 0 GC hr1 PC.cl List.mem_cons_self (cells_call o) (get_m (by decide +kernel))) (pds_cons (pd_meth0 0 GP hr1 PC.cl List.mem_cons_self (place_call o) (get_m (by decide +kernel))) (pds_cons (pd_var 9) (pds_cons (pd_glob gb) pds_nil)))) ⟨t.cells, t.place, n, _, rfl, by omega, by omega, by omega, rfl⟩) pds_nil) (put_call o _) (get_m (by decide +kernel)) (fun _ _ => sd_nil (sd_nil ⟨rfl, List.mem_cons_self⟩)) (fun _ z => by cases z)
  | cut n =>
    refine mc_word rfl (by decide) rfl (by simp) (mc_len (by simp) (by simp) (mc_len (by simp) (by simp) (mc_len (by simp) (by simp) (mc_len (by simp) (by simp) (mc_word rfl (by decide) rfl (by simp) (mc_word rfl (by decide) rfl (by simp) (mc_word rfl (by decide) rfl (by simp) (mc_word rfl (by decide) rfl (by simp) (mc_hit [9] rfl sc_do.nd rfl (by simp) rfl rfl (show capB NDo (defScope s_Pen_do) ["many"] [9] = true by decide +kernel) ?_)))))))))
    have hn : n ≤ 99 := hD
    refine sd_meth (ω := ⟨qs, []⟩) (fs' := pF (t.put (pullA t.cells t.place n blankC))) 0 GU hr1 tk PC.cl (pds_cons (pd_call G2 hr1 (pds_cons (pd_meth0 0 GC hr1 PC.cl List.mem_cons_self (cells_call o) (get_m (by decide +kernel))) (pds_cons (pd_meth0 0 GP hr1 PC.cl List.mem_cons_self (place_call o) (get_m (by decide +kernel))) (pds_cons (pd_var 9) (pds_cons (pd_glob gb) pds_nil)))) ⟨t.cells, t.place, n, _, rfl, by omega, by omega, by omega, rfl⟩) pds_nil) (put_call o _) (get_m (by decide +kernel)) (fun _ _ => sd_nil (sd_nil ⟨rfl, List.mem_cons_self⟩)) (fun _ z => by cases z)
  | more n =>
    refine mc_word rfl (by decide) rfl (by simp) (mc_len (by simp) (by simp) (mc_len (by simp) (by simp) (mc_len (by simp) (by simp) (mc_len (by simp) (by simp) (mc_word rfl (by decide) rfl (by simp) (mc_word rfl (by decide) rfl (by simp) (mc_word rfl (by decide) rfl (by simp) (mc_word rfl (by decide) rfl (by simp) (mc_word rfl (by decide) rfl (by simp) (mc_hit [9] rfl sc_do.nd rfl (by simp) rfl rfl (show capB NDo (defScope s_Pen_do) ["many"] [9] = true by decide +kernel) ?_))))))))))
    have hn : n ≤ 99 := hD
    refine sd_fld (ω := ⟨qs, []⟩) 0 PC.cl PC.rows (PD.eq (pd_call G1 hr1 (pds_cons (pd_fld 0 PC.cl PC.rows List.mem_cons_self get_rows) (pds_cons (pd_fld 0 PC.cl PC.row List.mem_cons_self get_row) (pds_cons (pd_var 9) (pds_cons (pd_call G3 hr1 (pds_cons (pd_fld 0 PC.cl PC.width List.mem_cons_self get_width) pds_nil) ⟨_, rfl, by omega, by omega, rfl⟩) pds_nil)))) ⟨t.rows.map .tuple, t.row, n, .tuple (blankR t.w), by rw [show ((t.w : Nat) : Int).toNat = t.w by omega]; rfl, by rw [List.length_map]; omega, by omega, by omega, rfl⟩) (show _ = PyData.tuple ((pushA t.rows t.row n (blankR t.w)).map .tuple) by rw [pushA_map]; rfl)) (sd_nil (sd_nil ⟨rfl, ?_⟩)) (show (6 : Nat) < 1000 by decide)
    exact List.mem_cons_self
  | less n =>
    refine mc_word rfl (by decide) rfl (by simp) (mc_len (by simp) (by simp) (mc_len (by simp) (by simp) (mc_len (by simp) (by simp) (mc_len (by simp) (by simp) (mc_word rfl (by decide) rfl (by simp) (mc_word rfl (by decide) rfl (by simp) (mc_word rfl (by decide) rfl (by simp) (mc_word rfl (by decide) rfl (by simp) (mc_word rfl (by decide) rfl (by simp) (mc_word rfl (by decide) rfl (by simp) (mc_hit [9] rfl sc_do.nd rfl (by simp) rfl rfl (show capB NDo (defScope s_Pen_do) ["many"] [9] = true by decide +kernel) ?_)))))))))))
    have hn : n ≤ 99 := hD
    refine sd_fld (ω := ⟨qs, []⟩) 0 PC.cl PC.rows (PD.eq (pd_call G2 hr1 (pds_cons (pd_fld 0 PC.cl PC.rows List.mem_cons_self get_rows) (pds_cons (pd_fld 0 PC.cl PC.row List.mem_cons_self get_row) (pds_cons (pd_var 9) (pds_cons (pd_call G3 hr1 (pds_cons (pd_fld 0 PC.cl PC.width List.mem_cons_self get_width) pds_nil) ⟨_, rfl, by omega, by omega, rfl⟩) pds_nil)))) ⟨t.rows.map .tuple, t.row, n, .tuple (blankR t.w), by rw [show ((t.w : Nat) : Int).toNat = t.w by omega]; rfl, by rw [List.length_map]; omega, by omega, by omega, rfl⟩) (show _ = PyData.tuple ((pullA t.rows t.row n (blankR t.w)).map .tuple) by rw [pullA_map]; rfl)) (sd_nil (sd_nil ⟨rfl, ?_⟩)) (show (6 : Nat) < 1000 by decide)
    exact List.mem_cons_self
/-! ### write -/
def frWrite (kn : Str → Prop) (CD : Addr) : Fs → List PyData → Rs → Fs → Prop := fun fs ds r fs' => ∃ (s : Pn) (d : PyData), s.Ok ∧ fs = pF s ∧ ds = [d] ∧ okDs kn d ∧
  ((∃ Ds : List Dd, (∀ D ∈ Ds, D.Ok) ∧ d = .list (Ds.map Dd.d) ∧ r = .ok .none ∧ fs' = pF (s.all Ds)) ∨ (areDeeds d = false ∧ r = .er CD ∧ fs' = fs))
theorem sc_write : FnScope ["self", "deeds", "deed"] ["self", "deeds"] (defScope s_Pen_write) := ⟨rfl, rfl, rfl, by decide +kernel, rfl, by decide +kernel, by decide +kernel⟩
theorem deeds_are {Ds : List Dd} (h : ∀ D ∈ Ds, D.Ok) : areDeeds (.list (Ds.map Dd.d)) = true := List.all_eq_true.mpr fun x hx => by
  obtain ⟨D, hD, rfl⟩ := List.mem_map.mp hx
  exact Dd.is (h D hD)
theorem ok_write {kn : Str → Prop} (F : Dm K "write" "Pen.write" s_Pen_write f fd) (hm : Meth K C "write" f) (PC : PenC K C) (G : DefOk P w K mg base 6 "need_deeds" (frNeeds kn CD)) (GD : WrOk P w K mg base 5 C "do" frDo) : WrOk P w K mg base 7 C "write" (frWrite kn CD) := by
  refine wr_ok F hm sc_write (fun _ _ _ _ _ _ us hl => match us, hl with | [_, _], _ => rfl) (fun fs ds s fs' h => by obtain ⟨_, _, _, _, rfl, _⟩ := h; rfl) (fun cdv A outer s H E qs a fs ds s0 fs' hr h => ?_)
  obtain ⟨t, d, o, rfl, rfl, sm, h⟩ := h
  have tk : L2N.Takes (cxOf (L2N.CX P w) P w K mg base ["self", "deeds", "deed"] "Pen.write" (defScope s_Pen_write) f cdv A outer s H E) (WOf E) := L2N.takes_of rfl rfl rfl rfl
  refine sd_callX G hr tk (pds_cons (pd_var 1) pds_nil) ⟨d, rfl, sm, rfl⟩ (fun d1 e1 => ?_) (fun Z e1 => ?_)
  · rcases h with ⟨Ds, hDs, rfl, rfl, rfl⟩ | ⟨nd, rfl, rfl⟩
    · refine sd_for 2 (items := Ds.map Dd.d) (fun i δ' ω' => ω' = omD ⟨qs, []⟩ a (.ins C (imF (pF (t.all (Ds.take i))))) ∧ ∃ y2, δ' = [some (.ad a), some (.im (.list (Ds.map Dd.d))), y2]) (wk_lst (pd_var 1)) ⟨rfl, _, rfl⟩ ?_ ?_ (pg_name sc_write.nd rfl (Or.inl rfl)) (passes_of rfl) rfl
      · rintro i d δ' ω' hd ⟨rfl, y2, rfl⟩
        rw [List.getElem?_map] at hd
        cases e : Ds[i]? with
        | none =>
          rw [e] at hd
          cases hd
        | some D =>
          rw [e] at hd
          cases hd
          have o1 : (t.all (Ds.take i)).Ok := o.all fun x hx => hDs x (List.mem_of_mem_take hx)
          refine sd_meth (ω := ⟨qs, []⟩) 0 GD (hr.mono (by decide)) tk PC.cl (pds_cons (pd_var 2) pds_nil) ⟨_, D, o1, hDs D (List.mem_of_getElem? e), rfl, rfl, rfl, rfl⟩ (get_m (by decide +kernel)) (fun _ _ => sd_nil ⟨?_, _, rfl⟩) (fun _ z => by cases z)
          rw [List.take_add_one, e]
          show omD ⟨qs, []⟩ a (.ins C (imF (pF ((t.all (Ds.take i)).go D)))) = omD ⟨qs, []⟩ a (.ins C (imF (pF ((Ds.take i ++ [D]).foldl Pn.go t))))
          rw [List.foldl_append]
          rfl
      · rintro δ' ω' ⟨rfl, y2, rfl⟩
        refine sd_nil ⟨rfl, ?_⟩
        rw [List.length_map, List.take_length]
        exact List.mem_cons_self
    · rw [nd] at e1
      cases e1
  · rcases h with ⟨Ds, hDs, rfl, rfl, rfl⟩ | ⟨nd, rfl, rfl⟩
    · rw [deeds_are hDs] at e1
      cases e1
    · rw [nd] at e1
      cases e1
      exact ⟨rfl, List.mem_cons_self⟩
end
end K21

namespace K21
open PySem PySem.Spec PyProof.Rows L2 FP
/-! ### the law's deeds -/
def lens : List Nat := [3, 9, 40]
def nums : List Nat := [0, 1, 2, 3, 12, 99]
def sayS : List Nat := [97, 98, 94, 126, 32, 122]
def sayN (x : Int) : Nat := 1 + (x % (lens.getD (x / 64 % 3).toNat 1 : Int)).toNat
def sayT (x : Int) : List Nat := (List.range (sayN x)).map fun (j : Nat) => sayS.getD (drawn x j % 6).toNat 0
def numL (x : Int) : Nat := nums.getD (x / 1024 % 6).toNat 0
def deedL (m : Int) : Dd :=
  if m % 14 < 5 then .say ⟨(sayT (m / 16)).toArray⟩
  else if m % 14 < 8 then (if m % 14 = 5 then .line else if m % 14 = 6 then .home else .back)
  else if m % 14 = 8 then .go (m / 16 % 12).toNat (m / 16 / 16 % 22).toNat
  else if m % 14 = 9 then .ink (m / 16 % 8).toNat
  else if m % 14 = 10 then .wipe (if m / 16 % 4 = 0 then .row else if m / 16 % 4 = 2 then .all else .rest)
  else if m % 14 = 11 then .roll (if m / 16 % 2 = 0 then (numL (m / 16) : Int) else 0 - (numL (m / 16) : Int))
  else (if m / 16 % 4 = 0 then .opn (numL (m / 16)) else if m / 16 % 4 = 1 then .cut (numL (m / 16)) else if m / 16 % 4 = 2 then .more (numL (m / 16)) else .less (numL (m / 16)))
theorem lens_at (x : Int) : ∃ j : Nat, x / 64 % 3 = (j : Int) ∧ j < 3 ∧ lens.getD (x / 64 % 3).toNat 1 = lens.getD j 1 := by
  obtain ⟨j, e, l⟩ := mod_nat (x / 64) 3 (by decide)
  exact ⟨j, e, l, by rw [show (x / 64 % 3) = (j : Int) from e, Int.toNat_natCast]⟩
theorem lens_b (j : Nat) (h : j < 3) : 3 ≤ lens.getD j 1 ∧ lens.getD j 1 ≤ 40 := by
  revert j
  decide
theorem sayN_b (x : Int) : 1 ≤ sayN x ∧ sayN x ≤ 40 := by
  obtain ⟨j, e, l, g⟩ := lens_at x
  obtain ⟨b1, b2⟩ := lens_b j l
  unfold sayN
  rw [g]
  have h1 := Int.emod_nonneg x (show ((lens.getD j 1 : Nat) : Int) ≠ 0 by omega)
  have h2 := Int.emod_lt_of_pos x (show (0 : Int) < ((lens.getD j 1 : Nat) : Int) by omega)
  omega
theorem num_b (j : Nat) (h : j < 6) : nums.getD j 0 ≤ 99 := by
  revert j
  decide
theorem numL_b (x : Int) : numL x ≤ 99 := by
  obtain ⟨j, e, l⟩ := mod_nat (x / 1024) 6 (by decide)
  unfold numL
  rw [show (x / 1024 % 6) = (j : Int) from e, Int.toNat_natCast]
  exact num_b j l
theorem say_b (j : Nat) (h : j < 6) : okSign (sayS.getD j 0) = true := by
  revert j
  decide
theorem deedL_ok (m : Int) : (deedL m).Ok := by
  have hn := numL_b (m / 16)
  unfold deedL
  split
  · obtain ⟨h1, h2⟩ := sayN_b (m / 16)
    have el : ((sayT (m / 16)).toArray).size = sayN (m / 16) := by
      unfold sayT
      simp
    refine ⟨show 1 ≤ ((sayT (m / 16)).toArray).size by omega, show ((sayT (m / 16)).toArray).size ≤ 200 by omega, fun c hc => ?_⟩
    have hc : c ∈ sayT (m / 16) := by simpa using hc
    unfold sayT at hc
    obtain ⟨j, _, rfl⟩ := List.mem_map.mp hc
    obtain ⟨i, e, l⟩ := mod_nat (drawn (m / 16) j) 6 (by decide)
    rw [show drawn (m / 16) (j : Int) % 6 = (i : Int) from e, Int.toNat_natCast]
    exact say_b i l
  · split
    · split
      · trivial
      · split <;> trivial
    · split
      · exact ⟨show (m / 16 % 12).toNat ≤ 99 by omega, show (m / 16 / 16 % 22).toNat ≤ 99 by omega⟩
      · split
        · exact (show (m / 16 % 8).toNat ≤ 7 by omega)
        · split
          · trivial
          · split
            · show -99 ≤ _ ∧ _ ≤ (99 : Int)
              split <;> omega
            · split
              · exact hn
              · split
                · exact hn
                · split <;> exact hn
section
variable {P : Program} {w : World} {K : PySem.W.Frag} {mg : Str → Option Value} {base : Heap} {f C CD : Addr} {fd : FuncData}
def frLDeed : List PyData → Rs → Prop := fun ds r => ∃ m : Int, ds = [.int m] ∧ r = .ok (deedL m).d
abbrev NLd : List Str := ["_law_more", "_law_here", "_law_way", "_law_signs", "_law_number", "_law_j", "_law_one"]
theorem sc_ldeed : FnScope NLd ["_law_more"] (defScope s__law_deed) := ⟨rfl, rfl, rfl, by decide +kernel, rfl, by decide +kernel, by decide +kernel⟩
theorem nums_at (x : Int) : atI [PyData.int 0, .int 1, .int 2, .int 3, .int 12, .int 99] (x / 1024 % 6) = some (.int (numL x : Int)) := by
  obtain ⟨j, e, l⟩ := mod_nat (x / 1024) 6 (by decide)
  unfold numL
  rw [show (x / 1024 % 6) = (j : Int) from e, Int.toNat_natCast]
  refine atI_nat ?_
  match j, l with
  | 0, _ => rfl
  | 1, _ => rfl
  | 2, _ => rfl
  | 3, _ => rfl
  | 4, _ => rfl
  | 5, _ => rfl
theorem lenL_at (x : Int) : atI [PyData.int 3, .int 9, .int 40] (x / 64 % 3) = some (.int (lens.getD (x / 64 % 3).toNat 1 : Int)) := by
  obtain ⟨j, e, l, g⟩ := lens_at x
  rw [g, e]
  refine atI_nat ?_
  match j, l with
  | 0, _ => rfl
  | 1, _ => rfl
  | 2, _ => rfl
theorem ok_ldeed (F : Df K "_law_deed" s__law_deed f fd) (hm : mg "_law_deed" = some (.ref f)) (B : Bl mg) (G1 : DefOk P w K mg base 1 "_law_drawn" frDrawn) : DefOk P w K mg base 2 "_law_deed" frLDeed := by
  refine def_ok F hm sc_ldeed (fun _ _ _ _ _ _ us hl => match us, hl with | [_], _ => rfl) (fun ds r h => by obtain ⟨_, rfl, _⟩ := h; rfl) (fun cdv A outer s H E qs ds r hr h => ?_)
  obtain ⟨m, rfl, rfl⟩ := h
  refine sd_set 1 (pd_fdiv (wide_div (b := 5) (by decide) (by decide) (by decide) (by decide)) (pd_var 0) pd_int) ?_ sc_ldeed.nd
  refine sd_set 2 (pd_mod (by decide) (pd_var 0) pd_int) ?_ sc_ldeed.nd
  have hw0 : 0 ≤ m % 14 := Int.emod_nonneg _ (by decide)
  have hw1 : m % 14 < 14 := Int.emod_lt_of_pos _ (by decide)
  refine sd_if (pt_cmpd op_lt rd_B0 (pd_var 2) pd_int (nomark _)) (fun hk => ?_) (fun hk => sd_nil ?_)
  · have hk := of_decide_eq_true hk
    have e : deedL m = .say ⟨(sayT (m / 16)).toArray⟩ := by
      unfold deedL
      rw [if_pos hk]
    rw [e]
    generalize m / 16 = x
    obtain ⟨j, e1, l1, g1⟩ := lens_at x
    obtain ⟨b1, b2⟩ := lens_b j l1
    obtain ⟨n1, n2⟩ := sayN_b x
    have pl : (0 : Int) < (lens.getD (x / 64 % 3).toNat 1 : Int) := by rw [g1]; omega
    have en : (1 + x % (lens.getD (x / 64 % 3).toNat 1 : Int)).toNat = sayN x := by
      unfold sayN
      have h1 := Int.emod_nonneg x (show (lens.getD (x / 64 % 3).toNat 1 : Int) ≠ 0 by omega)
      omega
    have e0 : 1 + x % (lens.getD (x / 64 % 3).toNat 1 : Int) = (sayN x : Int) := by
      rw [← en]
      have h1 := Int.emod_nonneg x (show (lens.getD (x / 64 % 3).toNat 1 : Int) ≠ 0 by omega)
      omega
    refine sd_setLc 3 (y := "_law_j") (j := 5) (items := rangeD 0 ((sayN x : Nat) : Int).toNat) (ys := (List.range (sayN x)).map fun (j : Nat) => .int (drawn x j)) rfl sc_ldeed.nd (PWk.ws (wk_range1 (j := (sayN x : Int)) B.range (PD.eq (pd_add pd_int (pd_mod pl (pd_var 1) (pd_ixL (d := .int (lens.getD (x / 64 % 3).toNat 1 : Int)) (PN.pl (pn_lst (pds_cons pd_int (pds_cons pd_int (pds_cons pd_int pds_nil))))) (pd_mod (by decide) (pd_fdiv (wide_div (b := 7) (by decide) (by decide) (by decide) (by decide)) (pd_var 1) pd_int) pd_int) (lenL_at x)))) (by rw [e0])) (by omega))) (by rw [List.length_map, List.length_range, rangeD_nat])
      (blkOk_by (N := NLd) (sc := defScope s__law_deed) (by decide +kernel)) (fun _ _ _ _ _ => pg_name sc_ldeed.nd rfl (Or.inl rfl)) ?_ (by rw [rangeD_nat]; omega) (sw_true rfl rfl rfl (by decide +kernel)) ?_
    · intro j d y hd hy D o s H C cl fp
      obtain ⟨hj, rfl⟩ := rangeD_at hd
      rw [List.getElem?_map, List.getElem?_range hj] at hy
      cases hy
      exact (pd_call G1 hr (pds_cons (pd_var 1) (pds_cons (pd_var 5) pds_nil)) ⟨_, _, rfl, rfl⟩)
    · refine sd_ret (pd_tup (pds_cons pd_str (pds_cons (PD.eq (pd_join (ys := (sayT x).map fun c => (⟨#[c]⟩ : Str)) pd_str (PN.pl (pn_lc (y := "_law_one") (j := 6) (items := (List.range (sayN x)).map fun (j : Nat) => .int (drawn x j)) (ys := ((sayT x).map fun c => (⟨#[c]⟩ : Str)).map .str) rfl sc_ldeed.nd (PWk.ws (wk_lst (pd_var 3))) ?len (blkOk_by (N := NLd) (sc := defScope s__law_deed) (by decide +kernel)) (fun _ _ _ _ _ => pg_name sc_ldeed.nd rfl (Or.inl rfl)) ?el (by simp; omega))) ?sz) (by rw [glued_ones])) pds_nil))) rfl
      case len =>
        unfold sayT
        simp
      case sz =>
        have : ((sayT x).map fun c => (⟨#[c]⟩ : Str)).length = sayN x := by
          unfold sayT
          simp
        have e1 : ∀ cs : List Nat, ((cs.map fun c => (⟨#[c]⟩ : Str)).map (·.length)).sum = cs.length := by
          intro cs
          induction cs with
          | nil => rfl
          | cons c cs ih =>
            rw [List.map_cons, List.map_cons, List.sum_cons, ih, List.length_cons]
            show 1 + cs.length = _
            omega
        rw [e1, this]
        have e2 : (Str.ofString "").length = 0 := by decide +kernel
        have e3 : (sayT x).length = sayN x := by
          unfold sayT
          simp
        rw [e2, e3]
        omega
      case el =>
        intro i d y hd hy D o s H C cl fp
        unfold sayT at hy
        rw [List.getElem?_map] at hd
        cases e : (List.range (sayN x))[i]? with
        | none =>
          rw [e] at hd
          cases hd
        | some j =>
          rw [e] at hd
          cases hd
          rw [List.getElem?_map, List.getElem?_map, List.getElem?_map, e] at hy
          cases hy
          obtain ⟨i2, e2, l2⟩ := mod_nat (drawn x (j : Int)) 6 (by decide)
          refine pd_ixS (c := sayS.getD (drawn x (j : Int) % 6).toNat 0) pd_str (pd_mod (by decide) (pd_var 6) pd_int) (by decide +kernel) ?_
          rw [show drawn x (j : Int) % 6 = (i2 : Int) from e2, Int.toNat_natCast]
          refine atI_nat ?_
          match i2, l2 with
          | 0, _ => rfl
          | 1, _ => rfl
          | 2, _ => rfl
          | 3, _ => rfl
          | 4, _ => rfl
          | 5, _ => rfl
  · have hk := of_decide_eq_false hk
    refine sd_set 4 (pd_ixL (d := .int (numL (m / 16) : Int)) (PN.pl (pn_lst (pds_cons pd_int (pds_cons pd_int (pds_cons pd_int (pds_cons pd_int (pds_cons pd_int (pds_cons pd_int pds_nil)))))))) (pd_mod (by decide) (pd_fdiv (wide_div (b := 11) (by decide) (by decide) (by decide) (by decide)) (pd_var 1) pd_int) pd_int) (nums_at _)) ?_ sc_ldeed.nd
    have e : deedL m = if m % 14 < 8 then (if m % 14 = 5 then .line else if m % 14 = 6 then .home else .back)
        else if m % 14 = 8 then .go (m / 16 % 12).toNat (m / 16 / 16 % 22).toNat
        else if m % 14 = 9 then .ink (m / 16 % 8).toNat
        else if m % 14 = 10 then .wipe (if m / 16 % 4 = 0 then .row else if m / 16 % 4 = 2 then .all else .rest)
        else if m % 14 = 11 then .roll (if m / 16 % 2 = 0 then (numL (m / 16) : Int) else 0 - (numL (m / 16) : Int))
        else (if m / 16 % 4 = 0 then .opn (numL (m / 16)) else if m / 16 % 4 = 1 then .cut (numL (m / 16)) else if m / 16 % 4 = 2 then .more (numL (m / 16)) else .less (numL (m / 16))) := by
      unfold deedL
      rw [if_neg hk]
    rw [e]
    generalize m % 14 = v at hk hw0 hw1
    generalize m / 16 = x
    obtain ⟨q4, e4, l4⟩ := mod_nat x 4 (by decide)
    refine sd_if (pt_cmpd op_lt rd_B0 (pd_var 2) pd_int (nomark _)) (fun h8 => ?_) (fun h8 => sd_nil ?_)
    · have h8 := of_decide_eq_true h8
      rw [if_pos h8]
      refine sd_ret (d := Dd.d (if v = 5 then .line else if v = 6 then .home else .back)) (pd_ixL (PN.pl (pn_lst (pds_cons (pd_tup (pds_cons pd_str pds_nil)) (pds_cons (pd_tup (pds_cons pd_str pds_nil)) (pds_cons (pd_tup (pds_cons pd_str pds_nil)) pds_nil))))) (pd_sub (pd_var 2) pd_int) ?_) rfl
      have h3 : v = 5 ∨ v = 6 ∨ v = 7 := by omega
      rcases h3 with rfl | rfl | rfl
      · exact atI_nat (j := 0) rfl
      · exact atI_nat (j := 1) rfl
      · exact atI_nat (j := 2) rfl
    · have h8 := of_decide_eq_false h8
      rw [if_neg h8]
      refine sd_if (pt_cmpd op_eq rd_eqI (pd_var 2) pd_int (nomark _)) (fun h9 => ?_) (fun h9 => sd_nil ?_)
      · rw [if_pos (of_decide_eq_true h9)]
        refine sd_ret (d := .tuple [.str "go", .int ((x % 12).toNat : Int), .int ((x / 16 % 22).toNat : Int)]) (PD.eq (pd_tup (pds_cons pd_str (pds_cons (pd_mod (by decide) (pd_var 1) pd_int) (pds_cons (pd_mod (by decide) (pd_fdiv (wide_div (b := 5) (by decide) (by decide) (by decide) (by decide)) (pd_var 1) pd_int) pd_int) pds_nil)))) ?_) rfl
        rw [show (((x % 12).toNat : Nat) : Int) = x % 12 by omega, show (((x / 16 % 22).toNat : Nat) : Int) = x / 16 % 22 by omega]
      · rw [if_neg (of_decide_eq_false h9)]
        refine sd_if (pt_cmpd op_eq rd_eqI (pd_var 2) pd_int (nomark _)) (fun h9 => ?_) (fun h9 => sd_nil ?_)
        · rw [if_pos (of_decide_eq_true h9)]
          refine sd_ret (d := .tuple [.str "ink", .int ((x % 8).toNat : Int)]) (PD.eq (pd_tup (pds_cons pd_str (pds_cons (pd_mod (by decide) (pd_var 1) pd_int) pds_nil))) ?_) rfl
          rw [show (((x % 8).toNat : Nat) : Int) = x % 8 by omega]
        · rw [if_neg (of_decide_eq_false h9)]
          refine sd_if (pt_cmpd op_eq rd_eqI (pd_var 2) pd_int (nomark _)) (fun h9 => ?_) (fun h9 => sd_nil ?_)
          · rw [if_pos (of_decide_eq_true h9)]
            refine sd_ret (d := Dd.d (.wipe (if x % 4 = 0 then .row else if x % 4 = 2 then .all else .rest))) (pd_tup (pds_cons pd_str (pds_cons (pd_ixL (d := .str (Wp.s (if x % 4 = 0 then .row else if x % 4 = 2 then .all else .rest))) (PN.pl (pn_lst (pds_cons pd_str (pds_cons pd_str (pds_cons pd_str (pds_cons pd_str pds_nil)))))) (pd_mod (by decide) (pd_var 1) pd_int) ?_) pds_nil))) rfl
            rw [show x % 4 = (q4 : Int) from e4]
            refine atI_nat ?_
            match q4, l4 with
            | 0, _ => rfl
            | 1, _ => rfl
            | 2, _ => rfl
            | 3, _ => rfl
          · rw [if_neg (of_decide_eq_false h9)]
            refine sd_if (pt_cmpd op_eq rd_eqI (pd_var 2) pd_int (nomark _)) (fun h9 => ?_) (fun h9 => sd_nil ?_)
            · rw [if_pos (of_decide_eq_true h9)]
              refine sd_ret (d := Dd.d (.roll (if x % 2 = 0 then (numL x : Int) else 0 - (numL x : Int)))) (pd_tup (pds_cons pd_str (pds_cons (pd_ixL (d := .int (if x % 2 = 0 then (numL x : Int) else 0 - (numL x : Int))) (PN.pl (pn_lst (pds_cons (pd_var 4) (pds_cons (pd_sub pd_int (pd_var 4)) pds_nil)))) (pd_mod (by decide) (pd_var 1) pd_int) ?_) pds_nil))) rfl
              have h2 : x % 2 = 0 ∨ x % 2 = 1 := by omega
              rcases h2 with h2 | h2
              · rw [h2]
                exact atI_nat (j := 0) rfl
              · rw [h2]
                exact atI_nat (j := 1) rfl
            · rw [if_neg (of_decide_eq_false h9)]
              refine sd_ret (d := Dd.d (if x % 4 = 0 then .opn (numL x) else if x % 4 = 1 then .cut (numL x) else if x % 4 = 2 then .more (numL x) else .less (numL x))) (PD.eq (pd_tup (pds_cons (pd_ixL (d := .str (if x % 4 = 0 then "open" else if x % 4 = 1 then "cut" else if x % 4 = 2 then "more" else "less")) (PN.pl (pn_lst (pds_cons pd_str (pds_cons pd_str (pds_cons pd_str (pds_cons pd_str pds_nil)))))) (pd_mod (by decide) (pd_var 1) pd_int) ?_) (pds_cons (pd_var 4) pds_nil))) ?_) rfl
              · rw [show x % 4 = (q4 : Int) from e4]
                refine atI_nat ?_
                match q4, l4 with
                | 0, _ => rfl
                | 1, _ => rfl
                | 2, _ => rfl
                | 3, _ => rfl
              · rw [show x % 4 = (q4 : Int) from e4]
                match q4, l4 with
                | 0, _ => rfl
                | 1, _ => rfl
                | 2, _ => rfl
                | 3, _ => rfl
/-! rows of deeds -/
def deedsL (m : Int) (k : Nat) : List Dd := (List.range (m % ((k + 1 : Nat) : Int)).toNat).map fun (j : Nat) => deedL (drawn m j)
theorem deedsL_ok (m : Int) (k : Nat) : ∀ D ∈ deedsL m k, D.Ok := fun D h => by
  obtain ⟨j, _, rfl⟩ := List.mem_map.mp h
  exact deedL_ok _
def frLDeeds : List PyData → Rs → Prop := fun ds r => ∃ (m : Int) (k : Nat), ds = [.int m, .int (k : Int)] ∧ k ≤ 100 ∧ r = .ok (.list ((deedsL m k).map Dd.d))
abbrev NLds : List Str := ["_law_more", "_law_most", "_law_j"]
theorem sc_ldeeds : FnScope NLds ["_law_more", "_law_most"] (defScope s__law_deeds) := ⟨rfl, rfl, rfl, by decide +kernel, rfl, by decide +kernel, by decide +kernel⟩
theorem ok_ldeeds (F : Df K "_law_deeds" s__law_deeds f fd) (hm : mg "_law_deeds" = some (.ref f)) (B : Bl mg) (G1 : DefOk P w K mg base 1 "_law_drawn" frDrawn) (G2 : DefOk P w K mg base 2 "_law_deed" frLDeed) : DefOk P w K mg base 3 "_law_deeds" frLDeeds := by
  refine def_ok F hm sc_ldeeds (fun _ _ _ _ _ _ us hl => match us, hl with | [_, _], _ => rfl) (fun ds r h => by obtain ⟨_, _, rfl, _⟩ := h; rfl) (fun cdv A outer s H E qs ds r hr h => ?_)
  obtain ⟨m, k, rfl, hk, rfl⟩ := h
  have pk : (0 : Int) < (k : Int) + 1 := by omega
  have h1 := Int.emod_nonneg m (show ((k + 1 : Nat) : Int) ≠ 0 by omega)
  have h2 := Int.emod_lt_of_pos m (show (0 : Int) < ((k + 1 : Nat) : Int) by omega)
  refine sd_ret (PN.pd (pn_lc (y := "_law_j") (j := 2) (items := rangeD 0 (m % ((k + 1 : Nat) : Int)).toNat) (ys := (deedsL m k).map Dd.d) rfl sc_ldeeds.nd (PWk.ws (wk_range1 (j := m % ((k + 1 : Nat) : Int)) B.range (PD.eq (pd_mod pk (pd_var 0) (pd_add (pd_var 1) pd_int)) (by rw [show ((k + 1 : Nat) : Int) = (k : Int) + 1 by omega])) (by omega))) ?len (blkOk_by (N := NLds) (sc := defScope s__law_deeds) (by decide +kernel)) (fun _ _ _ _ _ => pg_name sc_ldeeds.nd rfl (Or.inl rfl)) ?el ?sz)) rfl
  case len =>
    unfold deedsL
    rw [List.length_map, List.length_map, List.length_range, rangeD_len]
  case sz =>
    rw [rangeD_len]
    omega
  case el =>
    intro i d y hd hy D o s H C cl fp
    have hlt := (List.getElem?_eq_some_iff.mp hd).1
    rw [rangeD_len] at hlt
    rw [rangeD_get hlt] at hd
    cases hd
    unfold deedsL at hy
    rw [List.getElem?_map, List.getElem?_map, List.getElem?_range hlt] at hy
    cases hy
    rw [Int.zero_add]
    exact pd_call G2 hr (pds_cons (pd_call G1 (hr.mono (by decide)) (pds_cons (pd_var 0) (pds_cons (pd_var 2) pds_nil)) ⟨_, _, rfl, rfl⟩) pds_nil) ⟨_, rfl, rfl⟩
end
end K21

namespace K21
open PySem PySem.Spec PyProof.Rows L2 FP
/-! ### rows in one list -/
section
variable {α : Type} {w : Nat}
theorem flat_len : ∀ {rs : List (List α)}, (∀ r ∈ rs, r.length = w) → rs.flatten.length = rs.length * w
  | [], _ => by simp
  | r :: rs, h => by
    rw [List.flatten_cons, List.length_append, flat_len fun x hx => h x (List.mem_cons_of_mem _ hx), h r List.mem_cons_self, List.length_cons, Nat.add_mul]
    omega
theorem flat_take : ∀ {rs : List (List α)} (i : Nat), (∀ r ∈ rs, r.length = w) → (rs.take i).flatten = rs.flatten.take (i * w)
  | [], _, _ => by simp
  | r :: rs, 0, _ => by simp
  | r :: rs, i + 1, h => by
    have hr := h r List.mem_cons_self
    have e : (i + 1) * w = r.length + i * w := by
      rw [hr, Nat.add_mul]
      omega
    have e2 : r.take (r.length + i * w) = r := List.take_of_length_le (by omega)
    rw [List.take_succ_cons, List.flatten_cons, List.flatten_cons, flat_take i fun x hx => h x (List.mem_cons_of_mem _ hx), e, List.take_append, e2]
    congr 2
    omega
theorem flat_drop : ∀ {rs : List (List α)} (i : Nat), (∀ r ∈ rs, r.length = w) → (rs.drop i).flatten = rs.flatten.drop (i * w)
  | [], _, _ => by simp
  | r :: rs, 0, _ => by simp
  | r :: rs, i + 1, h => by
    have hr := h r List.mem_cons_self
    have e : (i + 1) * w = r.length + i * w := by
      rw [hr, Nat.add_mul]
      omega
    have e2 : r.drop (r.length + i * w) = [] := List.drop_eq_nil_of_le (by omega)
    rw [List.drop_succ_cons, List.flatten_cons, flat_drop i fun x hx => h x (List.mem_cons_of_mem _ hx), e, List.drop_append, e2, List.nil_append]
    congr 1
    omega
theorem flat_rep (n : Nat) (x : α) : ∀ m : Nat, (List.replicate m (List.replicate n x)).flatten = List.replicate (m * n) x
  | 0 => by simp
  | m + 1 => by
    rw [List.replicate_succ, List.flatten_cons, flat_rep n x m, List.replicate_append_replicate]
    congr 1
    rw [Nat.add_mul]
    omega
theorem flat_set : ∀ {rs : List (List α)} {r c : Nat} {x : α}, (∀ y ∈ rs, y.length = w) → r < rs.length → c < w → (rs.set r ((rs.getD r []).set c x)).flatten = rs.flatten.set (r * w + c) x
  | [], _, _, _, _, h, _ => by simp at h
  | y :: ys, 0, c, x, h, _, hc => by
    have hy := h y List.mem_cons_self
    show ((y.set c x) :: ys).flatten = (y :: ys).flatten.set (0 * w + c) x
    rw [List.flatten_cons, List.flatten_cons, List.set_append_left _ _ (by rw [hy]; omega)]
    congr 2
    omega
  | y :: ys, r + 1, c, x, h, hr, hc => by
    have hy := h y List.mem_cons_self
    have ih := flat_set (rs := ys) (r := r) (c := c) (x := x) (fun z hz => h z (List.mem_cons_of_mem _ hz)) (by simpa using hr) hc
    show (y :: ys.set r ((ys.getD r []).set c x)).flatten = (y :: ys).flatten.set ((r + 1) * w + c) x
    rw [List.flatten_cons, List.flatten_cons, ih, List.set_append_right _ _ (by rw [hy, Nat.add_mul]; omega), hy]
    congr 2
    rw [Nat.add_mul]
    omega
theorem flat_row : ∀ {rs : List (List α)} {r : Nat} {x : List α}, (∀ y ∈ rs, y.length = w) → r < rs.length → (rs.set r x).flatten = rs.flatten.take (r * w) ++ x ++ rs.flatten.drop (r * w + w)
  | rs, r, x, h, hr => by
    rw [List.set_eq_take_append_cons_drop, if_pos hr, List.flatten_append, List.flatten_cons, flat_take r h, flat_drop (r + 1) h, List.append_assoc]
    congr 3
    rw [Nat.add_mul]
    omega
/-- rows from a place on go up, or down -/
def rollAt (rs : List (List PyData)) (w i : Nat) (n : Int) : List (List PyData) := if n < 0 then pushA rs i (-n).toNat (blankR w) else pullA rs i n.toNat (blankR w)
theorem pullA_0 (ts : List α) (i : Nat) (d : α) : pullA ts i 0 d = ts := by
  unfold pullA
  rw [Nat.add_zero, List.take_append_drop]
  simp
theorem pushA_0 (ts : List α) (i : Nat) (d : α) : pushA ts i 0 d = ts := by
  unfold pushA
  simp
theorem flat_pull {rs : List (List PyData)} {i n : Nat} (h : ∀ r ∈ rs, r.length = w) (hi : i ≤ rs.length) : (pullA rs i n (blankR w)).flatten = rs.flatten.take (i * w) ++ ((rs.flatten.drop (i * w)).drop (min (n * w) ((rs.length - i) * w)) ++ List.replicate (min (n * w) ((rs.length - i) * w)) blankC) := by
  unfold pullA
  rw [List.flatten_append, List.flatten_append, flat_take i h, flat_drop (i + n) h, List.append_assoc]
  congr 1
  have el : rs.length - (rs.take i ++ rs.drop (i + n)).length = min n (rs.length - i) := by
    rw [List.length_append, List.length_take, List.length_drop]
    omega
  rw [el]
  unfold blankR
  rw [flat_rep, ← Nat.mul_min_mul_right, List.drop_drop]
  congr 1
  have hl := flat_len h
  have e0 : i * w + (rs.length - i) * w = rs.length * w := by
    rw [← Nat.add_mul]
    congr 1
    omega
  by_cases hn : n ≤ rs.length - i
  · have h1 : n * w ≤ (rs.length - i) * w := Nat.mul_le_mul_right w hn
    rw [Nat.min_eq_left h1]
    congr 1
    rw [Nat.add_mul]
  · have h1 : (rs.length - i) * w ≤ n * w := Nat.mul_le_mul_right w (by omega)
    have h2 : rs.length * w ≤ (i + n) * w := Nat.mul_le_mul_right w (by omega)
    rw [Nat.min_eq_right h1, e0]
    have q1 : rs.flatten.drop ((i + n) * w) = [] := List.drop_eq_nil_of_le (by omega)
    have q2 : rs.flatten.drop (rs.length * w) = [] := List.drop_eq_nil_of_le (by omega)
    rw [q1, q2]
theorem flat_push {rs : List (List PyData)} {i n : Nat} (h : ∀ r ∈ rs, r.length = w) (hi : i ≤ rs.length) : (pushA rs i n (blankR w)).flatten = rs.flatten.take (i * w) ++ (List.replicate (min (n * w) ((rs.length - i) * w)) blankC ++ (rs.flatten.drop (i * w)).take ((rs.length - i) * w - min (n * w) ((rs.length - i) * w))) := by
  unfold pushA
  have hall : ∀ r ∈ rs.take i ++ List.replicate n (blankR w) ++ rs.drop i, r.length = w := fun r hr => by
    rcases List.mem_append.mp hr with q | q
    · rcases List.mem_append.mp q with q | q
      · exact h r (List.mem_of_mem_take q)
      · rw [(List.mem_replicate.mp q).2]
        exact blankR_ok.1
    · exact h r (List.mem_of_mem_drop q)
  have hl := flat_len h
  rw [flat_take _ hall, List.flatten_append, List.flatten_append, flat_take i h, flat_drop i h, List.append_assoc]
  unfold blankR
  rw [flat_rep]
  have e1 : (rs.flatten.take (i * w)).length = i * w := by
    rw [List.length_take, hl]
    have : i * w ≤ rs.length * w := Nat.mul_le_mul_right w hi
    omega
  have e2 : rs.length * w = i * w + (rs.length - i) * w := by
    rw [← Nat.add_mul]
    congr 1
    omega
  rw [List.take_append, e1, List.take_of_length_le (by rw [e1]; omega)]
  congr 1
  rw [show rs.length * w - i * w = (rs.length - i) * w by omega, List.take_append, List.length_replicate, List.take_replicate]
  congr 2
  · exact Nat.min_comm _ _
  · omega
end
end K21

namespace K21
open PySem PySem.Spec PyProof.Rows L2 FP
/-! ### the law's own pen -/
def ownK (s : Pn) (L : Addr) : List (Key × Sd) := [(.inr "cells", .ad L), (.inr "high", .im (.int (s.h : Int))), (.inr "wide", .im (.int (s.w : Int))), (.inr "row", .im (.int (s.row : Int))), (.inr "column", .im (.int (s.col : Int))), (.inr "ink", .im (.int (s.ink : Int)))]
def ownO (s : Pn) (L D : Addr) : Os := [(L, .lst (s.rows.flatten.map .im)), (D, .dct (ownK s L))]
section
variable {s : Pn} {L D : Addr}
theorem ok_cells : valS (ownK s L) (.inr "cells") = some (.ad L) := rfl
theorem ok_high : valS (ownK s L) (.inr "high") = some (.im (.int (s.h : Int))) := rfl
theorem ok_wide : valS (ownK s L) (.inr "wide") = some (.im (.int (s.w : Int))) := rfl
theorem ok_row : valS (ownK s L) (.inr "row") = some (.im (.int (s.row : Int))) := rfl
theorem ok_col : valS (ownK s L) (.inr "column") = some (.im (.int (s.col : Int))) := rfl
theorem ok_ink : valS (ownK s L) (.inr "ink") = some (.im (.int (s.ink : Int))) := rfl
theorem pt_row {n : Nat} : putS (ownK s L) (.inr "row") (.im (.int (n : Int))) = ownK { s with row := n } L := rfl
theorem pt_col {n : Nat} : putS (ownK s L) (.inr "column") (.im (.int (n : Int))) = ownK { s with col := n } L := rfl
theorem pt_ink {n : Nat} : putS (ownK s L) (.inr "ink") (.im (.int (n : Int))) = ownK { s with ink := n } L := rfl
theorem pt_cells {L' : Addr} {rs : List (List PyData)} : putS (ownK s L) (.inr "cells") (.ad L') = ownK { s with rows := rs } L' := rfl
theorem wid_of (o : s.Ok) : ∀ r ∈ s.rows, r.length = s.w := fun r h => (o.wid r h).1
theorem flen (o : s.Ok) : s.rows.flatten.length = s.h * s.w := by rw [flat_len (wid_of o), o.len]
theorem flen_le (o : s.Ok) : s.rows.flatten.length ≤ 200 := by
  rw [flen o]
  have h1 := o.h10
  have h2 := o.w20
  calc s.h * s.w ≤ 10 * 20 := Nat.mul_le_mul h1 h2
    _ = 200 := rfl
end
section
variable {X : Cx} {W : WX} {T : List (Addr × Str)} {δ : De} {ps : List Addr} {rest : Os} {s : Pn} {L D : Addr} {b : Expr} {pos p p1 : Pos} {jk : Nat} {x : Str}
/-- what is read of the law's own pen -/
theorem pd_own (i : Nat) {z : Str} {d : PyData} (hu : X.A.units + 1 < cLine) (hk : valS (ownK s L) (.inr z) = some (.im d)) (hd : δ[i]? = some (some (.ad D)) := by rfl) (hN : X.N[i]? = some x := by rfl) (hv : Vis X.env.scope x := by first | exact Or.inl rfl | exact Or.inr (Or.inl rfl) | exact Or.inr (Or.inr rfl))
    (h1 : (x == ("__debug__" : Str)) = false := by decide) (h2 : (x == ("__classdict__" : Str)) = false := by decide) : PD X δ ⟨ps, ownO s L D ++ rest⟩ (.Subscript (.Name x p1) (.Constant (.str z) jk p) pos) d :=
  ps1_dget (ps1_var i hd hN hv h1 h2) (List.mem_cons_of_mem _ List.mem_cons_self) pd_str hk hu
theorem pl_own (i : Nat) (hu : X.A.units + 1 < cLine) (hd : δ[i]? = some (some (.ad D)) := by rfl) (hN : X.N[i]? = some x := by rfl) (hv : Vis X.env.scope x := by first | exact Or.inl rfl | exact Or.inr (Or.inl rfl) | exact Or.inr (Or.inr rfl))
    (h1 : (x == ("__debug__" : Str)) = false := by decide) (h2 : (x == ("__classdict__" : Str)) = false := by decide) : PL X δ ⟨ps, ownO s L D ++ rest⟩ (.Subscript (.Name x p1) (.Constant (.str "cells") jk p) pos) s.rows.flatten :=
  (PS1.plt (ps1_dget (ps1_var i hd hN hv h1 h2) (List.mem_cons_of_mem _ List.mem_cons_self) pd_str ok_cells hu) List.mem_cons_self).pl
theorem ps1_own (i : Nat) (hu : X.A.units + 1 < cLine) (hd : δ[i]? = some (some (.ad D)) := by rfl) (hN : X.N[i]? = some x := by rfl) (hv : Vis X.env.scope x := by first | exact Or.inl rfl | exact Or.inr (Or.inl rfl) | exact Or.inr (Or.inr rfl))
    (h1 : (x == ("__debug__" : Str)) = false := by decide) (h2 : (x == ("__classdict__" : Str)) = false := by decide) : PS1 X δ ⟨ps, ownO s L D ++ rest⟩ (.Subscript (.Name x p1) (.Constant (.str "cells") jk p) pos) (.ad L) :=
  ps1_dget (ps1_var i hd hN hv h1 h2) (List.mem_cons_of_mem _ List.mem_cons_self) pd_str ok_cells hu
end
section
variable {P : Program} {w : World} {K : PySem.W.Frag} {mg : Str → Option Value} {base : Heap} {f C CD : Addr} {fd : FuncData}
def frLBl : List PyData → Rs → Prop := fun ds r => ∃ n : Nat, ds = [.int (n : Int)] ∧ n ≤ 1000 ∧ r = .ok (.list (List.replicate n blankC))
theorem sc_lbl : FnScope ["_law_many"] ["_law_many"] (defScope s__law_blanks) := ⟨rfl, rfl, rfl, by decide +kernel, rfl, by decide +kernel, by decide +kernel⟩
theorem ok_lbl (F : Df K "_law_blanks" s__law_blanks f fd) (hm : mg "_law_blanks" = some (.ref f)) : DefOk P w K mg base 1 "_law_blanks" frLBl := by
  refine def_ok F hm sc_lbl (fun _ _ _ _ _ _ us hl => match us, hl with | [_], _ => rfl) (fun ds r h => by obtain ⟨_, rfl, _⟩ := h; rfl) (fun cdv A outer s H E qs ds r hr h => ?_)
  obtain ⟨n, rfl, h1, rfl⟩ := h
  exact sd_ret (PD.eq (PN.pd (pn_rep1 (d := blankC) (k := (n : Int)) (PN.plt (pn_lst (pds_cons (pd_tup (pds_cons pd_str (pds_cons pd_int pds_nil))) pds_nil))) (pd_var 0) (by omega) (by omega))) (by rw [Int.toNat_natCast])) rfl
/-! a new one -/
def frLPen : FrG := fun os as R => ∃ h w : Nat, os = [] ∧ as = [.im (.int (h : Int)), .im (.int (w : Int))] ∧ h ≤ 10 ∧ w ≤ 20 ∧ R = fun r os' => ∃ L D, r = .ok (.ad D) ∧ os' = ownO (Pn.new h w) L D
theorem sc_lpen : FnScope ["_law_height", "_law_width"] ["_law_height", "_law_width"] (defScope s__law_pen) := ⟨rfl, rfl, rfl, by decide +kernel, rfl, by decide +kernel, by decide +kernel⟩
theorem ok_lpen (F : Df K "_law_pen" s__law_pen f fd) (hm : mg "_law_pen" = some (.ref f)) : GOk P w K mg base 1 "_law_pen" frLPen := by
  refine g_ok F hm sc_lpen (fun _ _ _ _ _ _ us hl => match us, hl with | [_, _], _ => rfl) (fun os as R h => by obtain ⟨_, _, _, rfl, _⟩ := h; rfl) (fun cdv A outer s H E qs os as R hr h => ?_)
  obtain ⟨h, wd, rfl, rfl, h1, h2, rfl⟩ := h
  have hm : h * wd ≤ 200 := by
    calc h * wd ≤ 10 * 20 := Nat.mul_le_mul h1 h2
      _ = 200 := rfl
  have cm : CMul (h : Int) (wd : Int) := cmul_small (by omega)
  refine sd_retX (ex_disp (pps_cons pe_w pe_w (pps_cons pe_w pe_w (pps_cons pe_w pe_w (pps_cons pe_w pe_w (pps_cons pe_w pe_w (pps_cons pe_w pe_w pps_nil)))))) fun D => dx_nw (PN.nw (PN.eq (pn_rep1 (d := blankC) (k := ((h * wd : Nat) : Int)) (PN.plt (pn_lst (pds_cons (pd_tup (pds_cons pd_str (pds_cons pd_int pds_nil))) pds_nil))) (PD.eq (pd_mulS cm (pd_var 0) (pd_var 1)) (by rw [Int.natCast_mul])) (by omega) (by omega)) (show _ = (Pn.new h wd).rows.flatten by rw [Int.toNat_natCast]; show _ = (List.replicate h (List.replicate wd blankC)).flatten; rw [flat_rep]))) fun L =>
    dx_pd (pd_var 0) (dx_pd (pd_var 1) (dx_pd pd_int (dx_pd pd_int (dx_pd pd_int (dx_nil ⟨(show (6 : Nat) ≤ 15 by decide), (show ([.inr "cells", .inr "high", .inr "wide", .inr "row", .inr "column", .inr "ink"] : List Key).Nodup by decide +kernel), 1, rfl, L, D, rfl, rfl⟩))))))
/-! rows go -/
def frLRoll : FrG := fun os as R => ∃ (s : Pn) (L D : Addr) (i : Nat) (n : Int), s.Ok ∧ os = ownO s L D ∧ as = [.ad D, .im (.int (i : Int)), .im (.int n)] ∧ i ≤ s.h ∧ -100 ≤ n ∧ n ≤ 100 ∧ R = fun r os' => ∃ L', r = .ok (.im .none) ∧ os' = ownO { s with rows := rollAt s.rows s.w i n } L' D
abbrev NR : List Str := ["_law_pen_here", "_law_first", "_law_by", "_law_at", "_law_some", "_law_far"]
theorem sc_lroll : FnScope NR ["_law_pen_here", "_law_first", "_law_by"] (defScope s__law_roll) := ⟨rfl, rfl, rfl, by decide +kernel, rfl, by decide +kernel, by decide +kernel⟩
theorem ok_lroll (F : Df K "_law_roll" s__law_roll f fd) (hm : mg "_law_roll" = some (.ref f)) (B : Bl mg) (ma : mg "abs" = none) (GB : DefOk P w K mg base 1 "_law_blanks" frLBl) : GOk P w K mg base 2 "_law_roll" frLRoll := by
  refine g_ok F hm sc_lroll (fun _ _ _ _ _ _ us hl => match us, hl with | [_, _, _], _ => rfl) (fun os as R h => by obtain ⟨_, _, _, _, _, _, _, rfl, _⟩ := h; rfl) (fun cdv A outer s H E qs os as R hr h => ?_)
  obtain ⟨t, L, D, i, n, o, rfl, rfl, hi, n1, n2, rfl⟩ := h
  have hu : (A.deeper (envOfC "_law_roll" (defScope s__law_roll) s.heap.objs.size f cdv)).units + 1 < cLine := by have := hr.units; omega
  have w20 := o.w20
  have h10 := o.h10
  have hfl := flen_le o
  have hf := flen o
  have hiw : i * t.w ≤ t.h * t.w := Nat.mul_le_mul_right _ hi
  have esub : t.h * t.w - i * t.w = (t.h - i) * t.w := by rw [Nat.sub_mul]
  have lsome : (t.rows.flatten.drop (i * t.w)).length = (t.h - i) * t.w := by rw [List.length_drop, hf, esub]
  refine (show SD _ _ _ _ _ ⟨qs, ownO t L D ++ []⟩ _ from ?_)
  refine sd_set 3 (d := .int ((i * t.w : Nat) : Int)) (PD.eq (pd_mulS (cmul_small (by omega)) (pd_var 1) (pd_own 0 hu ok_wide)) (by rw [Int.natCast_mul])) ?_ sc_lroll.nd
  refine sd_set 4 (d := .list (t.rows.flatten.drop (i * t.w))) (PD.eq (PN.pd (pn_slL (i := some ((i * t.w : Nat) : Int)) (j := none) (pl_own 0 hu) ⟨_, rfl, pd_var 3⟩ rfl)) (by rw [cut_from])) ?_ sc_lroll.nd
  have efar : (min (n.natAbs * t.w) ((t.h - i) * t.w) : Nat) = min (n.natAbs * t.w) ((t.h - i) * t.w) := rfl
  refine sd_set 5 (d := .int ((min (n.natAbs * t.w) ((t.h - i) * t.w) : Nat) : Int)) (PD.eq (pd_min rfl B.min (pd_mulS (cmul_small (by omega)) (pd_abs ma (pd_var 2)) (pd_own 0 hu ok_wide)) (pd_lenL B.len (PD.pl (pd_var 4)))) ?_) ?_ sc_lroll.nd
  · rw [lsome]
    have ea : (if n < 0 then -n else n) = ((n.natAbs : Nat) : Int) := by split <;> omega
    rw [ea, ← Int.natCast_mul]
    congr 1
    split <;> omega
  generalize hfar : min (n.natAbs * t.w) ((t.h - i) * t.w) = far
  have hfar2 : far ≤ (t.h - i) * t.w := by omega
  have hfar3 : far ≤ 200 := by omega
  have wid := wid_of o
  have lenr := o.len
  have fin : ∀ {ω' : Om} {y3 y5 : Option Sd} (some' : List PyData), some'.length = (t.h - i) * t.w → (rollAt t.rows t.w i n).flatten = t.rows.flatten.take (i * t.w) ++ some' →
      SD (cxOf (L2N.CX P w) P w K mg base NR "_law_roll" (defScope s__law_roll) f cdv A outer s H E) (WOf E) [] ((defBody s__law_roll).drop 5) [some (.ad D), some (.im (.int (i : Int))), some (.im (.int n)), some (.im (.int ((i * t.w : Nat) : Int))), some (.im (.list some')), y5] ⟨qs, ownO t L D ++ []⟩ (FinG fun r os' => ∃ L', r = .ok (.im .none) ∧ os' = ownO { t with rows := rollAt t.rows t.w i n } L' D) := by
    intro ω' y3 y5 some' ls es
    refine sd_dput 0 (NW.ex (PN.nw (pn_catL (PN.pl (PN.eq (pn_slL (i := none) (j := some ((i * t.w : Nat) : Int)) (pl_own 0 hu) rfl ⟨_, rfl, pd_var 3⟩) (cut_to _ _))) (PD.pl (pd_var 4)) (by rw [List.length_take, ls]; omega))) (fun L' => ⟨2, ownK t L, rfl, (show (6 : Nat) < 1000 by decide), pd_str, ?_⟩)) hu
    refine sd_drop 1 (sd_nil ⟨L', rfl, ?_⟩)
    rw [← es]
    rfl
  have e3 : (t.rows.length - i) = (t.h - i) := by rw [lenr]
  rcases Int.lt_trichotomy n 0 with hn | hn | hn
  · refine sd_ifF (PTd.eq (pt_cmpd op_gt rd_B0 (pd_var 2) pd_int (nomark _)) (decide_eq_false (by omega))) ?_
    refine sd_ifT (PTd.eq (pt_cmpd op_lt rd_B0 (pd_var 2) pd_int (nomark _)) (decide_eq_true (by omega))) ?_
    refine sd_set 4 (d := .list (List.replicate far blankC ++ (t.rows.flatten.drop (i * t.w)).take ((t.h - i) * t.w - far))) (PN.pd (pn_catL (PD.pl (pd_call GB hr (pds_cons (pd_var 5) pds_nil) ⟨far, rfl, by omega, rfl⟩)) (PN.pl (PN.eq (pn_slL (i := none) (j := some (((t.h - i) * t.w - far : Nat) : Int)) (PD.pl (pd_var 4)) rfl ⟨_, rfl, PD.eq (pd_sub (pd_lenL B.len (PD.pl (pd_var 4))) (pd_var 5)) (by rw [lsome]; congr 1; omega)⟩) (cut_to _ _))) (by rw [List.length_replicate, List.length_take, lsome]; omega))) (sd_nil ?_) sc_lroll.nd
    refine fin (ω' := ⟨[], []⟩) (y3 := none) _ (by rw [List.length_append, List.length_replicate, List.length_take, lsome]; omega) ?_
    unfold rollAt
    rw [if_pos hn, flat_push wid (by omega), e3, show (-n).toNat = n.natAbs by omega, hfar]
  · subst hn
    refine sd_ifF (PTd.eq (pt_cmpd op_gt rd_B0 (pd_var 2) pd_int (nomark _)) (decide_eq_false (by omega))) ?_
    refine sd_ifF (PTd.eq (pt_cmpd op_lt rd_B0 (pd_var 2) pd_int (nomark _)) (decide_eq_false (by omega))) ?_
    refine fin (ω' := ⟨[], []⟩) (y3 := none) _ lsome ?_
    unfold rollAt
    rw [if_neg (by omega)]
    show (pullA t.rows i 0 _).flatten = _
    rw [pullA_0, List.take_append_drop]
  · refine sd_ifT (PTd.eq (pt_cmpd op_gt rd_B0 (pd_var 2) pd_int (nomark _)) (decide_eq_true (by omega))) ?_
    refine sd_set 4 (d := .list ((t.rows.flatten.drop (i * t.w)).drop far ++ List.replicate far blankC)) (PN.pd (pn_catL (PN.pl (PN.eq (pn_slL (i := some ((far : Nat) : Int)) (j := none) (PD.pl (pd_var 4)) ⟨_, rfl, pd_var 5⟩ rfl) (cut_from _ _))) (PD.pl (pd_call GB hr (pds_cons (pd_var 5) pds_nil) ⟨far, rfl, by omega, rfl⟩)) (by rw [List.length_replicate, List.length_drop, lsome]; omega))) (sd_nil ?_) sc_lroll.nd
    refine sd_ifF (PTd.eq (pt_cmpd op_lt rd_B0 (pd_var 2) pd_int (nomark _)) (decide_eq_false (by omega))) ?_
    refine fin (ω' := ⟨[], []⟩) (y3 := none) _ (by rw [List.length_append, List.length_replicate, List.length_drop, lsome]; omega) ?_
    unfold rollAt
    rw [if_neg (by omega), flat_pull wid (by omega), e3, show n.toNat = n.natAbs by omega, hfar]
/-! down -/
def frLDown : FrG := fun os as R => ∃ (s : Pn) (L D : Addr), s.Ok ∧ os = ownO s L D ∧ as = [.ad D] ∧ R = fun r os' => ∃ L', r = .ok (.im .none) ∧ os' = ownO s.down L' D
theorem sc_ldown : FnScope ["_law_pen_here"] ["_law_pen_here"] (defScope s__law_down) := ⟨rfl, rfl, rfl, by decide +kernel, rfl, by decide +kernel, by decide +kernel⟩
theorem ok_ldown (F : Df K "_law_down" s__law_down f fd) (hm : mg "_law_down" = some (.ref f)) (GR : GOk P w K mg base 2 "_law_roll" frLRoll) : GOk P w K mg base 3 "_law_down" frLDown := by
  refine g_ok F hm sc_ldown (fun _ _ _ _ _ _ us hl => match us, hl with | [_], _ => rfl) (fun os as R h => by obtain ⟨_, _, _, _, _, rfl, _⟩ := h; rfl) (fun cdv A outer s H E qs os as R hr h => ?_)
  obtain ⟨t, L, D, o, rfl, rfl, rfl⟩ := h
  have tk : L2N.Takes (cxOf (L2N.CX P w) P w K mg base ["_law_pen_here"] "_law_down" (defScope s__law_down) f cdv A outer s H E) (WOf E) := L2N.takes_of rfl rfl rfl rfl
  have hu : (A.deeper (envOfC "_law_down" (defScope s__law_down) s.heap.objs.size f cdv)).units + 1 < cLine := by have := hr.units; omega
  have hrow := o.hr
  refine (show SD _ _ _ _ _ ⟨qs, ownO t L D ++ []⟩ _ from ?_)
  refine sd_if (pt_cmpd op_lt rd_B0 (pd_add (pd_own 0 hu ok_row) pd_int) (pd_own 0 hu ok_high) (nomark _)) (fun hk => ?_) (fun hk => ?_)
  · have hk := of_decide_eq_true hk
    refine sd_dput 0 (PS1.ex (PD.ps1 (PD.eq (pd_add (pd_own 0 hu ok_row) pd_int) (show _ = PyData.int ((t.row + 1 : Nat) : Int) by congr 1))) ⟨1, ownK t L, rfl, (show (6 : Nat) < 1000 by decide), pd_str, sd_nil (sd_nil ⟨L, rfl, ?_⟩)⟩) hu
    have e : t.down = { t with row := t.row + 1 } := by
      unfold Pn.down
      rw [if_pos (by omega)]
    rw [e]
    rfl
  · have hk := of_decide_eq_false hk
    refine sd_exprX (ex_callG (ownO t L D) [] GR hr tk (pss1_cons (ps1_var 0) (pss1_cons (PD.ps1 pd_int) (pss1_cons (PD.ps1 pd_int) pss1_nil))) ⟨t, L, D, 0, 1, o, rfl, rfl, Nat.zero_le _, by decide, by decide, rfl⟩ ?_)
    rintro r os' ⟨L', rfl, rfl⟩
    refine sd_nil (sd_nil ⟨L', rfl, ?_⟩)
    have e : t.down = { t with rows := rollA t.rows t.w 1 } := by
      unfold Pn.down
      rw [if_neg (by omega)]
    rw [e]
    rfl
end
end K21

namespace K21
open PySem PySem.Spec PyProof.Rows L2 FP
theorem cut_mid (ds : List PyData) {i j : Nat} (hi : i ≤ j) (hj : j ≤ ds.length) : FP.cutD ds (some (i : Int)) (some (j : Int)) = (ds.drop i).take (j - i) := by
  unfold FP.cutD
  rw [HT.sIx_nat, HT.sIx_nat, Nat.min_eq_left hj, Nat.min_eq_left (Nat.le_trans hi hj)]
section
variable {X : Cx} {W : WX} {T : List (Addr × Str)} {δ : De} {ω : Om} {s : Pn} {L D : Addr} {b : Expr} {pos p p1 : Pos} {jk : Nat} {x : Str}
theorem pd_ownM (i : Nat) {z : Str} {d : PyData} (hu : X.A.units + 1 < cLine) (hm : (D, Od.dct (ownK s L)) ∈ ω.os) (hk : valS (ownK s L) (.inr z) = some (.im d)) (hd : δ[i]? = some (some (.ad D)) := by rfl) (hN : X.N[i]? = some x := by rfl) (hv : Vis X.env.scope x := by first | exact Or.inl rfl | exact Or.inr (Or.inl rfl) | exact Or.inr (Or.inr rfl))
    (h1 : (x == ("__debug__" : Str)) = false := by decide) (h2 : (x == ("__classdict__" : Str)) = false := by decide) : PD X δ ω (.Subscript (.Name x p1) (.Constant (.str z) jk p) pos) d :=
  ps1_dget (ps1_var i hd hN hv h1 h2) hm pd_str hk hu
theorem pl_ownM (i : Nat) (hu : X.A.units + 1 < cLine) (hm : (D, Od.dct (ownK s L)) ∈ ω.os) (hl : (L, Od.lst (s.rows.flatten.map .im)) ∈ ω.os) (hd : δ[i]? = some (some (.ad D)) := by rfl) (hN : X.N[i]? = some x := by rfl) (hv : Vis X.env.scope x := by first | exact Or.inl rfl | exact Or.inr (Or.inl rfl) | exact Or.inr (Or.inr rfl))
    (h1 : (x == ("__debug__" : Str)) = false := by decide) (h2 : (x == ("__classdict__" : Str)) = false := by decide) : PL X δ ω (.Subscript (.Name x p1) (.Constant (.str "cells") jk p) pos) s.rows.flatten :=
  (PS1.plt (ps1_dget (ps1_var i hd hN hv h1 h2) hm pd_str ok_cells hu) hl).pl
end
/-! ### said -/
section
variable {P : Program} {w : World} {K : PySem.W.Frag} {mg : Str → Option Value} {base : Heap} {f C CD : Addr} {fd : FuncData}
def frLSay : FrG := fun os as R => ∃ (s : Pn) (L D : Addr) (z : Str), s.Ok ∧ (∀ c ∈ z.cps.toList, okSign c = true) ∧ os = ownO s L D ∧ as = [.ad D, .im (.str z)] ∧ R = fun r os' => ∃ L', r = .ok (.im .none) ∧ os' = ownO (z.cps.toList.foldl Pn.say s) L' D
theorem sc_lsay : FnScope ["_law_pen_here", "_law_text", "_law_sign"] ["_law_pen_here", "_law_text"] (defScope s__law_say) := ⟨rfl, rfl, rfl, by decide +kernel, rfl, by decide +kernel, by decide +kernel⟩
theorem ok_lsay (F : Df K "_law_say" s__law_say f fd) (hm : mg "_law_say" = some (.ref f)) (GD : GOk P w K mg base 3 "_law_down" frLDown) : GOk P w K mg base 4 "_law_say" frLSay := by
  refine g_ok F hm sc_lsay (fun _ _ _ _ _ _ us hl => match us, hl with | [_, _], _ => rfl) (fun os as R h => by obtain ⟨_, _, _, _, _, _, _, rfl, _⟩ := h; rfl) (fun cdv A outer s H E qs os as R hr h => ?_)
  obtain ⟨t, L, D, z, o, hz, rfl, rfl, rfl⟩ := h
  have tk : L2N.Takes (cxOf (L2N.CX P w) P w K mg base ["_law_pen_here", "_law_text", "_law_sign"] "_law_say" (defScope s__law_say) f cdv A outer s H E) (WOf E) := L2N.takes_of rfl rfl rfl rfl
  have hu : (A.deeper (envOfC "_law_say" (defScope s__law_say) s.heap.objs.size f cdv)).units + 1 < cLine := by have := hr.units; omega
  refine sd_for 2 (items := signsD z) (fun i δ' ω' => ∃ L', ω' = ⟨qs, ownO ((z.cps.toList.take i).foldl Pn.say t) L' D ++ []⟩ ∧ ∃ y2, δ' = [some (.ad D), some (.im (.str z)), y2]) (wk_str (pd_var 1)) ⟨L, rfl, _, rfl⟩ ?_ ?_ (pg_name sc_lsay.nd rfl (Or.inl rfl)) (passes_of rfl) rfl
  · rintro i d δ' ω' hd ⟨L1, rfl, y2, rfl⟩
    unfold signsD at hd
    rw [List.getElem?_map] at hd
    cases e : z.cps.toList[i]? with
    | none =>
      rw [e] at hd
      cases hd
    | some c =>
      rw [e] at hd
      cases hd
      have ou := say_all (cs := z.cps.toList.take i) o (fun x hx => hz x (List.mem_of_mem_take hx))
      have en : (z.cps.toList.take (i + 1)).foldl Pn.say t = ((z.cps.toList.take i).foldl Pn.say t).say c := by
        rw [List.take_add_one, e, List.foldl_append]
        rfl
      rw [show (Turn1 (fun i δ' ω' => ∃ L', ω' = ⟨qs, ownO ((z.cps.toList.take i).foldl Pn.say t) L' D ++ []⟩ ∧ ∃ y2, δ' = [some (.ad D), some (.im (.str z)), y2]) i) = (Turn1 (fun j δ' ω' => ∃ L', ω' = ⟨qs, ownO ((z.cps.toList.take j).foldl Pn.say t) L' D ++ []⟩ ∧ ∃ y2, δ' = [some (.ad D), some (.im (.str z)), y2]) i) from rfl]
      generalize hu1 : (z.cps.toList.take i).foldl Pn.say t = u at ou en
      have hc := ou.hc
      refine sd_ifJ (fun δ' ω' => ∃ L', ω' = ⟨qs, ownO u.at L' D ++ []⟩ ∧ δ' = [some (.ad D), some (.im (.str z)), some (.im (.str ⟨#[c]⟩))]) (pt_cmpd op_ge rd_B0 (pd_own 0 hu ok_col) (pd_own 0 hu ok_wide) (nomark _)) (fun hk => ?_) (fun hk => ?_) ?_
      · have hk := of_decide_eq_true hk
        refine sd_dput 0 (PS1.ex (PD.ps1 (pd_int (i := 0))) ⟨1, ownK u L1, rfl, (show (6 : Nat) < 1000 by decide), pd_str, ?_⟩) hu
        have o2 : ({ u with col := 0 } : Pn).Ok := ⟨ou.len, ou.wid, ou.hr, Nat.zero_le _, ou.h10, ou.w1, ou.w20, ou.hi⟩
        refine sd_exprX (ex_callG (ownO { u with col := 0 } L1 D) [] GD hr tk (pss1_cons (ps1_var 0) pss1_nil) ⟨_, L1, D, o2, rfl, rfl, rfl⟩ ?_)
        rintro r os' ⟨L2, rfl, rfl⟩
        refine sd_nil ⟨L2, ?_, rfl⟩
        have ea : u.at = Pn.down { u with col := 0 } := by
          unfold Pn.at
          rw [if_pos (by omega)]
        rw [ea]
      · have hk := of_decide_eq_false hk
        refine sd_nil ⟨L1, ?_, rfl⟩
        have ea : u.at = u := by
          unfold Pn.at
          rw [if_neg (by omega)]
        rw [ea]
      · rintro δ' ω' ⟨L2, rfl, rfl⟩
        obtain ⟨o1, h1⟩ := ou.at
        have es : u.say c = { u.at with rows := u.at.rows.set u.at.row (u.at.cells.set u.at.col (cellD c (u.at.ink : Int))), col := u.at.col + 1 } := rfl
        rw [es] at en
        generalize u.at = v at o1 h1 en
        have w20 := o1.w20
        have hrv := o1.hr
        have hfv := flen o1
        have hrw : v.row * v.w + v.col < v.h * v.w := by
          have : (v.row + 1) * v.w ≤ v.h * v.w := Nat.mul_le_mul_right _ (by omega)
          rw [Nat.add_mul] at this
          omega
        refine sd_lset (n := v.row * v.w + v.col) (PS1.ex (PD.ps1 (pd_tup (pds_cons (pd_var 2) (pds_cons (pd_own 0 hu ok_ink) pds_nil)))) ⟨0, v.rows.flatten.map .im, ps1_own 0 hu, rfl, PD.eq (pd_add (pd_mulS (cmul_small (by omega)) (pd_own 0 hu ok_row) (pd_own 0 hu ok_wide)) (pd_own 0 hu ok_col)) (by rw [← Int.natCast_mul]; rfl), by rw [List.length_map, hfv]; exact hrw, ?_⟩)
        have eset : (v.rows.flatten.map Sd.im).set (v.row * v.w + v.col) (.im (.tuple [.str ⟨#[c]⟩, .int (v.ink : Int)])) = ((v.rows.set v.row (v.cells.set v.col (cellD c (v.ink : Int)))).flatten).map Sd.im := by
          have := flat_set (x := cellD c (v.ink : Int)) (wid_of o1) (show v.row < v.rows.length by rw [o1.len]; exact hrv) h1
          rw [show v.cells = v.rows.getD v.row [] from rfl, this, List.map_set]
          rfl
        rw [eset]
        refine (show SD _ _ _ _ _ ⟨qs, ownO { v with rows := v.rows.set v.row (v.cells.set v.col (cellD c (v.ink : Int))) } L2 D ++ []⟩ _ from ?_)
        refine sd_dput 0 (PS1.ex (PD.ps1 (PD.eq (pd_add (pd_own 0 hu ok_col) pd_int) (show _ = PyData.int ((v.col + 1 : Nat) : Int) by congr 1))) ⟨1, ownK { v with rows := v.rows.set v.row (v.cells.set v.col (cellD c (v.ink : Int))) } L2, rfl, (show (6 : Nat) < 1000 by decide), pd_str, sd_nil ⟨L2, ?_, _, rfl⟩⟩) hu
        rw [en]
        rfl
  · rintro δ' ω' ⟨L1, rfl, y2, rfl⟩
    refine sd_nil ⟨L1, rfl, ?_⟩
    have el : (signsD z).length = z.cps.toList.length := by
      unfold signsD
      rw [List.length_map]
    rw [el, List.take_length]
    rfl
/-! ### a row's cells -/
def frLCd : FrG := fun os as R => ∃ (s : Pn) (L D : Addr) (c : Dd) (word : Str) (which : PyData), s.Ok ∧ c.Ok ∧ c.d = .tuple [.str word, which] ∧ (c = .wipe .row ∨ c = .wipe .rest ∨ (∃ n, c = .opn n) ∨ ∃ n, c = .cut n) ∧ os = ownO s L D ∧ as = [.ad D, .im (.str word), .im which] ∧ R = fun r os' => ∃ L', r = .ok (.im .none) ∧ os' = ownO (s.go c) L' D
abbrev NCd : List Str := ["_law_pen_here", "_law_word", "_law_which", "_law_wide", "_law_begin", "_law_at", "_law_row", "_law_rest"]
theorem sc_lcd : FnScope NCd ["_law_pen_here", "_law_word", "_law_which"] (defScope s__law_cells_done) := ⟨rfl, rfl, rfl, by decide +kernel, rfl, by decide +kernel, by decide +kernel⟩
theorem cells_flat {s : Pn} (o : s.Ok) : s.cells = (s.rows.flatten.drop (s.row * s.w)).take s.w := by
  have h := flat_drop s.row (wid_of o)
  obtain ⟨e1, e2, e3⟩ := o.cells
  have hl : s.row < s.rows.length := by rw [o.len]; exact o.hr
  rw [← h, List.drop_eq_getElem_cons hl, List.flatten_cons]
  have e : s.rows[s.row] = s.cells := by
    rw [List.getElem?_eq_getElem hl] at e1
    exact Option.some.inj e1
  rw [e, List.take_append, e2, Nat.sub_self, List.take_zero, List.append_nil, List.take_of_length_le (by omega)]
theorem put_flat {s : Pn} (o : s.Ok) {p : Nat} (hp : p ≤ s.w) (x : List PyData) : (s.put (s.cells.take p ++ x)).rows.flatten = s.rows.flatten.take (s.row * s.w + p) ++ x ++ s.rows.flatten.drop (s.row * s.w + s.w) := by
  show (s.rows.set s.row (s.cells.take p ++ x)).flatten = _
  rw [flat_row (wid_of o) (by rw [o.len]; exact o.hr), cells_flat o, List.take_take, Nat.min_eq_left hp, List.take_add]
  simp
theorem ok_lcd (F : Df K "_law_cells_done" s__law_cells_done f fd) (hm : mg "_law_cells_done" = some (.ref f)) (B : Bl mg) (GB : DefOk P w K mg base 1 "_law_blanks" frLBl) : GOk P w K mg base 2 "_law_cells_done" frLCd := by
  refine g_ok F hm sc_lcd (fun _ _ _ _ _ _ us hl => match us, hl with | [_, _, _], _ => rfl) (fun os as R h => by obtain ⟨_, _, _, _, _, _, _, _, _, _, _, rfl, _⟩ := h; rfl) (fun cdv A outer s H E qs os as R hr h => ?_)
  obtain ⟨t, L, D, dd, word, which, o, od, ed, hc, rfl, rfl, rfl⟩ := h
  have hu : (A.deeper (envOfC "_law_cells_done" (defScope s__law_cells_done) s.heap.objs.size f cdv)).units + 1 < cLine := by have := hr.units; omega
  have w20 := o.w20
  have w1 := o.w1
  have h10 := o.h10
  have hp := o.place
  have hfl := flen_le o
  have hf := flen o
  have hrow := o.hr
  have hbw : t.row * t.w + t.w ≤ t.h * t.w := by
    have : (t.row + 1) * t.w ≤ t.h * t.w := Nat.mul_le_mul_right _ (by omega)
    rw [Nat.add_mul] at this
    omega
  obtain ⟨c1, c2, c3⟩ := o.cells
  refine (show SD _ _ _ _ _ ⟨qs, ownO t L D ++ []⟩ _ from ?_)
  refine sd_set 3 (pd_own 0 hu ok_wide) ?_ sc_lcd.nd
  have cm : CMul (t.row : Int) (t.w : Int) := cmul_small (by omega)
  refine sd_set 4 (d := .int ((t.row * t.w : Nat) : Int)) (PD.eq (pd_mulS cm (pd_own 0 hu ok_row) (pd_var 3)) (by rw [Int.natCast_mul])) ?_ sc_lcd.nd
  refine sd_set 5 (d := .int ((t.row * t.w + t.place : Nat) : Int)) (PD.eq (pd_add (pd_var 4) (pd_min rfl B.min (pd_own 0 hu ok_col) (pd_sub (pd_var 3) pd_int))) (by unfold Pn.place; congr 1; split <;> omega)) ?_ sc_lcd.nd
  refine sd_set 6 (d := .list (t.cells.drop t.place)) (PD.eq (PN.pd (pn_slL (i := some ((t.row * t.w + t.place : Nat) : Int)) (j := some ((t.row * t.w + t.w : Nat) : Int)) (pl_own 0 hu) ⟨_, rfl, pd_var 5⟩ ⟨_, rfl, PD.eq (pd_add (pd_var 4) (pd_var 3)) (by congr 1)⟩)) ?_) ?_ sc_lcd.nd
  · rw [cut_mid _ (by omega) (by omega), cells_flat o, List.drop_take, List.drop_drop, show t.row * t.w + t.w - (t.row * t.w + t.place) = t.w - t.place by omega]
  -- the end: at a place, a row behind it
  have fin : ∀ (p : Nat) (x : List PyData) {y7 : Option Sd}, p ≤ t.w → x.length ≤ 300 → (t.go dd).rows = (t.put (t.cells.take p ++ (x ++ List.replicate t.w blankC).take (t.w - p))).rows → (t.go dd) = { t with rows := (t.go dd).rows } →
      SD (cxOf (L2N.CX P w) P w K mg base NCd "_law_cells_done" (defScope s__law_cells_done) f cdv A outer s H E) (WOf E) [] ((defBody s__law_cells_done).drop 6) [some (.ad D), some (.im (.str word)), some (.im which), some (.im (.int (t.w : Int))), some (.im (.int ((t.row * t.w : Nat) : Int))), some (.im (.int ((t.row * t.w + p : Nat) : Int))), some (.im (.list x)), y7] ⟨qs, ownO t L D ++ []⟩ (FinG fun r os' => ∃ L', r = .ok (.im .none) ∧ os' = ownO (t.go dd) L' D) := by
    intro p x y7 hpw hx er eg
    refine sd_set 6 (d := .list ((x ++ List.replicate t.w blankC).take (t.w - p))) (PD.eq (PN.pd (pn_slL (i := none) (j := some ((t.w - p : Nat) : Int)) (PN.pl (pn_catL (PD.pl (pd_var 6)) (PD.pl (pd_call GB hr (pds_cons (pd_var 3) pds_nil) ⟨t.w, rfl, by omega, rfl⟩)) (by rw [List.length_replicate]; omega))) rfl ⟨_, rfl, PD.eq (pd_sub (pd_add (pd_var 4) (pd_var 3)) (pd_var 5)) (by congr 1; omega)⟩)) (by rw [cut_to])) ?_ sc_lcd.nd
    refine sd_set 7 (d := .list (t.rows.flatten.drop (t.row * t.w + t.w))) (PD.eq (PN.pd (pn_slL (i := some ((t.row * t.w + t.w : Nat) : Int)) (j := none) (pl_own 0 hu) ⟨_, rfl, PD.eq (pd_add (pd_var 4) (pd_var 3)) (by congr 1)⟩ rfl)) (by rw [cut_from])) ?_ sc_lcd.nd
    refine sd_dput 0 (NW.ex (PN.nw (pn_catL (PN.pl (pn_catL (PN.pl (PN.eq (pn_slL (i := none) (j := some ((t.row * t.w + p : Nat) : Int)) (pl_own 0 hu) rfl ⟨_, rfl, pd_var 5⟩) (cut_to _ _))) (PD.pl (pd_var 6)) (by rw [List.length_take, List.length_take]; omega))) (PD.pl (pd_var 7)) (by rw [List.length_append, List.length_take, List.length_take, List.length_drop]; omega))) (fun L' => ⟨2, ownK t L, rfl, (show (6 : Nat) < 1000 by decide), pd_str, ?_⟩)) hu
    refine sd_drop 1 (sd_nil ⟨L', rfl, ?_⟩)
    have e := put_flat o hpw ((x ++ List.replicate t.w blankC).take (t.w - p))
    rw [← er] at e
    rw [eg]
    show ([(L', Od.lst _), (D, Od.dct _)] : Os) = [(L', Od.lst ((t.go dd).rows.flatten.map Sd.im)), (D, Od.dct (ownK { t with rows := (t.go dd).rows } L'))]
    rw [e]
    rfl
  rcases hc with rfl | rfl | ⟨n, rfl⟩ | ⟨n, rfl⟩
  · cases ed
    refine sd_ifT (PTd.eq (pt_cmpd op_eq rd_eqS (pd_var 2) pd_str (nomark _)) (by decide +kernel)) ?_
    refine sd_set 5 (d := .int ((t.row * t.w + 0 : Nat) : Int)) (pd_var 4) (sd_nil ?_) sc_lcd.nd
    refine sd_ifT (PTd.eq (pt_cmpd op_eq rd_eqS (pd_var 1) pd_str (nomark _)) (by decide +kernel)) (sd_set 6 (PN.pd (pn_lst pds_nil)) (sd_nil ?_) sc_lcd.nd)
    refine fin 0 [] (Nat.zero_le _) (by simp) ?_ rfl
    show (t.put (blankR t.w)).rows = _
    rw [List.take_zero, List.nil_append, List.nil_append, Nat.sub_zero, List.take_of_length_le (by rw [List.length_replicate]; exact Nat.le_refl _)]
    rfl
  · cases ed
    refine sd_ifF (PTd.eq (pt_cmpd op_eq rd_eqS (pd_var 2) pd_str (nomark _)) (by decide +kernel)) ?_
    refine sd_ifT (PTd.eq (pt_cmpd op_eq rd_eqS (pd_var 1) pd_str (nomark _)) (by decide +kernel)) (sd_set 6 (PN.pd (pn_lst pds_nil)) (sd_nil ?_) sc_lcd.nd)
    refine fin t.place [] (by omega) (by simp) ?_ rfl
    show (t.put (t.cells.take t.place ++ blankR (t.w - t.place))).rows = _
    rw [List.nil_append, List.take_replicate, Nat.min_eq_left (by omega)]
    rfl
  · cases ed
    have hn : n ≤ 99 := od
    refine sd_ifF (PTd.eq (pt_cmpd (op_eqD hr.units) (rd_eqD (Shp.ok (n := 0) (Shp.int _)) (Shp.ok (n := 0) (Shp.str (by decide +kernel)))) (pd_var 2) pd_str (nomark _)) rfl) ?_
    refine sd_ifF' (PTd.eq (pt_cmpd op_eq rd_eqS (pd_var 1) pd_str (nomark _)) (by decide +kernel)) ?_
    refine sd_ifT (PTd.eq (pt_cmpd op_eq rd_eqS (pd_var 1) pd_str (nomark _)) (by decide +kernel)) (sd_set 6 (d := .list (List.replicate n blankC ++ t.cells.drop t.place)) (PN.pd (pn_catL (PD.pl (pd_call GB hr (pds_cons (pd_var 2) pds_nil) ⟨n, rfl, by omega, rfl⟩)) (PD.pl (pd_var 6)) (by rw [List.length_replicate, List.length_drop]; omega))) (sd_nil (sd_nil ?_)) sc_lcd.nd)
    refine fin t.place _ (by omega) (by rw [List.length_append, List.length_replicate, List.length_drop]; omega) ?_ rfl
    show (t.put (pushA t.cells t.place n blankC)).rows = _
    have e : pushA t.cells t.place n blankC = t.cells.take t.place ++ (List.replicate n blankC ++ t.cells.drop t.place ++ List.replicate t.w blankC).take (t.w - t.place) := by
      unfold pushA
      rw [c2, List.append_assoc, List.take_append, List.length_take, c2, Nat.min_eq_left (by omega), List.take_take, Nat.min_eq_right (by omega), List.take_append_of_le_length (l₂ := List.replicate t.w blankC)]
      rw [List.length_append, List.length_replicate, List.length_drop]
      omega
    rw [e]
  · cases ed
    have hn : n ≤ 99 := od
    refine sd_ifF (PTd.eq (pt_cmpd (op_eqD hr.units) (rd_eqD (Shp.ok (n := 0) (Shp.int _)) (Shp.ok (n := 0) (Shp.str (by decide +kernel)))) (pd_var 2) pd_str (nomark _)) rfl) ?_
    refine sd_ifF' (PTd.eq (pt_cmpd op_eq rd_eqS (pd_var 1) pd_str (nomark _)) (by decide +kernel)) ?_
    refine sd_ifF' (PTd.eq (pt_cmpd op_eq rd_eqS (pd_var 1) pd_str (nomark _)) (by decide +kernel)) (sd_set 6 (d := .list ((t.cells.drop t.place).drop n)) (PD.eq (PN.pd (pn_slL (i := some ((n : Nat) : Int)) (j := none) (PD.pl (pd_var 6)) ⟨_, rfl, pd_var 2⟩ rfl)) (by rw [cut_from])) (sd_nil (sd_nil ?_)) sc_lcd.nd)
    refine fin t.place _ (by omega) (by rw [List.length_drop, List.length_drop]; omega) ?_ rfl
    show (t.put (pullA t.cells t.place n blankC)).rows = _
    have e : pullA t.cells t.place n blankC = t.cells.take t.place ++ ((t.cells.drop t.place).drop n ++ List.replicate t.w blankC).take (t.w - t.place) := by
      unfold pullA
      rw [c2, List.append_assoc, List.drop_drop, List.length_append, List.length_take, List.length_drop, c2, Nat.min_eq_left (by omega)]
      congr 1
      rw [List.take_append, List.length_drop, c2, List.take_of_length_le (by rw [List.length_drop]; omega), List.take_replicate]
      congr 2
      omega
    rw [e]
end
end K21

namespace K21
open PySem PySem.Spec PyProof.Rows L2 FP
section
variable {P : Program} {w : World} {K : PySem.W.Frag} {mg : Str → Option Value} {base : Heap} {f C CD : Addr} {fd : FuncData}
def frLBlG : FrG := fun os as R => ∃ n : Nat, os = [] ∧ as = [.im (.int (n : Int))] ∧ n ≤ 1000 ∧ R = fun r os' => ∃ L, r = .ok (.ad L) ∧ os' = [(L, .lst ((List.replicate n blankC).map .im))]
theorem ok_lblG (F : Df K "_law_blanks" s__law_blanks f fd) (hm : mg "_law_blanks" = some (.ref f)) : GOk P w K mg base 1 "_law_blanks" frLBlG := by
  refine g_ok F hm sc_lbl (fun _ _ _ _ _ _ us hl => match us, hl with | [_], _ => rfl) (fun os as R h => by obtain ⟨_, _, rfl, _⟩ := h; rfl) (fun cdv A outer s H E qs os as R hr h => ?_)
  obtain ⟨n, rfl, rfl, h1, rfl⟩ := h
  exact sd_retX (NW.ex (PN.nw (PN.eq (pn_rep1 (d := blankC) (k := (n : Int)) (PN.plt (pn_lst (pds_cons (pd_tup (pds_cons pd_str (pds_cons pd_int pds_nil))) pds_nil))) (pd_var 0) (by omega) (by omega)) (show _ = List.replicate n blankC by rw [Int.toNat_natCast]))) (fun L => ⟨L, rfl, rfl⟩))
def frLDo : FrG := fun os as R => ∃ (s : Pn) (L D : Addr) (c : Dd), s.Ok ∧ c.Ok ∧ os = ownO s L D ∧ as = [.ad D, .im c.d] ∧ R = fun r os' => ∃ L', r = .ok (.im .none) ∧ os' = ownO (s.go c) L' D
theorem sc_ldo : FnScope ["_law_pen_here", "_law_deed_here", "_law_word"] ["_law_pen_here", "_law_deed_here"] (defScope s__law_do) := ⟨rfl, rfl, rfl, by decide +kernel, rfl, by decide +kernel, by decide +kernel⟩
theorem ok_ldo (F : Df K "_law_do" s__law_do f fd) (hm : mg "_law_do" = some (.ref f)) (B : Bl mg) (GR : GOk P w K mg base 2 "_law_roll" frLRoll) (GD : GOk P w K mg base 3 "_law_down" frLDown) (GS : GOk P w K mg base 4 "_law_say" frLSay) (GC : GOk P w K mg base 2 "_law_cells_done" frLCd) (GBG : GOk P w K mg base 1 "_law_blanks" frLBlG) : GOk P w K mg base 5 "_law_do" frLDo := by
  refine g_ok F hm sc_ldo (fun _ _ _ _ _ _ us hl => match us, hl with | [_, _], _ => rfl) (fun os as R h => by obtain ⟨_, _, _, _, _, _, _, rfl, _⟩ := h; rfl) (fun cdv A outer s H E qs os as R hr h => ?_)
  obtain ⟨t, L, D, c, o, hc, rfl, rfl, rfl⟩ := h
  have tk : L2N.Takes (cxOf (L2N.CX P w) P w K mg base ["_law_pen_here", "_law_deed_here", "_law_word"] "_law_do" (defScope s__law_do) f cdv A outer s H E) (WOf E) := L2N.takes_of rfl rfl rfl rfl
  have hu : (A.deeper (envOfC "_law_do" (defScope s__law_do) s.heap.objs.size f cdv)).units + 1 < cLine := by have := hr.units; omega
  have hr1 : Room 1 (A.deeper (envOfC "_law_do" (defScope s__law_do) s.heap.objs.size f cdv)) := hr.mono (by decide)
  have hr2 : Room 2 (A.deeper (envOfC "_law_do" (defScope s__law_do) s.heap.objs.size f cdv)) := hr.mono (by decide)
  have hr3 : Room 3 (A.deeper (envOfC "_law_do" (defScope s__law_do) s.heap.objs.size f cdv)) := hr.mono (by decide)
  have w1 := o.w1
  have w20 := o.w20
  have hrow := o.hr
  have h10 := o.h10
  have hfl := flen_le o
  have hp := o.place
  refine (show SD _ _ _ _ _ ⟨qs, ownO t L D ++ []⟩ _ from ?_)
  cases c with
  | say z =>
    refine sd_set 2 (d := .str "say") (pd_ixT (pd_var 1) pd_int atI0) ?_ sc_ldo.nd
    refine sd_ifT (PTd.eq (pt_cmpd op_eq rd_eqS (pd_var 2) pd_str (nomark _)) (by decide +kernel)) ?_
    refine sd_exprX (ex_callG (ownO t L D) [] GS hr tk (pss1_cons (ps1_var 0) (pss1_cons (PD.ps1 (pd_ixT (pd_var 1) pd_int atI1)) pss1_nil)) ⟨t, L, D, z, o, hc.2.2, rfl, rfl, rfl⟩ ?_)
    rintro r os' ⟨L', rfl, rfl⟩
    exact sd_nil (sd_nil ⟨L', rfl, List.append_nil _⟩)
  | line =>
    refine sd_set 2 (d := .str "line") (pd_ixT (pd_var 1) pd_int atI0) ?_ sc_ldo.nd
    refine sd_ifF' (PTd.eq (pt_cmpd op_eq rd_eqS (pd_var 2) pd_str (nomark _)) (by decide +kernel)) ?_
    refine sd_ifT (PTd.eq (pt_cmpd op_eq rd_eqS (pd_var 2) pd_str (nomark _)) (by decide +kernel)) ?_
    refine sd_exprX (ex_callG (ownO t L D) [] GD hr3 tk (pss1_cons (ps1_var 0) pss1_nil) ⟨t, L, D, o, rfl, rfl, rfl⟩ ?_)
    rintro r os' ⟨L', rfl, rfl⟩
    exact sd_nil (sd_nil (sd_nil ⟨L', rfl, List.append_nil _⟩))
  | home =>
    refine sd_set 2 (d := .str "home") (pd_ixT (pd_var 1) pd_int atI0) ?_ sc_ldo.nd
    refine sd_ifF' (PTd.eq (pt_cmpd op_eq rd_eqS (pd_var 2) pd_str (nomark _)) (by decide +kernel)) ?_
    refine sd_ifF' (PTd.eq (pt_cmpd op_eq rd_eqS (pd_var 2) pd_str (nomark _)) (by decide +kernel)) ?_
    refine sd_ifT (PTd.eq (pt_cmpd op_eq rd_eqS (pd_var 2) pd_str (nomark _)) (by decide +kernel)) ?_
    refine sd_dput 0 (PS1.ex (PD.ps1 (pd_int (i := 0))) ⟨1, ownK t L, rfl, (show (6 : Nat) < 1000 by decide), pd_str, ?_⟩) hu
    exact sd_nil (sd_nil (sd_nil (sd_nil ⟨L, rfl, rfl⟩)))
  | back =>
    refine sd_set 2 (d := .str "back") (pd_ixT (pd_var 1) pd_int atI0) ?_ sc_ldo.nd
    refine sd_ifF' (PTd.eq (pt_cmpd op_eq rd_eqS (pd_var 2) pd_str (nomark _)) (by decide +kernel)) ?_
    refine sd_ifF' (PTd.eq (pt_cmpd op_eq rd_eqS (pd_var 2) pd_str (nomark _)) (by decide +kernel)) ?_
    refine sd_ifF' (PTd.eq (pt_cmpd op_eq rd_eqS (pd_var 2) pd_str (nomark _)) (by decide +kernel)) ?_
    refine sd_ifT (PTd.eq (pt_cmpd op_eq rd_eqS (pd_var 2) pd_str (nomark _)) (by decide +kernel)) ?_
    refine sd_dput 0 (PS1.ex (PD.ps1 (PD.eq (pd_max rfl B.max pd_int (pd_sub (pd_min rfl B.min (pd_own 0 hu ok_col) (pd_sub (pd_own 0 hu ok_wide) pd_int)) pd_int)) (show _ = PyData.int ((t.place - 1 : Nat) : Int) by unfold Pn.place; congr 1; split <;> (split at * <;> omega)))) ⟨1, ownK t L, rfl, (show (6 : Nat) < 1000 by decide), pd_str, ?_⟩) hu
    exact sd_nil (sd_nil (sd_nil (sd_nil (sd_nil ⟨L, rfl, rfl⟩))))
  | go r c =>
    refine sd_set 2 (d := .str "go") (pd_ixT (pd_var 1) pd_int atI0) ?_ sc_ldo.nd
    refine sd_ifF' (PTd.eq (pt_cmpd op_eq rd_eqS (pd_var 2) pd_str (nomark _)) (by decide +kernel)) ?_
    refine sd_ifF' (PTd.eq (pt_cmpd op_eq rd_eqS (pd_var 2) pd_str (nomark _)) (by decide +kernel)) ?_
    refine sd_ifF' (PTd.eq (pt_cmpd op_eq rd_eqS (pd_var 2) pd_str (nomark _)) (by decide +kernel)) ?_
    refine sd_ifF' (PTd.eq (pt_cmpd op_eq rd_eqS (pd_var 2) pd_str (nomark _)) (by decide +kernel)) ?_
    refine sd_ifT (PTd.eq (pt_cmpd op_eq rd_eqS (pd_var 2) pd_str (nomark _)) (by decide +kernel)) ?_
    refine sd_dput 0 (PS1.ex (PD.ps1 (PD.eq (pd_min rfl B.min (pd_ixT (pd_var 1) pd_int atI1) (pd_sub (pd_own 0 hu ok_high) pd_int)) (show _ = PyData.int ((min r (t.h - 1) : Nat) : Int) by congr 1; split <;> omega))) ⟨1, ownK t L, rfl, (show (6 : Nat) < 1000 by decide), pd_str, ?_⟩) hu
    refine (show SD _ _ _ _ _ ⟨qs, ownO { t with row := min r (t.h - 1) } L D ++ []⟩ _ from ?_)
    refine sd_dput 0 (PS1.ex (PD.ps1 (PD.eq (pd_min rfl B.min (pd_ixT (pd_var 1) pd_int (atI_nat (j := 2) rfl)) (pd_sub (pd_own 0 hu ok_wide) pd_int)) (show _ = PyData.int ((min c (t.w - 1) : Nat) : Int) by show PyData.int (if (t.w : Int) - 1 < (c : Int) then (t.w : Int) - 1 else (c : Int)) = _; congr 1; split <;> omega))) ⟨1, ownK { t with row := min r (t.h - 1) } L, rfl, (show (6 : Nat) < 1000 by decide), pd_str, ?_⟩) hu
    exact sd_nil (sd_nil (sd_nil (sd_nil (sd_nil (sd_nil ⟨L, rfl, rfl⟩)))))
  | ink n =>
    refine sd_set 2 (d := .str "ink") (pd_ixT (pd_var 1) pd_int atI0) ?_ sc_ldo.nd
    refine sd_ifF' (PTd.eq (pt_cmpd op_eq rd_eqS (pd_var 2) pd_str (nomark _)) (by decide +kernel)) ?_
    refine sd_ifF' (PTd.eq (pt_cmpd op_eq rd_eqS (pd_var 2) pd_str (nomark _)) (by decide +kernel)) ?_
    refine sd_ifF' (PTd.eq (pt_cmpd op_eq rd_eqS (pd_var 2) pd_str (nomark _)) (by decide +kernel)) ?_
    refine sd_ifF' (PTd.eq (pt_cmpd op_eq rd_eqS (pd_var 2) pd_str (nomark _)) (by decide +kernel)) ?_
    refine sd_ifF' (PTd.eq (pt_cmpd op_eq rd_eqS (pd_var 2) pd_str (nomark _)) (by decide +kernel)) ?_
    refine sd_ifT (PTd.eq (pt_cmpd op_eq rd_eqS (pd_var 2) pd_str (nomark _)) (by decide +kernel)) ?_
    refine sd_dput 0 (PS1.ex (PD.ps1 (pd_ixT (pd_var 1) pd_int atI1)) ⟨1, ownK t L, rfl, (show (6 : Nat) < 1000 by decide), pd_str, ?_⟩) hu
    exact sd_nil (sd_nil (sd_nil (sd_nil (sd_nil (sd_nil (sd_nil ⟨L, rfl, rfl⟩))))))
  | roll n =>
    refine sd_set 2 (d := .str "roll") (pd_ixT (pd_var 1) pd_int atI0) ?_ sc_ldo.nd
    refine sd_ifF' (PTd.eq (pt_cmpd op_eq rd_eqS (pd_var 2) pd_str (nomark _)) (by decide +kernel)) ?_
    refine sd_ifF' (PTd.eq (pt_cmpd op_eq rd_eqS (pd_var 2) pd_str (nomark _)) (by decide +kernel)) ?_
    refine sd_ifF' (PTd.eq (pt_cmpd op_eq rd_eqS (pd_var 2) pd_str (nomark _)) (by decide +kernel)) ?_
    refine sd_ifF' (PTd.eq (pt_cmpd op_eq rd_eqS (pd_var 2) pd_str (nomark _)) (by decide +kernel)) ?_
    refine sd_ifF' (PTd.eq (pt_cmpd op_eq rd_eqS (pd_var 2) pd_str (nomark _)) (by decide +kernel)) ?_
    refine sd_ifF' (PTd.eq (pt_cmpd op_eq rd_eqS (pd_var 2) pd_str (nomark _)) (by decide +kernel)) ?_
    refine sd_ifT (PTd.eq (pt_cmpd op_eq rd_eqS (pd_var 2) pd_str (nomark _)) (by decide +kernel)) ?_
    refine sd_exprX (ex_callG (ownO t L D) [] GR hr2 tk (pss1_cons (ps1_var 0) (pss1_cons (PD.ps1 pd_int) (pss1_cons (PD.ps1 (pd_ixT (pd_var 1) pd_int atI1)) pss1_nil))) ⟨t, L, D, 0, n, o, rfl, rfl, Nat.zero_le _, by have := hc.1; omega, by have := hc.2; omega, rfl⟩ ?_)
    rintro r os' ⟨L', rfl, rfl⟩
    exact sd_nil (sd_nil (sd_nil (sd_nil (sd_nil (sd_nil (sd_nil (sd_nil ⟨L', rfl, List.append_nil _⟩)))))))
  | more n =>
    refine sd_set 2 (d := .str "more") (pd_ixT (pd_var 1) pd_int atI0) ?_ sc_ldo.nd
    refine sd_ifF' (PTd.eq (pt_cmpd op_eq rd_eqS (pd_var 2) pd_str (nomark _)) (by decide +kernel)) ?_
    refine sd_ifF' (PTd.eq (pt_cmpd op_eq rd_eqS (pd_var 2) pd_str (nomark _)) (by decide +kernel)) ?_
    refine sd_ifF' (PTd.eq (pt_cmpd op_eq rd_eqS (pd_var 2) pd_str (nomark _)) (by decide +kernel)) ?_
    refine sd_ifF' (PTd.eq (pt_cmpd op_eq rd_eqS (pd_var 2) pd_str (nomark _)) (by decide +kernel)) ?_
    refine sd_ifF' (PTd.eq (pt_cmpd op_eq rd_eqS (pd_var 2) pd_str (nomark _)) (by decide +kernel)) ?_
    refine sd_ifF' (PTd.eq (pt_cmpd op_eq rd_eqS (pd_var 2) pd_str (nomark _)) (by decide +kernel)) ?_
    refine sd_ifF' (PTd.eq (pt_cmpd op_eq rd_eqS (pd_var 2) pd_str (nomark _)) (by decide +kernel)) ?_
    have hn : n ≤ 99 := hc
    refine sd_ifT (PTd.eq (pt_cmpd op_in_seq (rd_inT (ys := ["more", "less"])) (pd_var 2) (pd_tup (pds_cons pd_str (pds_cons pd_str pds_nil))) rfl) (by decide +kernel)) ?_
    refine sd_exprX (ex_callG (ownO t L D) [] GR hr2 tk (pss1_cons (ps1_var 0) (pss1_cons (PD.ps1 (pd_own 0 hu ok_row)) (pss1_cons (PD.ps1 (pd_ixL (d := .int (0 - (n : Int))) (PN.pl (pn_lst (pds_cons (pd_sub pd_int (pd_ixT (pd_var 1) pd_int atI1)) (pds_cons (pd_ixT (pd_var 1) pd_int atI1) pds_nil)))) (PD.eq (pd_intB B.int (pd_cmp op_eq rd_eqS (pd_var 2) pd_str (nomark _))) rfl) atI0)) pss1_nil))) ⟨t, L, D, t.row, _, o, rfl, rfl, by omega, by omega, by omega, rfl⟩ ?_)
    rintro r os' ⟨L', rfl, rfl⟩
    have e : rollAt t.rows t.w t.row (0 - (n : Int)) = pushA t.rows t.row n (blankR t.w) := by
      unfold rollAt
      by_cases h0 : n = 0
      · subst h0
        rw [if_neg (by omega)]
        show pullA t.rows t.row 0 _ = _
        rw [pullA_0, pushA_0]
      · rw [if_pos (by omega), show (-(0 - (n : Int))).toNat = n by omega]
    rw [e]
    exact sd_nil (sd_nil (sd_nil (sd_nil (sd_nil (sd_nil (sd_nil (sd_nil (sd_nil ⟨L', rfl, List.append_nil _⟩))))))))
  | less n =>
    refine sd_set 2 (d := .str "less") (pd_ixT (pd_var 1) pd_int atI0) ?_ sc_ldo.nd
    refine sd_ifF' (PTd.eq (pt_cmpd op_eq rd_eqS (pd_var 2) pd_str (nomark _)) (by decide +kernel)) ?_
    refine sd_ifF' (PTd.eq (pt_cmpd op_eq rd_eqS (pd_var 2) pd_str (nomark _)) (by decide +kernel)) ?_
    refine sd_ifF' (PTd.eq (pt_cmpd op_eq rd_eqS (pd_var 2) pd_str (nomark _)) (by decide +kernel)) ?_
    refine sd_ifF' (PTd.eq (pt_cmpd op_eq rd_eqS (pd_var 2) pd_str (nomark _)) (by decide +kernel)) ?_
    refine sd_ifF' (PTd.eq (pt_cmpd op_eq rd_eqS (pd_var 2) pd_str (nomark _)) (by decide +kernel)) ?_
    refine sd_ifF' (PTd.eq (pt_cmpd op_eq rd_eqS (pd_var 2) pd_str (nomark _)) (by decide +kernel)) ?_
    refine sd_ifF' (PTd.eq (pt_cmpd op_eq rd_eqS (pd_var 2) pd_str (nomark _)) (by decide +kernel)) ?_
    have hn : n ≤ 99 := hc
    refine sd_ifT (PTd.eq (pt_cmpd op_in_seq (rd_inT (ys := ["more", "less"])) (pd_var 2) (pd_tup (pds_cons pd_str (pds_cons pd_str pds_nil))) rfl) (by decide +kernel)) ?_
    refine sd_exprX (ex_callG (ownO t L D) [] GR hr2 tk (pss1_cons (ps1_var 0) (pss1_cons (PD.ps1 (pd_own 0 hu ok_row)) (pss1_cons (PD.ps1 (pd_ixL (d := .int ((n : Int))) (PN.pl (pn_lst (pds_cons (pd_sub pd_int (pd_ixT (pd_var 1) pd_int atI1)) (pds_cons (pd_ixT (pd_var 1) pd_int atI1) pds_nil)))) (PD.eq (pd_intB B.int (pd_cmp op_eq rd_eqS (pd_var 2) pd_str (nomark _))) rfl) atI1)) pss1_nil))) ⟨t, L, D, t.row, _, o, rfl, rfl, by omega, by omega, by omega, rfl⟩ ?_)
    rintro r os' ⟨L', rfl, rfl⟩
    have e : rollAt t.rows t.w t.row (n : Int) = pullA t.rows t.row n (blankR t.w) := by
      unfold rollAt
      rw [if_neg (by omega), Int.toNat_natCast]
    rw [e]
    exact sd_nil (sd_nil (sd_nil (sd_nil (sd_nil (sd_nil (sd_nil (sd_nil (sd_nil ⟨L', rfl, List.append_nil _⟩))))))))
  | wipe k =>
    refine sd_set 2 (d := .str "wipe") (pd_ixT (pd_var 1) pd_int atI0) ?_ sc_ldo.nd
    refine sd_ifF' (PTd.eq (pt_cmpd op_eq rd_eqS (pd_var 2) pd_str (nomark _)) (by decide +kernel)) ?_
    refine sd_ifF' (PTd.eq (pt_cmpd op_eq rd_eqS (pd_var 2) pd_str (nomark _)) (by decide +kernel)) ?_
    refine sd_ifF' (PTd.eq (pt_cmpd op_eq rd_eqS (pd_var 2) pd_str (nomark _)) (by decide +kernel)) ?_
    refine sd_ifF' (PTd.eq (pt_cmpd op_eq rd_eqS (pd_var 2) pd_str (nomark _)) (by decide +kernel)) ?_
    refine sd_ifF' (PTd.eq (pt_cmpd op_eq rd_eqS (pd_var 2) pd_str (nomark _)) (by decide +kernel)) ?_
    refine sd_ifF' (PTd.eq (pt_cmpd op_eq rd_eqS (pd_var 2) pd_str (nomark _)) (by decide +kernel)) ?_
    refine sd_ifF' (PTd.eq (pt_cmpd op_eq rd_eqS (pd_var 2) pd_str (nomark _)) (by decide +kernel)) ?_
    have shA : SeqAt.shaped (.tuple [.str "wipe", .str "all"]) = true := Shp.ok (n := 1) (Shp.tup fun x hx => by
      simp only [List.mem_cons, List.not_mem_nil, or_false] at hx
      rcases hx with rfl | rfl <;> exact .str (by decide +kernel))
    have shk : SeqAt.shaped (Dd.d (.wipe k)) = true := Shp.ok (n := 1) (Shp.tup fun x hx => by
      simp only [List.mem_cons, List.not_mem_nil, or_false] at hx
      rcases hx with rfl | rfl
      · exact .str (by decide +kernel)
      · exact .str (by cases k <;> decide +kernel))
    refine sd_ifF' (PTd.eq (pt_cmpd op_in_seq (rd_inT (ys := ["more", "less"])) (pd_var 2) (pd_tup (pds_cons pd_str (pds_cons pd_str pds_nil))) rfl) (by decide +kernel)) ?_
    cases k with
    | all =>
      refine sd_ifT (PTd.eq (pt_cmpd (op_eqD hr.units) (rd_eqD shk shA) (pd_var 1) (pd_tup (pds_cons pd_str (pds_cons pd_str pds_nil))) (nomark _)) (by decide +kernel)) ?_
      refine sd_dput (z := "cells") 0 (ex_callG [] (ownO t L D ++ []) GBG hr1 tk (pss1_cons (PD.ps1 (pd_lenL B.len (pl_own 0 hu))) pss1_nil) ⟨t.rows.flatten.length, rfl, rfl, by omega, rfl⟩ ?_) hu
      rintro r os' ⟨L', rfl, rfl⟩
      refine ⟨2, ownK t L, rfl, (show (6 : Nat) < 1000 by decide), pd_str, ?_⟩
      refine sd_drop 1 (sd_nil (sd_nil (sd_nil (sd_nil (sd_nil (sd_nil (sd_nil (sd_nil (sd_nil (sd_nil ⟨L', rfl, ?_⟩))))))))))
      have e : (t.go (.wipe .all)).rows.flatten = List.replicate t.rows.flatten.length blankC := by
        show (List.replicate t.h (List.replicate t.w blankC)).flatten = _
        rw [flat_rep, flen o]
      show ([(L', Od.lst _), (D, Od.dct _)] : Os) = [(L', Od.lst ((t.go (.wipe .all)).rows.flatten.map Sd.im)), (D, Od.dct (ownK (t.go (.wipe .all)) L'))]
      rw [e]
      rfl
    | row =>
      refine sd_ifF' (PTd.eq (pt_cmpd (op_eqD hr.units) (rd_eqD shk shA) (pd_var 1) (pd_tup (pds_cons pd_str (pds_cons pd_str pds_nil))) (nomark _)) (by decide +kernel)) ?_
      refine sd_exprX (ex_callG (ownO t L D) [] GC hr2 tk (pss1_cons (ps1_var 0) (pss1_cons (PD.ps1 (pd_var 2)) (pss1_cons (PD.ps1 (pd_ixT (pd_var 1) pd_int atI1)) pss1_nil))) ⟨t, L, D, .wipe .row, "wipe", _, o, hc, rfl, .inl rfl, rfl, rfl, rfl⟩ ?_)
      rintro r os' ⟨L', rfl, rfl⟩
      exact sd_nil (sd_nil (sd_nil (sd_nil (sd_nil (sd_nil (sd_nil (sd_nil (sd_nil (sd_nil ⟨L', rfl, List.append_nil _⟩)))))))))
    | rest =>
      refine sd_ifF' (PTd.eq (pt_cmpd (op_eqD hr.units) (rd_eqD shk shA) (pd_var 1) (pd_tup (pds_cons pd_str (pds_cons pd_str pds_nil))) (nomark _)) (by decide +kernel)) ?_
      refine sd_exprX (ex_callG (ownO t L D) [] GC hr2 tk (pss1_cons (ps1_var 0) (pss1_cons (PD.ps1 (pd_var 2)) (pss1_cons (PD.ps1 (pd_ixT (pd_var 1) pd_int atI1)) pss1_nil))) ⟨t, L, D, .wipe .rest, "wipe", _, o, hc, rfl, .inr (.inl rfl), rfl, rfl, rfl⟩ ?_)
      rintro r os' ⟨L', rfl, rfl⟩
      exact sd_nil (sd_nil (sd_nil (sd_nil (sd_nil (sd_nil (sd_nil (sd_nil (sd_nil (sd_nil ⟨L', rfl, List.append_nil _⟩)))))))))
  | opn n =>
    refine sd_set 2 (d := .str "open") (pd_ixT (pd_var 1) pd_int atI0) ?_ sc_ldo.nd
    refine sd_ifF' (PTd.eq (pt_cmpd op_eq rd_eqS (pd_var 2) pd_str (nomark _)) (by decide +kernel)) ?_
    refine sd_ifF' (PTd.eq (pt_cmpd op_eq rd_eqS (pd_var 2) pd_str (nomark _)) (by decide +kernel)) ?_
    refine sd_ifF' (PTd.eq (pt_cmpd op_eq rd_eqS (pd_var 2) pd_str (nomark _)) (by decide +kernel)) ?_
    refine sd_ifF' (PTd.eq (pt_cmpd op_eq rd_eqS (pd_var 2) pd_str (nomark _)) (by decide +kernel)) ?_
    refine sd_ifF' (PTd.eq (pt_cmpd op_eq rd_eqS (pd_var 2) pd_str (nomark _)) (by decide +kernel)) ?_
    refine sd_ifF' (PTd.eq (pt_cmpd op_eq rd_eqS (pd_var 2) pd_str (nomark _)) (by decide +kernel)) ?_
    refine sd_ifF' (PTd.eq (pt_cmpd op_eq rd_eqS (pd_var 2) pd_str (nomark _)) (by decide +kernel)) ?_
    have shA : SeqAt.shaped (.tuple [.str "wipe", .str "all"]) = true := Shp.ok (n := 1) (Shp.tup fun x hx => by
      simp only [List.mem_cons, List.not_mem_nil, or_false] at hx
      rcases hx with rfl | rfl <;> exact .str (by decide +kernel))
    have shk : SeqAt.shaped (.tuple [.str "open", .int (n : Int)]) = true := Shp.ok (n := 1) (Shp.tup fun x hx => by
      simp only [List.mem_cons, List.not_mem_nil, or_false] at hx
      rcases hx with rfl | rfl
      · exact .str (by decide +kernel)
      · exact .int _)
    refine sd_ifF' (PTd.eq (pt_cmpd op_in_seq (rd_inT (ys := ["more", "less"])) (pd_var 2) (pd_tup (pds_cons pd_str (pds_cons pd_str pds_nil))) rfl) (by decide +kernel)) ?_
    refine sd_ifF' (PTd.eq (pt_cmpd (op_eqD hr.units) (rd_eqD shk shA) (pd_var 1) (pd_tup (pds_cons pd_str (pds_cons pd_str pds_nil))) (nomark _)) rfl) ?_
    refine sd_exprX (ex_callG (ownO t L D) [] GC hr2 tk (pss1_cons (ps1_var 0) (pss1_cons (PD.ps1 (pd_var 2)) (pss1_cons (PD.ps1 (pd_ixT (pd_var 1) pd_int atI1)) pss1_nil))) ⟨t, L, D, .opn n, "open", _, o, hc, rfl, .inr (.inr (.inl ⟨n, rfl⟩)), rfl, rfl, rfl⟩ ?_)
    rintro r os' ⟨L', rfl, rfl⟩
    exact sd_nil (sd_nil (sd_nil (sd_nil (sd_nil (sd_nil (sd_nil (sd_nil (sd_nil (sd_nil ⟨L', rfl, List.append_nil _⟩)))))))))
  | cut n =>
    refine sd_set 2 (d := .str "cut") (pd_ixT (pd_var 1) pd_int atI0) ?_ sc_ldo.nd
    refine sd_ifF' (PTd.eq (pt_cmpd op_eq rd_eqS (pd_var 2) pd_str (nomark _)) (by decide +kernel)) ?_
    refine sd_ifF' (PTd.eq (pt_cmpd op_eq rd_eqS (pd_var 2) pd_str (nomark _)) (by decide +kernel)) ?_
    refine sd_ifF' (PTd.eq (pt_cmpd op_eq rd_eqS (pd_var 2) pd_str (nomark _)) (by decide +kernel)) ?_
    refine sd_ifF' (PTd.eq (pt_cmpd op_eq rd_eqS (pd_var 2) pd_str (nomark _)) (by decide +kernel)) ?_
    refine sd_ifF' (PTd.eq (pt_cmpd op_eq rd_eqS (pd_var 2) pd_str (nomark _)) (by decide +kernel)) ?_
    refine sd_ifF' (PTd.eq (pt_cmpd op_eq rd_eqS (pd_var 2) pd_str (nomark _)) (by decide +kernel)) ?_
    refine sd_ifF' (PTd.eq (pt_cmpd op_eq rd_eqS (pd_var 2) pd_str (nomark _)) (by decide +kernel)) ?_
    have shA : SeqAt.shaped (.tuple [.str "wipe", .str "all"]) = true := Shp.ok (n := 1) (Shp.tup fun x hx => by
      simp only [List.mem_cons, List.not_mem_nil, or_false] at hx
      rcases hx with rfl | rfl <;> exact .str (by decide +kernel))
    have shk : SeqAt.shaped (.tuple [.str "cut", .int (n : Int)]) = true := Shp.ok (n := 1) (Shp.tup fun x hx => by
      simp only [List.mem_cons, List.not_mem_nil, or_false] at hx
      rcases hx with rfl | rfl
      · exact .str (by decide +kernel)
      · exact .int _)
    refine sd_ifF' (PTd.eq (pt_cmpd op_in_seq (rd_inT (ys := ["more", "less"])) (pd_var 2) (pd_tup (pds_cons pd_str (pds_cons pd_str pds_nil))) rfl) (by decide +kernel)) ?_
    refine sd_ifF' (PTd.eq (pt_cmpd (op_eqD hr.units) (rd_eqD shk shA) (pd_var 1) (pd_tup (pds_cons pd_str (pds_cons pd_str pds_nil))) (nomark _)) rfl) ?_
    refine sd_exprX (ex_callG (ownO t L D) [] GC hr2 tk (pss1_cons (ps1_var 0) (pss1_cons (PD.ps1 (pd_var 2)) (pss1_cons (PD.ps1 (pd_ixT (pd_var 1) pd_int atI1)) pss1_nil))) ⟨t, L, D, .cut n, "cut", _, o, hc, rfl, .inr (.inr (.inr ⟨n, rfl⟩)), rfl, rfl, rfl⟩ ?_)
    rintro r os' ⟨L', rfl, rfl⟩
    exact sd_nil (sd_nil (sd_nil (sd_nil (sd_nil (sd_nil (sd_nil (sd_nil (sd_nil (sd_nil ⟨L', rfl, List.append_nil _⟩)))))))))
/-! ### its face -/
def faceD (s : Pn) : PyData := .tuple [.tuple (s.rows.map .tuple), .int (s.row : Int), .int (s.place : Int)]
def frLFo : FrG := fun os as R => ∃ (s : Pn) (L D : Addr), s.Ok ∧ os = ownO s L D ∧ as = [.ad D] ∧ R = fun r os' => r = .ok (.im (faceD s)) ∧ os' = ownO s L D
abbrev NFo : List Str := ["_law_pen_here", "_law_wide", "_law_rows", "_law_j"]
theorem sc_lfo : FnScope NFo ["_law_pen_here"] (defScope s__law_face_of) := ⟨rfl, rfl, rfl, by decide +kernel, rfl, by decide +kernel, by decide +kernel⟩
theorem ok_lfo (F : Df K "_law_face_of" s__law_face_of f fd) (hm : mg "_law_face_of" = some (.ref f)) (B : Bl mg) : GOk P w K mg base 1 "_law_face_of" frLFo := by
  refine g_ok F hm sc_lfo (fun _ _ _ _ _ _ us hl => match us, hl with | [_], _ => rfl) (fun os as R h => by obtain ⟨_, _, _, _, _, rfl, _⟩ := h; rfl) (fun cdv A outer s H E qs os as R hr h => ?_)
  obtain ⟨t, L, D, o, rfl, rfl, rfl⟩ := h
  have hu : (A.deeper (envOfC "_law_face_of" (defScope s__law_face_of) s.heap.objs.size f cdv)).units + 1 < cLine := by have := hr.units; omega
  have w20 := o.w20
  have w1 := o.w1
  have h10 := o.h10
  have hf := flen o
  have hlen := o.len
  refine (show SD _ _ _ _ _ ⟨qs, ownO t L D ++ []⟩ _ from ?_)
  refine sd_set 1 (pd_own 0 hu ok_wide) ?_ sc_lfo.nd
  refine sd_setLc 2 (y := "_law_j") (j := 3) (items := rangeD 0 ((t.h : Nat) : Int).toNat) (ys := t.rows.map .tuple) rfl sc_lfo.nd (PWk.ws (wk_range1 B.range (pd_own 0 hu ok_high) (by omega))) (by rw [List.length_map, rangeD_nat, hlen])
    (blkOk_by (N := NFo) (sc := defScope s__law_face_of) (by decide +kernel)) (fun _ _ _ _ _ => pg_name sc_lfo.nd rfl (Or.inl rfl)) ?_ (by rw [rangeD_nat]; omega) (sw_true rfl rfl rfl (by decide +kernel)) ?_
  · intro j d y hd hy D2 o2 s2 H2 C2 cl fp
    obtain ⟨hj, rfl⟩ := rangeD_at hd
    rw [List.getElem?_map, List.getElem?_eq_getElem (by omega)] at hy
    cases hy
    have hjw : (j + 1) * t.w ≤ t.h * t.w := Nat.mul_le_mul_right _ (by omega)
    have e1 : (j + 1) * t.w = j * t.w + t.w := by rw [Nat.add_mul]; omega
    have cm : CMul (j : Int) (t.w : Int) := cmul_small (by omega)
    have cm2 : CMul ((j : Int) + 1) (t.w : Int) := cmul_small (by omega)
    refine PD.eq (pd_tupleL B.tuple (PN.pl (pn_slL (i := some ((j * t.w : Nat) : Int)) (j := some (((j + 1) * t.w : Nat) : Int)) (pl_ownM (s := t) (L := L) (D := D) 0 hu (by simp [omD, ownO]) (by simp [omD, ownO])) ⟨_, rfl, PD.eq (pd_mulS cm (pd_var 3) (pd_var 1)) (by rw [Int.natCast_mul])⟩ ⟨_, rfl, PD.eq (pd_mulS cm2 (pd_add (pd_var 3) pd_int) (pd_var 1)) (by rw [Int.natCast_mul]; rfl)⟩))) ?_
    rw [cut_mid _ (by omega) (by omega), e1, show j * t.w + t.w - j * t.w = t.w by omega, ← flat_drop j (wid_of o), List.drop_eq_getElem_cons (by omega), List.flatten_cons]
    have hw := (o.wid _ (List.getElem_mem (show j < t.rows.length by omega))).1
    rw [List.take_append, hw, Nat.sub_self, List.take_zero, List.append_nil, List.take_of_length_le (by omega)]
  · refine sd_ret (PD.eq (pd_tup (pds_cons (pd_tupleL B.tuple (PD.pl (pd_var 2))) (pds_cons (pd_own 0 hu ok_row) (pds_cons (pd_min rfl B.min (pd_own 0 hu ok_col) (pd_sub (pd_var 1) pd_int)) pds_nil)))) (show _ = faceD t from ?_)) ⟨rfl, List.append_nil _⟩
    show PyData.tuple [_, _, .int (if (t.w : Int) - 1 < (t.col : Int) then (t.w : Int) - 1 else (t.col : Int))] = PyData.tuple [_, _, .int ((min t.col (t.w - 1) : Nat) : Int)]
    have e : (if (t.w : Int) - 1 < (t.col : Int) then (t.w : Int) - 1 else (t.col : Int)) = ((min t.col (t.w - 1) : Nat) : Int) := by split <;> omega
    rw [e]
end
end K21

namespace K21
open PySem PySem.Spec PyProof.Rows L2 FP
theorem rd_neS {K : PySem.W.Frag} {n : Nat} {d e : PyData} (h : Shp n d) (he : d = e) (hn : n ≤ 64 := by decide) : RD K (rNeD K) d e (.bool false) := by
  subst he
  have := rd_neD (K := K) (h.ok hn) (h.ok hn)
  rw [h.refl] at this
  exact this
/-! ### a pen's face -/
theorem faceD_fc {s : Pn} (o : s.Ok) : Fc s.h s.w (faceD s) (s.rows.map .tuple) s.row s.place :=
  ⟨rfl, by rw [List.length_map]; exact o.len, fun x hx => by
    obtain ⟨r, hr, rfl⟩ := List.mem_map.mp hx
    exact ⟨r, rfl, (o.wid r hr).1, (o.wid r hr).2⟩, o.hr, o.place, o.h10, o.w20⟩
theorem face_call {s : Pn} (o : s.Ok) : frFaceM (pF s) [] (faceD s) := ⟨_, _, _, _, _, _, rfl, rfl, by rw [place_pn o]; rfl⟩
theorem deeds_okD {kn : Str → Prop} (hk : ∀ z ∈ deedW, kn z) {Ds : List Dd} (h : ∀ D ∈ Ds, D.Ok) : okDs kn (.list (Ds.map Dd.d)) := by
  intro xs e x hx
  cases e
  obtain ⟨D, hD, rfl⟩ := List.mem_map.mp hx
  exact Dd.okD hk (h D hD)
theorem write_call {kn : Str → Prop} {CD : Addr} (hk : ∀ z ∈ deedW, kn z) {s t : Pn} (o : s.Ok) {Ds : List Dd} (h : ∀ D ∈ Ds, D.Ok) (e : s.all Ds = t) : frWrite kn CD (pF s) [.list (Ds.map Dd.d)] (.ok .none) (pF t) :=
  e ▸ ⟨s, _, o, rfl, rfl, deeds_okD hk h, .inl ⟨Ds, h, rfl, rfl, rfl⟩⟩
def forBodyS : List Stmt → List Stmt
  | .For _ _ b _ _ :: _ => b
  | _ :: r => forBodyS r
  | _ => []
def headS : List Stmt → Stmt
  | s :: _ => s
  | [] => .Pass ⟨0, 0, 0, 0⟩
def ifElse : Stmt → List Stmt
  | .If _ _ b _ => b
  | _ => []
/-! ### texts cut in two -/
def cutAt (z : Str) (m : Int) : Nat := 1 + (m % ((z.length : Int) - 1)).toNat
def cutT (c : Dd) (m : Int) : List Dd := match c with
  | .say z => if 1 < z.length then [.say ⟨(z.cps.toList.take (cutAt z m)).toArray⟩, .say ⟨(z.cps.toList.drop (cutAt z m)).toArray⟩] else [.say z]
  | c => [c]
theorem cutAt_b {z : Str} {m : Int} (h : 1 < z.length) : 1 ≤ cutAt z m ∧ cutAt z m < z.length ∧ (cutAt z m : Int) = 1 + m % ((z.length : Int) - 1) := by
  unfold cutAt
  have h1 := Int.emod_nonneg m (show ((z.length : Int) - 1) ≠ 0 by omega)
  have h2 := Int.emod_lt_of_pos m (show (0 : Int) < (z.length : Int) - 1 by omega)
  omega
theorem zl (z : Str) : z.cps.toList.length = z.length := by
  show z.cps.toList.length = z.cps.size
  simp
theorem cutT_ok {c : Dd} (m : Int) (h : c.Ok) : ∀ D ∈ cutT c m, D.Ok := by
  have one : ∀ D ∈ [c], D.Ok := fun D hD => by
    rw [List.mem_singleton.mp hD]
    exact h
  cases c with
  | say z =>
    show ∀ D ∈ (if 1 < z.length then _ else [Dd.say z]), D.Ok
    split
    · rename_i hz
      obtain ⟨b1, b2, b3⟩ := cutAt_b (m := m) hz
      have lz := zl z
      have s1 : ((z.cps.toList.take (cutAt z m)).toArray).size = cutAt z m := by rw [List.size_toArray, List.length_take, lz]; omega
      have s2 : ((z.cps.toList.drop (cutAt z m)).toArray).size = z.length - cutAt z m := by rw [List.size_toArray, List.length_drop, lz]
      intro D hD
      simp only [List.mem_cons, List.not_mem_nil, or_false] at hD
      rcases hD with rfl | rfl
      · refine ⟨show 1 ≤ ((z.cps.toList.take (cutAt z m)).toArray).size by rw [s1]; omega, show ((z.cps.toList.take (cutAt z m)).toArray).size ≤ 200 by have := h.2.1; rw [s1]; omega, fun x hx => h.2.2 x (List.mem_of_mem_take (by simpa using hx))⟩
      · refine ⟨show 1 ≤ ((z.cps.toList.drop (cutAt z m)).toArray).size by rw [s2]; omega, show ((z.cps.toList.drop (cutAt z m)).toArray).size ≤ 200 by have := h.2.1; rw [s2]; omega, fun x hx => h.2.2 x (List.mem_of_mem_drop (by simpa using hx))⟩
    · exact one
  | _ => exact one
theorem cutT_all (c : Dd) (m : Int) (s : Pn) : s.all (cutT c m) = s.go c := by
  cases c with
  | say z =>
    show s.all (if 1 < z.length then _ else [Dd.say z]) = _
    split
    · show ((z.cps.toList.drop (cutAt z m)).toArray.toList).foldl Pn.say (((z.cps.toList.take (cutAt z m)).toArray.toList).foldl Pn.say s) = z.cps.toList.foldl Pn.say s
      rw [← List.foldl_append]
      simp
    · rfl
  | _ => rfl
section
variable {P : Program} {w : World} {K : PySem.W.Frag} {mg : Str → Option Value} {base : Heap} {f C CF CD CS : Addr} {fd : FuncData} {kn : Str → Prop}
def frLCt : List PyData → Rs → Prop := fun ds r => ∃ (c : Dd) (m : Int), c.Ok ∧ ds = [.list [c.d], .int m] ∧ r = .ok (.list ((cutT c m).map Dd.d))
abbrev NCt : List Str := ["_law_deeds_here", "_law_more", "_law_found", "_law_deed_here", "_law_at"]
theorem sc_lct : FnScope NCt ["_law_deeds_here", "_law_more"] (defScope s__law_cut_texts) := ⟨rfl, rfl, rfl, by decide +kernel, rfl, by decide +kernel, by decide +kernel⟩
theorem cutS_to (z : Str) (n : Nat) : cutS z none (some (n : Int)) = ⟨(z.cps.toList.take n).toArray⟩ := by
  unfold cutS
  rw [HT.sIx_nat, HT.sIx_none, List.drop_zero, Nat.sub_zero]
  congr 2
  by_cases h : n ≤ z.length
  · rw [Nat.min_eq_left h]
  · rw [Nat.min_eq_right (by omega), List.take_of_length_le (by rw [zl]; omega), List.take_of_length_le (by rw [zl]; omega)]
theorem cutS_from (z : Str) (n : Nat) : cutS z (some (n : Int)) none = ⟨(z.cps.toList.drop n).toArray⟩ := by
  unfold cutS
  rw [HT.sIx_nat, HT.sIx_none]
  congr 1
  by_cases h : n ≤ z.length
  · rw [Nat.min_eq_left h, List.take_of_length_le (by rw [List.length_drop, zl]; omega)]
  · rw [Nat.min_eq_right (by omega), Nat.sub_self, List.take_zero, List.drop_eq_nil_of_le (by rw [zl]; omega)]
theorem ok_lct (F : Df K "_law_cut_texts" s__law_cut_texts f fd) (hm : mg "_law_cut_texts" = some (.ref f)) (B : Bl mg) : DefOk P w K mg base 1 "_law_cut_texts" frLCt := by
  refine def_ok F hm sc_lct (fun _ _ _ _ _ _ us hl => match us, hl with | [_, _], _ => rfl) (fun ds r h => by obtain ⟨_, _, _, rfl, _⟩ := h; rfl) (fun cdv A outer s H E qs ds r hr h => ?_)
  obtain ⟨c, m, hc, rfl, rfl⟩ := h
  refine sd_ownP 2 (pn_lst pds_nil) (fun D0 hD0 => ?_) sc_lct.nd
  refine sd_for 3 (items := [c.d]) (fun i δ' ω' => ∃ D os, D ∉ qs ∧ ω' = ⟨qs, (D, .lst ((if i = 0 then [] else (cutT c m).map Dd.d).map .im)) :: os⟩ ∧ ∃ y3 y4, δ' = [some (.im (.list [c.d])), some (.im (.int m)), some (.ad D), y3, y4]) (wk_lst (pd_var 0)) ⟨D0, [], hD0, rfl, _, _, rfl⟩ ?_ ?_ (pg_name sc_lct.nd rfl (Or.inl rfl)) (passes_of rfl) rfl
  · rintro i d δ' ω' hd ⟨D, os, hD, rfl, y3, y4, rfl⟩
    have hi : i = 0 := by
      have := (List.getElem?_eq_some_iff.mp hd).1
      simpa using this
    subst hi
    cases hd
    rw [if_pos rfl]
    have other : ∀ (hne : cutT c m = [c]), SD (cxOf (L2N.CX P w) P w K mg base NCt "_law_cut_texts" (defScope s__law_cut_texts) f cdv A outer s H E) (WOf E) [] (ifElse (headS (forBodyS (defBody s__law_cut_texts)))) [some (.im (.list [c.d])), some (.im (.int m)), some (.ad D), some (.im c.d), y4] ⟨qs, (D, .lst (([] : List PyData).map .im)) :: os⟩ (Nxt (cxOf (L2N.CX P w) P w K mg base NCt "_law_cut_texts" (defScope s__law_cut_texts) f cdv A outer s H E) (WOf E) [] [] (Turn1 (fun i δ' ω' => ∃ D os, D ∉ qs ∧ ω' = ⟨qs, (D, .lst ((if i = 0 then [] else (cutT c m).map Dd.d).map .im)) :: os⟩ ∧ ∃ y3 y4, δ' = [some (.im (.list [c.d])), some (.im (.int m)), some (.ad D), y3, y4]) 0 (Nxt (cxOf (L2N.CX P w) P w K mg base NCt "_law_cut_texts" (defScope s__law_cut_texts) f cdv A outer s H E) (WOf E) [] ((defBody s__law_cut_texts).drop 2) (Fin (.ok (.list ((cutT c m).map Dd.d))))) (Fin (.ok (.list ((cutT c m).map Dd.d)))))) := by
      intro hne
      refine sd_app (ω := ⟨qs, os⟩) (xs := []) 2 (pd_var 3) (sd_nil (sd_nil ⟨D, os, hD, ?_, _, _, rfl⟩)) (by simp)
      rw [if_neg (by omega), hne]
      rfl
    have noS : ∀ (z : Str) (xs : List PyData), c.d = .tuple (.str z :: xs) → decide (z = "say") = false → cutT c m = [c] → SD (cxOf (L2N.CX P w) P w K mg base NCt "_law_cut_texts" (defScope s__law_cut_texts) f cdv A outer s H E) (WOf E) [] (forBodyS (defBody s__law_cut_texts)) [some (.im (.list [c.d])), some (.im (.int m)), some (.ad D), some (.im c.d), y4] ⟨qs, (D, .lst (([] : List PyData).map .im)) :: os⟩ (Turn1 (fun i δ' ω' => ∃ D os, D ∉ qs ∧ ω' = ⟨qs, (D, .lst ((if i = 0 then [] else (cutT c m).map Dd.d).map .im)) :: os⟩ ∧ ∃ y3 y4, δ' = [some (.im (.list [c.d])), some (.im (.int m)), some (.ad D), y3, y4]) 0 (Nxt (cxOf (L2N.CX P w) P w K mg base NCt "_law_cut_texts" (defScope s__law_cut_texts) f cdv A outer s H E) (WOf E) [] ((defBody s__law_cut_texts).drop 2) (Fin (.ok (.list ((cutT c m).map Dd.d))))) (Fin (.ok (.list ((cutT c m).map Dd.d))))) := by
      intro z xs e1 e2 e3
      refine sd_ifF' (PWd.pt (pw_andF (PTd.eq (pt_cmpd op_eq rd_eqS (pd_ixT (d := .str z) (PD.eq (pd_var 3) e1) pd_int atI0) pd_str (nomark _)) e2))) (other e3)
    cases c with
    | say z =>
      have hz := hc.2.1
      by_cases h1 : 1 < z.length
      · obtain ⟨b1, b2, b3⟩ := cutAt_b (m := m) h1
        have pz : (0 : Int) < (z.length : Int) - 1 := by omega
        refine sd_ifT (PWd.pt (PWd.eq (pw_andd (pt_cmpd op_eq rd_eqS (pd_ixT (d := .str "say") (pd_var 3) pd_int atI0) pd_str (nomark _)) (fun _ => pw_and1d (pt_cmpd op_gt rd_B0 (pd_lenS B.len (pd_ixT (d := .str z) (pd_var 3) pd_int atI1) (by omega)) pd_int (nomark _)))) (by rw [decide_eq_true (show (1 : Int) < (z.length : Int) by omega)]; rfl))) ?_
        refine sd_set 4 (d := .int (cutAt z m : Int)) (PD.eq (pd_add pd_int (pd_mod pz (pd_var 1) (pd_sub (pd_lenS B.len (pd_ixT (d := .str z) (pd_var 3) pd_int atI1) (by omega)) pd_int))) (by rw [b3])) ?_ sc_lct.nd
        refine sd_ownP 2 (ds := (cutT (.say z) m).map Dd.d) (PN.eq (pn_catL (ds := []) (pl_var 2 List.mem_cons_self) (PN.pl (pn_lst (pds_cons (pd_tup (pds_cons pd_str (pds_cons (PD.eq (pd_slS (i := none) (j := some _) (pd_ixT (d := .str z) (pd_var 3) pd_int atI1) rfl ⟨_, rfl, pd_var 4⟩ (by omega)) (by rw [cutS_to])) pds_nil))) (pds_cons (pd_tup (pds_cons pd_str (pds_cons (PD.eq (pd_slS (i := some _) (j := none) (pd_ixT (d := .str z) (pd_var 3) pd_int atI1) ⟨_, rfl, pd_var 4⟩ rfl (by omega)) (by rw [cutS_from])) pds_nil))) pds_nil)))) (by simp)) ?_) (fun D1 hD1 => sd_nil (sd_nil ⟨D1, (D, .lst (([] : List PyData).map .im)) :: os, hD1, by rw [if_neg (by omega)]; rfl, _, _, rfl⟩)) sc_lct.nd
        · show _ = (if 1 < z.length then _ else [Dd.say z]).map Dd.d
          rw [if_pos h1]
          rfl
      · refine sd_ifF' (PWd.pt (PWd.eq (pw_andd (pt_cmpd op_eq rd_eqS (pd_ixT (d := .str "say") (pd_var 3) pd_int atI0) pd_str (nomark _)) (fun _ => pw_and1d (pt_cmpd op_gt rd_B0 (pd_lenS B.len (pd_ixT (d := .str z) (pd_var 3) pd_int atI1) (by omega)) pd_int (nomark _)))) (by rw [decide_eq_false (show ¬ (1 : Int) < (z.length : Int) by omega), Bool.and_false]))) (other ?_)
        show (if 1 < z.length then _ else [Dd.say z]) = _
        rw [if_neg h1]
    | line => exact noS "line" _ rfl (by decide +kernel) rfl
    | home => exact noS "home" _ rfl (by decide +kernel) rfl
    | back => exact noS "back" _ rfl (by decide +kernel) rfl
    | go r q => exact noS "go" _ rfl (by decide +kernel) rfl
    | ink n => exact noS "ink" _ rfl (by decide +kernel) rfl
    | wipe k => exact noS "wipe" _ rfl (by decide +kernel) rfl
    | roll n => exact noS "roll" _ rfl (by decide +kernel) rfl
    | opn n => exact noS "open" _ rfl (by decide +kernel) rfl
    | cut n => exact noS "cut" _ rfl (by decide +kernel) rfl
    | more n => exact noS "more" _ rfl (by decide +kernel) rfl
    | less n => exact noS "less" _ rfl (by decide +kernel) rfl
  · rintro δ' ω' ⟨D, os, hD, rfl, y3, y4, rfl⟩
    rw [if_neg (by simp)]
    exact sd_retP 2 List.mem_cons_self hD rfl
end
end K21

namespace K21
open PySem PySem.Spec PyProof.Rows L2 FP
section
variable {P : Program} {w : World} {K : PySem.W.Frag} {mg : Str → Option Value} {base : Heap} {f C CF CD CS : Addr} {fd : FuncData} {kn : Str → Prop}
structure Defs (P : Program) (w : World) (K : PySem.W.Frag) (mg : Str → Option Value) (base : Heap) (C CD : Addr) (kn : Str → Prop) : Prop where
  B : Bl mg
  li : mg "list" = none
  cell : DefOk P w K mg base 1 "_law_cell" frLCell
  drawn : DefOk P w K mg base 1 "_law_drawn" frDrawn
  size : DefOk P w K mg base 1 "_law_size" frLSize
  deeds : DefOk P w K mg base 3 "_law_deeds" frLDeeds
  cutt : DefOk P w K mg base 1 "_law_cut_texts" frLCt
  own : GOk P w K mg base 1 "_law_pen" frLPen
  ldo : GOk P w K mg base 5 "_law_do" frLDo
  fo : GOk P w K mg base 1 "_law_face_of" frLFo
  mkp : ∃ g fd ps, Mk K C g ∧ FnOk P w K mg base (L2N.CX P w) 5 g fd ps (spW K C frInit) ∧ L2.Binds K fd ps []
  pen : mg "Pen" = some (.ref C)
  write : WrOk P w K mg base 7 C "write" (frWrite kn CD)
  faceM : RdOk P w K mg base 2 C "face" frFaceM
  PC : PenC K C
  kn : ∀ z ∈ deedW, kn z
abbrev NL : List Str := ["_law_script", "_law_k", "_law_more", "_law_height", "_law_width", "_law_deeds_here", "_law_whole", "_law_one", "_law_many", "_law_own", "_law_at", "_law_deed_here", "_law_part"]
theorem sc_law : FnScope NL ["_law_script"] (defScope s_law) := ⟨rfl, rfl, rfl, by decide +kernel, rfl, by decide +kernel, by decide +kernel⟩
def forBody : List Stmt → List Stmt
  | .For _ _ b _ _ :: _ => b
  | _ => []
abbrev XL (P : Program) (w : World) (K : PySem.W.Frag) (mg : Str → Option Value) (base : Heap) (f : Addr) (cdv : Value) (A : Around) (outer : List Env) (s : Shared) (H : Hp) (E : XK) : Cx := cxOf (L2N.CX P w) P w K mg base NL "law" (defScope s_law) f cdv A outer s H E
def Inv1 (ns : List Int) (δ' : De) (ω' : Om) : Prop := (∃ os, ω' = ⟨[], os⟩) ∧ ∃ y1 y2 y3 y4 y5 y6 y7 y8 y9 y10 y11 y12, δ' = [some (.im (.list (ns.map .int))), y1, y2, y3, y4, y5, y6, y7, y8, y9, y10, y11, y12]
set_option maxHeartbeats 16000000 in
theorem part2 {cdv : Value} {A : Around} {outer : List Env} {s : Shared} {H : Hp} {E : XK} {T : List (Addr × Str)} {ns : List Int} (Ds : Defs P w K mg base C CD kn)
    (hr : Room 9 (A.deeper (envOfC "law" (defScope s_law) s.heap.objs.size f cdv))) {R : Out → Prop} (hR : ∀ δ' ω', Inv1 ns δ' ω' → R (.nx δ' ω')) (hF : True) {k : Nat} {m : Int} {h wd : Nat} (h1 : 1 ≤ h) (h2 : h ≤ 10) (w1 : 1 ≤ wd) (w2 : wd ≤ 20) {xs : List Dd} (hx : ∀ D ∈ xs, D.Ok) (lx : xs.length ≤ 12)
    {D1 D2 D3 D L : Addr} {y10 y11 y12 : Option Sd} {os : List (Addr × Od)} :
    SD (XL P w K mg base f cdv A outer s H E) (WOf E) T ((forBody (defBody s_law)).drop 10) [some (.im (.list (ns.map .int))), some (.im (.int (k : Int))), some (.im (.int m)), some (.im (.int (h : Int))), some (.im (.int (wd : Int))), some (.im (.list (xs.map Dd.d))), some (.ad D1), some (.ad D2), some (.ad D3), some (.ad D), y10, y11, y12] ⟨[], ownO (Pn.new h wd) L D ++ ((D3, .ins C (imF (pF (Pn.new h wd)))) :: (D2, .ins C (imF (pF ((Pn.new h wd).all xs)))) :: (D1, .ins C (imF (pF ((Pn.new h wd).all xs)))) :: os)⟩ R := by
  have B := Ds.B
  have PC := Ds.PC
  have tk : L2N.Takes (cxOf (L2N.CX P w) P w K mg base NL "law" (defScope s_law) f cdv A outer s H E) (WOf E) := L2N.takes_of rfl rfl rfl rfl
  have hr7 : Room 7 (A.deeper (envOfC "law" (defScope s_law) s.heap.objs.size f cdv)) := hr.mono (by decide)
  have hr5 : Room 5 (A.deeper (envOfC "law" (defScope s_law) s.heap.objs.size f cdv)) := hr.mono (by decide)
  have hr2 : Room 2 (A.deeper (envOfC "law" (defScope s_law) s.heap.objs.size f cdv)) := hr.mono (by decide)
  have hr1 : Room 1 (A.deeper (envOfC "law" (defScope s_law) s.heap.objs.size f cdv)) := hr.mono (by decide)
  have o0 := Pn.new_ok h1 h2 w1 w2
  have oAll := o0.all hx
  refine sd_for 11 (items := xs.map Dd.d)
    (fun i δ' ω' => ∃ L, ω' = ⟨[], ownO ((Pn.new h wd).all (xs.take i)) L D ++ ((D3, .ins C (imF (pF ((Pn.new h wd).all (xs.take i))))) :: (D2, .ins C (imF (pF ((Pn.new h wd).all xs)))) :: (D1, .ins C (imF (pF ((Pn.new h wd).all xs)))) :: os)⟩ ∧ ∃ y11 y12, δ' = [some (.im (.list (ns.map .int))), some (.im (.int (k : Int))), some (.im (.int m)), some (.im (.int (h : Int))), some (.im (.int (wd : Int))), some (.im (.list (xs.map Dd.d))), some (.ad D1), some (.ad D2), some (.ad D3), some (.ad D), y10, y11, y12])
    (wk_lst (pd_var 5)) ⟨L, rfl, _, _, rfl⟩ ?_ ?_ (pg_name sc_law.nd rfl (Or.inl rfl)) (passes_of rfl) rfl
  · rintro i d δ' ω' hd ⟨L1, rfl, y11, y12, rfl⟩
    rw [List.getElem?_map] at hd
    cases e : xs[i]? with
    | none =>
      rw [e] at hd
      cases hd
    | some c =>
      rw [e] at hd
      cases hd
      have hc := hx c (List.mem_of_getElem? e)
      have ou := o0.all (Ds := xs.take i) fun x hx2 => hx x (List.mem_of_mem_take hx2)
      have en : (Pn.new h wd).all (xs.take (i + 1)) = ((Pn.new h wd).all (xs.take i)).go c := by
        show (xs.take (i + 1)).foldl Pn.go _ = _
        rw [List.take_add_one, e, List.foldl_append]
        rfl
      refine SD.imp (R' := Turn1 (fun j δ' ω' => ∃ L, ω' = ⟨[], ownO (((Pn.new h wd).all (xs.take i)).go c) L D ++ ((D3, .ins C (imF (pF (((Pn.new h wd).all (xs.take i)).go c)))) :: (D2, .ins C (imF (pF ((Pn.new h wd).all xs)))) :: (D1, .ins C (imF (pF ((Pn.new h wd).all xs)))) :: os)⟩ ∧ ∃ y11 y12, δ' = [some (.im (.list (ns.map .int))), some (.im (.int (k : Int))), some (.im (.int m)), some (.im (.int (h : Int))), some (.im (.int (wd : Int))), some (.im (.list (xs.map Dd.d))), some (.ad D1), some (.ad D2), some (.ad D3), some (.ad D), y10, y11, y12]) i (fun _ => False) (fun _ => False)) ?_ ?im
      case im =>
        rintro (⟨δ2, ω2⟩ | ⟨r2, ω2⟩ | ⟨C2, ω2⟩ | ⟨δ2, ω2⟩ | ⟨δ2, ω2⟩) z
        · obtain ⟨L2, z1, z2⟩ := z
          exact ⟨L2, by rw [z1, en], z2⟩
        · exact False.elim z
        · exact False.elim z
        · exact False.elim z
        · obtain ⟨L2, z1, z2⟩ := z
          exact ⟨L2, by rw [z1, en], z2⟩
      generalize (Pn.new h wd).all (xs.take i) = u at ou
      have ov := ou.go hc
      refine sd_exprX (ex_callG (ownO u L1 D) _ Ds.ldo hr5 tk (pss1_cons (ps1_var 9) (pss1_cons (PD.ps1 (pd_var 11)) pss1_nil)) ⟨u, L1, D, c, ou, hc, rfl, rfl, rfl⟩ ?_)
      rintro r os' ⟨L2, rfl, rfl⟩
      -- the text in parts
      refine sd_for 12 (items := (cutT c (m / 4096)).map Dd.d)
        (fun j δ' ω' => ω' = ⟨[], ownO (u.go c) L2 D ++ ((D3, .ins C (imF (pF (u.all ((cutT c (m / 4096)).take j))))) :: (D2, .ins C (imF (pF ((Pn.new h wd).all xs)))) :: (D1, .ins C (imF (pF ((Pn.new h wd).all xs)))) :: os)⟩ ∧ ∃ y12, δ' = [some (.im (.list (ns.map .int))), some (.im (.int (k : Int))), some (.im (.int m)), some (.im (.int (h : Int))), some (.im (.int (wd : Int))), some (.im (.list (xs.map Dd.d))), some (.ad D1), some (.ad D2), some (.ad D3), some (.ad D), y10, some (.im c.d), y12])
        (wk_lst (pd_call Ds.cutt hr1 (pds_cons (PN.pd (pn_lst (pds_cons (pd_var 11) pds_nil))) (pds_cons (pd_fdiv (wide_div (b := 13) (by decide) (by decide) (by decide) (by decide)) (pd_var 2) pd_int) pds_nil)) ⟨c, _, hc, rfl, rfl⟩)) ⟨rfl, _, rfl⟩ ?_ ?_ (pg_name sc_law.nd rfl (Or.inl rfl)) (passes_of rfl) rfl
      · rintro j d δ' ω' hd ⟨rfl, y12, rfl⟩
        rw [List.getElem?_map] at hd
        cases e2 : (cutT c (m / 4096))[j]? with
        | none =>
          rw [e2] at hd
          cases hd
        | some c2 =>
          rw [e2] at hd
          cases hd
          have hcs := cutT_ok (m / 4096) hc
          have o2 := ou.all (Ds := (cutT c (m / 4096)).take j) fun x hx2 => hcs x (List.mem_of_mem_take hx2)
          have oD : ∀ X ∈ [c2], X.Ok := fun X hX => by
            rw [List.mem_singleton.mp hX]
            exact hcs c2 (List.mem_of_getElem? e2)
          have e3 : (u.all ((cutT c (m / 4096)).take j)).all [c2] = u.all ((cutT c (m / 4096)).take (j + 1)) := by
            show _ = ((cutT c (m / 4096)).take (j + 1)).foldl Pn.go u
            rw [List.take_add_one, e2, List.foldl_append]
            rfl
          exact sd_yr (yr_meth 8 2 Ds.write hr7 tk PC.cl rfl (pds_cons (PN.pd (pn_lst (pds_cons (pd_var 12) pds_nil))) pds_nil) (write_call Ds.kn o2 oD e3) (get_m (by decide +kernel))) (fun _ _ => sd_nil ⟨rfl, _, rfl⟩) (fun _ z => by cases z)
      · rintro δ' ω' ⟨rfl, y12, rfl⟩
        rw [List.length_map, List.take_length, cutT_all]
        refine sd_ifF2 (t2_cmp (op_neD hr.units) (rd_neS (faceD_fc ov).shp rfl) (PD.ye (pd_meth0 8 Ds.faceM hr2 PC.cl (at_mem (j := 2) rfl) (face_call ov) (get_m (by decide +kernel)))) (EX.ye (ex_callG (ownO (u.go c) L2 D) _ Ds.fo hr1 takesF (pss1_cons (ps1_var 9) pss1_nil) ⟨u.go c, L2, D, ov, rfl, rfl, rfl⟩ ?_)) (nomark _)) (sd_nil ⟨L2, rfl, _, _, rfl⟩)
        rintro r os' ⟨rfl, rfl⟩
        rfl
  · rintro δ' ω' ⟨L1, rfl, y11, y12, rfl⟩
    rw [List.length_map, List.take_length]
    have z1 : ∀ r os', r = Rg.ok (.im (faceD ((Pn.new h wd).all xs))) ∧ os' = ownO ((Pn.new h wd).all xs) L1 D → match r with | .ok r => Out.rt r ⟨[], os' ++ ((D3, .ins C (imF (pF ((Pn.new h wd).all xs)))) :: (D2, .ins C (imF (pF ((Pn.new h wd).all xs)))) :: (D1, .ins C (imF (pF ((Pn.new h wd).all xs)))) :: os)⟩ = .rt (.im (faceD ((Pn.new h wd).all xs))) ⟨[], ownO ((Pn.new h wd).all xs) L1 D ++ ((D3, .ins C (imF (pF ((Pn.new h wd).all xs)))) :: (D2, .ins C (imF (pF ((Pn.new h wd).all xs)))) :: (D1, .ins C (imF (pF ((Pn.new h wd).all xs)))) :: os)⟩ | .er Z => Out.ex Z ⟨[], os' ++ ((D3, .ins C (imF (pF ((Pn.new h wd).all xs)))) :: (D2, .ins C (imF (pF ((Pn.new h wd).all xs)))) :: (D1, .ins C (imF (pF ((Pn.new h wd).all xs)))) :: os)⟩ = .rt (.im (faceD ((Pn.new h wd).all xs))) ⟨[], ownO ((Pn.new h wd).all xs) L1 D ++ ((D3, .ins C (imF (pF ((Pn.new h wd).all xs)))) :: (D2, .ins C (imF (pF ((Pn.new h wd).all xs)))) :: (D1, .ins C (imF (pF ((Pn.new h wd).all xs)))) :: os)⟩ := by
      rintro r os' ⟨rfl, rfl⟩
      rfl
    refine sd_ifF2 (YW.yt (w2_orF (t2_cmp (op_neD hr.units) (rd_neS (faceD_fc oAll).shp rfl) (PD.ye (pd_meth0 6 Ds.faceM hr2 PC.cl (at_mem (j := 4) rfl) (face_call oAll) (get_m (by decide +kernel)))) (EX.ye (ex_callG (ownO ((Pn.new h wd).all xs) L1 D) _ Ds.fo hr1 takesF (pss1_cons (ps1_var 9) pss1_nil) ⟨_, L1, D, oAll, rfl, rfl, rfl⟩ z1)) (nomark _))
      (w2_or1 (t2_cmp (op_neD hr.units) (rd_neS (faceD_fc oAll).shp rfl) (PD.ye (pd_meth0 7 Ds.faceM hr2 PC.cl (at_mem (j := 3) rfl) (face_call oAll) (get_m (by decide +kernel)))) (EX.ye (ex_callG (ownO ((Pn.new h wd).all xs) L1 D) _ Ds.fo hr1 takesF (pss1_cons (ps1_var 9) pss1_nil) ⟨_, L1, D, oAll, rfl, rfl, rfl⟩ z1)) (nomark _))))) (sd_nil (hR _ _ ⟨⟨_, rfl⟩, _, _, _, _, _, _, _, _, _, _, _, _, rfl⟩))
set_option maxHeartbeats 16000000 in
theorem law_body {cdv : Value} {A : Around} {outer : List Env} {s : Shared} {H : Hp} {E : XK} {T : List (Addr × Str)} {ns : List Int} (Ds : Defs P w K mg base C CD kn)
    (hr : Room 9 (A.deeper (envOfC "law" (defScope s_law) s.heap.objs.size f cdv))) (hn : ns.length ≤ 63) :
    SD (cxOf (L2N.CX P w) P w K mg base NL "law" (defScope s_law) f cdv A outer s H E) (WOf E) T (defBody s_law) (startD NL [.list (ns.map .int)]) ⟨[], []⟩ FinT := by
  have B := Ds.B
  have PC := Ds.PC
  have tk : L2N.Takes (cxOf (L2N.CX P w) P w K mg base NL "law" (defScope s_law) f cdv A outer s H E) (WOf E) := L2N.takes_of rfl rfl rfl rfl
  have hr7 : Room 7 (A.deeper (envOfC "law" (defScope s_law) s.heap.objs.size f cdv)) := hr.mono (by decide)
  have hr6 : Room 6 (A.deeper (envOfC "law" (defScope s_law) s.heap.objs.size f cdv)) := hr.mono (by decide)
  have hr3 : Room 3 (A.deeper (envOfC "law" (defScope s_law) s.heap.objs.size f cdv)) := hr.mono (by decide)
  have hr1 : Room 1 (A.deeper (envOfC "law" (defScope s_law) s.heap.objs.size f cdv)) := hr.mono (by decide)
  refine sd_for 1 (items := rangeD 0 ((if (if ((ns.map PyData.int).length : Int) < 3 then ((ns.map PyData.int).length : Int) else 3) > 1 then (if ((ns.map PyData.int).length : Int) < 3 then ((ns.map PyData.int).length : Int) else 3) else 1) : Int).toNat)
    (fun i δ' ω' => Inv1 ns δ' ω')
    (wk_range1 B.range (pd_max rfl B.max pd_int (pd_min rfl B.min pd_int (pd_lenL B.len (PD.pl (pd_var 0))))) ?_) ⟨⟨_, rfl⟩, _, _, _, _, _, _, _, _, _, _, _, _, rfl⟩ ?_ ?_ (pg_name sc_law.nd rfl (Or.inl rfl)) (passes_of rfl) rfl
  · split <;> (try split) <;> omega
  · rintro k d δ' ω' hd ⟨⟨os, rfl⟩, y1, y2, y3, y4, y5, y6, y7, y8, y9, y10, y11, y12, rfl⟩
    have hk4 : k < 4 ∧ d = .int (k : Int) := by
      have hlt := (List.getElem?_eq_some_iff.mp hd).1
      rw [rangeD_len] at hlt
      rw [rangeD_get hlt] at hd
      cases hd
      refine ⟨?_, by rw [Int.zero_add]⟩
      revert hlt
      split <;> (try split) <;> omega
    obtain ⟨hk4, rfl⟩ := hk4
    refine sd_set 2 (pd_call Ds.drawn hr1 (pds_cons (pd_call Ds.cell hr1 (pds_cons (pd_var 0) (pds_cons (pd_var 1) pds_nil)) ⟨ns, k, rfl, hn, by omega, rfl⟩) (pds_cons (pd_var 1) pds_nil)) ⟨_, _, rfl, rfl⟩) ?_ sc_law.nd
    generalize K21.drawn (cellAt ns k) (k : Int) = m
    refine sd_unp [3, 4] (pd_call Ds.size hr1 (pds_cons (pd_var 2) pds_nil) ⟨_, rfl, rfl⟩) (pg_tup rfl (pgs_cons (pg_name sc_law.nd rfl (Or.inl rfl)) (pgs_cons (pg_name sc_law.nd rfl (Or.inl rfl)) pgs_nil))) rfl rfl ?_
    obtain ⟨b1, b2, b3, b4⟩ := size_le m
    obtain ⟨h, eh⟩ : ∃ h : Nat, (sizeD m).1 = (h : Int) := ⟨(sizeD m).1.toNat, by omega⟩
    obtain ⟨wd, ew⟩ : ∃ h : Nat, (sizeD m).2 = (h : Int) := ⟨(sizeD m).2.toNat, by omega⟩
    rw [eh, ew]
    rw [eh] at b1 b2
    rw [ew] at b3 b4
    have h1 : 1 ≤ h := by omega
    have h2 : h ≤ 10 := by omega
    have w1 : 1 ≤ wd := by omega
    have w2 : wd ≤ 20 := by omega
    refine sd_set 5 (pd_call Ds.deeds hr3 (pds_cons (pd_call Ds.drawn hr1 (pds_cons (pd_var 2) (pds_cons pd_int pds_nil)) ⟨_, _, rfl, rfl⟩) (pds_cons pd_int pds_nil)) ⟨_, 12, rfl, by decide, rfl⟩) ?_ sc_law.nd
    have hx := deedsL_ok (K21.drawn m 1) 12
    have lx : (deedsL (K21.drawn m 1) 12).length ≤ 12 := by
      unfold deedsL
      rw [List.length_map, List.length_range]
      omega
    generalize deedsL (K21.drawn m 1) 12 = xs at hx lx
    obtain ⟨g, fdg, psg, M, FI, bI⟩ := Ds.mkp
    have ip : frInit [] [.int (h : Int), .int (wd : Int)] (.ok .none) (pF (Pn.new h wd)) := by
      refine ⟨h, wd, rfl, rfl, h1, h2, w1, w2, rfl, ?_⟩
      show penF ((List.replicate h (blankR wd)).map .tuple) _ _ _ _ _ = _
      rw [List.map_replicate]
      rfl
    refine sd_par3X 6 7 8 rfl sc_law.nd (ax_nw (nw_make M FI bI hr6 Ds.pen (pds_cons (pd_var 3) (pds_cons (pd_var 4) pds_nil)) ip) fun D1 => ax_nw (nw_make M FI bI hr6 Ds.pen (pds_cons (pd_var 3) (pds_cons (pd_var 4) pds_nil)) ip) fun D2 => ax_nw (nw_make M FI bI hr6 Ds.pen (pds_cons (pd_var 3) (pds_cons (pd_var 4) pds_nil)) ip) fun D3 => ax_nil ⟨_, _, _, rfl, ?_⟩) rfl
    have o0 := Pn.new_ok h1 h2 w1 w2
    refine sd_setX 9 (ex_callG [] ((D3, .ins C (imF (pF (Pn.new h wd)))) :: (D2, .ins C (imF (pF (Pn.new h wd)))) :: (D1, .ins C (imF (pF (Pn.new h wd)))) :: os) Ds.own hr1 tk (pss1_cons (PD.ps1 (pd_var 3)) (pss1_cons (PD.ps1 (pd_var 4)) pss1_nil)) ⟨h, wd, rfl, rfl, h2, w2, rfl⟩ ?_) sc_law.nd
    rintro r os' ⟨L, D, rfl, rfl⟩
    refine (show SD _ _ _ _ _ ⟨[], ownO (Pn.new h wd) L D ++ ((D3, .ins C (imF (pF (Pn.new h wd)))) :: (D2, .ins C (imF (pF (Pn.new h wd)))) :: (D1, .ins C (imF (pF (Pn.new h wd)))) :: os)⟩ _ from ?_)
    refine sd_yr (yr_meth 6 4 Ds.write hr7 tk PC.cl rfl (pds_cons (PN.pd (pn_listL Ds.li (PD.pl (pd_var 5)))) pds_nil) (write_call Ds.kn o0 hx rfl) (get_m (by decide +kernel))) (fun _ _ => ?_) (fun _ z => by cases z)
    have lm : (xs.map Dd.d).length = xs.length := List.length_map _
    obtain ⟨q, eq, lq⟩ := mod_nat (m / 64) (xs.length + 1) (by omega)
    have pq : (0 : Int) < ((xs.map Dd.d).length : Int) + 1 := by omega
    refine sd_set 10 (d := .int (q : Int)) (PD.eq (pd_mod pq (pd_fdiv (wide_div (b := 7) (by decide) (by decide) (by decide) (by decide)) (pd_var 2) pd_int) (pd_add (pd_lenL B.len (PD.pl (pd_var 5))) pd_int)) (by rw [lm, ← eq]; rfl)) ?_ sc_law.nd
    have hx1 : ∀ D ∈ xs.take q, D.Ok := fun D hD => hx D (List.mem_of_mem_take hD)
    have hx2 : ∀ D ∈ xs.drop q, D.Ok := fun D hD => hx D (List.mem_of_mem_drop hD)
    have o1 := o0.all hx1
    have e2 : ((Pn.new h wd).all (xs.take q)).all (xs.drop q) = (Pn.new h wd).all xs := by
      show (xs.drop q).foldl Pn.go ((xs.take q).foldl Pn.go _) = xs.foldl Pn.go _
      rw [← List.foldl_append, List.take_append_drop]
    refine sd_yr (yr_meth 7 3 Ds.write hr7 tk PC.cl rfl (pds_cons (PD.eq (PN.pd (pn_slL (i := none) (j := some ((q : Nat) : Int)) (PD.pl (pd_var 5)) rfl ⟨_, rfl, pd_var 10⟩)) (show _ = PyData.list ((xs.take q).map Dd.d) by rw [cut_to, List.map_take])) pds_nil) (write_call Ds.kn o0 hx1 rfl) (get_m (by decide +kernel))) (fun _ _ => ?_) (fun _ z => by cases z)
    refine sd_yr (yr_meth 7 3 Ds.write hr7 tk PC.cl rfl (pds_cons (PN.pd (pn_lst pds_nil)) pds_nil) (write_call (Ds := []) Ds.kn o1 (fun D hD => by cases hD) rfl) (get_m (by decide +kernel))) (fun _ _ => ?_) (fun _ z => by cases z)
    refine sd_yr (yr_meth 7 3 Ds.write hr7 tk PC.cl rfl (pds_cons (PD.eq (PN.pd (pn_slL (i := some ((q : Nat) : Int)) (j := none) (PD.pl (pd_var 5)) ⟨_, rfl, pd_var 10⟩ rfl)) (show _ = PyData.list ((xs.drop q).map Dd.d) by rw [cut_from, List.map_drop])) pds_nil) (write_call Ds.kn o1 hx2 e2) (get_m (by decide +kernel))) (fun _ _ => ?_) (fun _ z => by cases z)
    exact part2 Ds hr (fun δ' ω' hI => hI) trivial h1 h2 w1 w2 hx lx
  · rintro δ' ω' ⟨⟨os, rfl⟩, y1, y2, y3, y4, y5, y6, y7, y8, y9, y10, y11, y12, rfl⟩
    exact sd_ret pd_bl rfl
end
end K21

namespace K21
open PySem PySem.Spec PyProof.Rows L2 FP
theorem facts {l : PySem.W.OpenLaw} {w : World} {K : PySem.W.Frag} {h : Heap} {mg : Str → Option Value} {f : Addr} (KX : K.In h) (G : h.Ns mainGlobals mg) (hfa : mg ("law" : Str) = some (.ref f)) (c : He.SaysX fa fn ts tf ex w h K) :
    LamX.LawAtS l w K (L2N.CX l.prog w) 10 63 "_law_script" mg f h := by
  have cd := c.t.d
  have gl : ∀ x, He.Fa.glo x ∈ fa → mg x = some (.ref (He.ga K x)) := fun x hx => He.glo_ok KX G (cd.facts hx)
  have fr : ∀ x, He.Fa.free x ∈ fa → mg x = none := fun x hx => He.free_ok KX G (cd.facts hx)
  have df : ∀ (x : Str) (st : Stmt), dOf x st ∈ fn → ∃ fd, Df K x st (He.ga K x) fd := fun x st hx => cd.defs hx
  obtain ⟨x0, cm⟩ := He.ba c.more
  obtain ⟨x1, cm⟩ := He.ba cm
  obtain ⟨x2, cm⟩ := He.ba cm
  obtain ⟨x3, cm⟩ := He.ba cm
  obtain ⟨x4, cm⟩ := He.ba cm
  obtain ⟨x5, cm⟩ := He.ba cm
  obtain ⟨x6, cm⟩ := He.ba cm
  obtain ⟨x7, cm⟩ := He.ba cm
  obtain ⟨x8, cm⟩ := He.ba cm
  obtain ⟨x9, cm⟩ := He.ba cm
  obtain ⟨x10, cm⟩ := He.ba cm
  obtain ⟨x11, cm⟩ := He.ba cm
  obtain ⟨x12, cm⟩ := He.ba cm
  obtain ⟨x13, cm⟩ := He.ba cm
  have x14 := cm
  have dm : ∀ (m q : Str) (st : Stmt), (⟨("Pen", some m), m, q, defArgs st, defBody st, defScope st, [], []⟩ : He.DefD) ∈ fn → ∃ fd, Dm K m q st (He.ma K (He.ga K "Pen") m) fd := fun m q st hx => cd.defs hx
  have me : ∀ m, He.Fa.meth "Pen" m ∈ fa → Meth K (He.ga K "Pen") m (He.ma K (He.ga K "Pen") m) := fun m hx => He.meth_ok (cd.facts hx)
  have na : ∀ m, He.Fa.noat "Pen" m ∈ fa → NoAttr K (He.ga K "Pen") m := fun m hx => He.noat_ok (cd.facts hx)
  have B : Bl mg := ⟨fr _ (by simp [fa]), fr _ (by simp [fa]), fr _ (by simp [fa]), fr _ (by simp [fa]), fr _ (by simp [fa]), fr _ (by simp [fa]), fr _ (by simp [fa]), fr _ (by simp [fa]), fr _ (by simp [fa]), fr _ (by simp [fa]), fr _ (by simp [fa])⟩
  have X1 : ExcF K mg "BadFace" (He.ga K "BadFace") := exc_of KX G (cd.facts (by simp [fa])) (cd.facts (by simp [fa]))
  have X2 : ExcF K mg "BadDeed" (He.ga K "BadDeed") := exc_of KX G (cd.facts (by simp [fa])) (cd.facts (by simp [fa]))
  have i1 : GlD K mg "PERCENT" (.int 37) := gld_int KX G (cd.facts (by simp [fa]))
  have i2 : GlD K mg "MOST_ROWS" (.int 10) := gld_int KX G (cd.facts (by simp [fa]))
  have i3 : GlD K mg "MOST_COLUMNS" (.int 20) := gld_int KX G (cd.facts (by simp [fa]))
  have i7 : GlD K mg "MOST_SAID" (.int 200) := gld_int KX G (cd.facts (by simp [fa]))
  have i5 : GlD K mg "BLANK" blankC := gldB_ok KX G x0
  have i6 : GlD K mg "BARE_WORDS" (.tuple [.str "line", .str "home", .str "back"]) := gldB_ok KX G x1
  have i8 : GlD K mg "WIPED_PARTS" (.tuple [.str "row", .str "rest", .str "all"]) := gldB_ok KX G x2
  have KT : KTab w K mg "LIMITS" (He.ga K "LIMITS") := ⟨c.t.tab 0, gl _ (by simp [fa])⟩
  have hlim : ∀ z, z ∈ deedW → Lim w K mg (He.ga K "LIMITS") z := by
    intro z hz
    simp only [deedW, List.mem_cons, List.not_mem_nil, or_false] at hz
    rcases hz with rfl | rfl | rfl | rfl | rfl | rfl | rfl | rfl | rfl | rfl | rfl | rfl
    · exact ⟨KT, (show PySem.W.nsIn K (He.ga K "LIMITS") "say" = some none from of_decide_eq_true x10)⟩
    · exact ⟨KT, (show PySem.W.nsIn K (He.ga K "LIMITS") "line" = some none from of_decide_eq_true x11)⟩
    · exact ⟨KT, (show PySem.W.nsIn K (He.ga K "LIMITS") "home" = some none from of_decide_eq_true x12)⟩
    · exact ⟨KT, (show PySem.W.nsIn K (He.ga K "LIMITS") "back" = some none from of_decide_eq_true x13)⟩
    · exact ⟨KT, kvB_ok x3⟩
    · exact ⟨KT, kvB_ok x4⟩
    · exact ⟨KT, (show PySem.W.nsIn K (He.ga K "LIMITS") "wipe" = some none from of_decide_eq_true x14)⟩
    · exact ⟨KT, kvB_ok x5⟩
    · exact ⟨KT, kvB_ok x6⟩
    · exact ⟨KT, kvB_ok x7⟩
    · exact ⟨KT, kvB_ok x8⟩
    · exact ⟨KT, kvB_ok x9⟩
  have PC : PenC K (He.ga K "Pen") := ⟨He.cls_ok (cd.facts (by simp [fa])), na _ (by simp [fa]), na _ (by simp [fa]), na _ (by simp [fa]), na _ (by simp [fa]), na _ (by simp [fa]), na _ (by simp [fa])⟩
  have MK : Mk K (He.ga K "Pen") (He.ma K (He.ga K "Pen") "__init__") := He.mkr_ok (cd.facts (by simp [fa]))
  refine law_at KX G hfa c (params := defArgs s_law) (body := defBody s_law) (scope := defScope s_law) (by simp [fn]) (by simp [fa]) sc_law (fun _ _ _ _ _ _ us hl => match us, hl with | [_], _ => rfl) (fun base hB hN T cdv A outer s H E ns hT L hr h1 h2 => ?_)
  obtain ⟨_, F_is_whole⟩ := df "is_whole" s_is_whole (by simp [fn])
  obtain ⟨_, F_is_within⟩ := df "is_within" s_is_within (by simp [fn])
  obtain ⟨_, F_are_signs⟩ := df "are_signs" s_are_signs (by simp [fn])
  obtain ⟨_, F_need_size⟩ := df "need_size" s_need_size (by simp [fn])
  obtain ⟨_, F_blank_cells⟩ := df "blank_cells" s_blank_cells (by simp [fn])
  obtain ⟨_, F_blank⟩ := df "blank" s_blank (by simp [fn])
  obtain ⟨_, F_need_deed⟩ := df "need_deed" s_need_deed (by simp [fn])
  obtain ⟨_, F_need_deeds⟩ := df "need_deeds" s_need_deeds (by simp [fn])
  obtain ⟨_, F_is_deed⟩ := df "is_deed" s_is_deed (by simp [fn])
  obtain ⟨_, F_are_numbers_within⟩ := df "are_numbers_within" s_are_numbers_within (by simp [fn])
  obtain ⟨_, F_pushed⟩ := df "pushed" s_pushed (by simp [fn])
  obtain ⟨_, F_pulled⟩ := df "pulled" s_pulled (by simp [fn])
  obtain ⟨_, F_rolled⟩ := df "rolled" s_rolled (by simp [fn])
  obtain ⟨_, F__law_cell⟩ := df "_law_cell" s__law_cell (by simp [fn])
  obtain ⟨_, F__law_drawn⟩ := df "_law_drawn" s__law_drawn (by simp [fn])
  obtain ⟨_, F__law_size⟩ := df "_law_size" s__law_size (by simp [fn])
  obtain ⟨_, F__law_deed⟩ := df "_law_deed" s__law_deed (by simp [fn])
  obtain ⟨_, F__law_deeds⟩ := df "_law_deeds" s__law_deeds (by simp [fn])
  obtain ⟨_, F__law_pen⟩ := df "_law_pen" s__law_pen (by simp [fn])
  obtain ⟨_, F__law_blanks⟩ := df "_law_blanks" s__law_blanks (by simp [fn])
  obtain ⟨_, F__law_roll⟩ := df "_law_roll" s__law_roll (by simp [fn])
  obtain ⟨_, F__law_down⟩ := df "_law_down" s__law_down (by simp [fn])
  obtain ⟨_, F__law_say⟩ := df "_law_say" s__law_say (by simp [fn])
  obtain ⟨_, F__law_cells_done⟩ := df "_law_cells_done" s__law_cells_done (by simp [fn])
  obtain ⟨_, F__law_do⟩ := df "_law_do" s__law_do (by simp [fn])
  obtain ⟨_, F__law_face_of⟩ := df "_law_face_of" s__law_face_of (by simp [fn])
  obtain ⟨_, F__law_cut_texts⟩ := df "_law_cut_texts" s__law_cut_texts (by simp [fn])
  obtain ⟨_, M___init__⟩ := dm "__init__" "Pen.__init__" s_Pen___init__ (by simp [fn])
  obtain ⟨_, M_write⟩ := dm "write" "Pen.write" s_Pen_write (by simp [fn])
  obtain ⟨_, M_face⟩ := dm "face" "Pen.face" s_Pen_face (by simp [fn])
  obtain ⟨_, M_do⟩ := dm "do" "Pen.do" s_Pen_do (by simp [fn])
  obtain ⟨_, M_place⟩ := dm "place" "Pen.place" s_Pen_place (by simp [fn])
  obtain ⟨_, M_cells⟩ := dm "cells" "Pen.cells" s_Pen_cells (by simp [fn])
  obtain ⟨_, M_put_cells⟩ := dm "put_cells" "Pen.put_cells" s_Pen_put_cells (by simp [fn])
  obtain ⟨_, M_say⟩ := dm "say" "Pen.say" s_Pen_say (by simp [fn])
  obtain ⟨_, M_down⟩ := dm "down" "Pen.down" s_Pen_down (by simp [fn])
  obtain ⟨_, M_wipe⟩ := dm "wipe" "Pen.wipe" s_Pen_wipe (by simp [fn])
  have G_whole := ok_whole (P := l.prog) (w := w) (base := base) F_is_whole (gl _ (by simp [fa])) B
  have G_within := ok_within F_is_within (gl _ (by simp [fa])) G_whole
  have G_signs := ok_signs (P := l.prog) (w := w) (base := base) F_are_signs (gl _ (by simp [fa])) B i1
  have G_size := ok_size F_need_size (gl _ (by simp [fa])) X1 G_within i2 i3
  have G_bcells := ok_bcells (P := l.prog) (w := w) (base := base) F_blank_cells (gl _ (by simp [fa])) i5
  have G_blank := ok_blank F_blank (gl _ (by simp [fa])) G_size G_bcells
  have G_lcell := ok_lcell (P := l.prog) (w := w) (base := base) F__law_cell (gl _ (by simp [fa])) B
  have G_drawn := ok_drawn (P := l.prog) (w := w) (base := base) F__law_drawn (gl _ (by simp [fa]))
  have G_lsize := ok_lsize (P := l.prog) (w := w) (base := base) F__law_size (gl _ (by simp [fa]))
  have G_anw := ok_anw F_are_numbers_within (gl _ (by simp [fa])) B (fr _ (by simp [fa])) G_within
  have G_isd := ok_isd (kn := fun z => z ∈ deedW) F_is_deed (gl _ (by simp [fa])) B i6 i8 i7 hlim G_anw G_signs
  have G_nd := ok_nd F_need_deed (gl _ (by simp [fa])) X2 G_isd
  have G_nds := ok_nds F_need_deeds (gl _ (by simp [fa])) B (fr _ (by simp [fa])) X2 G_nd
  have G_push := ok_push (P := l.prog) (w := w) (base := base) F_pushed (gl _ (by simp [fa])) B
  have G_pull := ok_pull (P := l.prog) (w := w) (base := base) F_pulled (gl _ (by simp [fa])) B
  have G_roll := ok_roll F_rolled (gl _ (by simp [fa])) B G_push G_pull G_bcells
  have G_ldeed := ok_ldeed F__law_deed (gl _ (by simp [fa])) B G_drawn
  have G_ldeeds := ok_ldeeds F__law_deeds (gl _ (by simp [fa])) B G_drawn G_ldeed
  have G_lbl := ok_lbl (P := l.prog) (w := w) (base := base) F__law_blanks (gl _ (by simp [fa]))
  have G_lblG := ok_lblG (P := l.prog) (w := w) (base := base) F__law_blanks (gl _ (by simp [fa]))
  have G_lpen := ok_lpen (P := l.prog) (w := w) (base := base) F__law_pen (gl _ (by simp [fa]))
  have G_lroll := ok_lroll F__law_roll (gl _ (by simp [fa])) B (fr _ (by simp [fa])) G_lbl
  have G_ldown := ok_ldown F__law_down (gl _ (by simp [fa])) G_lroll
  have G_lsay := ok_lsay F__law_say (gl _ (by simp [fa])) G_ldown
  have G_lcd := ok_lcd F__law_cells_done (gl _ (by simp [fa])) B G_lbl
  have G_ldo := ok_ldo F__law_do (gl _ (by simp [fa])) B G_lroll G_ldown G_lsay G_lcd G_lblG
  have G_lfo := ok_lfo (P := l.prog) (w := w) (base := base) F__law_face_of (gl _ (by simp [fa])) B
  have G_lct := ok_lct (P := l.prog) (w := w) (base := base) F__law_cut_texts (gl _ (by simp [fa])) B
  have W_place := ok_place (P := l.prog) (w := w) (mg := mg) (base := base) M_place (me _ (by simp [fa])) B PC
  have W_cells := ok_cellsM (P := l.prog) (w := w) (mg := mg) (base := base) M_cells (me _ (by simp [fa])) PC
  have W_put := ok_putM (P := l.prog) (w := w) (mg := mg) (base := base) M_put_cells (me _ (by simp [fa])) PC
  have W_face := ok_faceM M_face (me _ (by simp [fa])) PC W_place
  have W_down := ok_down M_down (me _ (by simp [fa])) PC G_roll
  have W_say := ok_say M_say (me _ (by simp [fa])) PC W_down W_cells W_put
  have W_wipe := ok_wipe M_wipe (me _ (by simp [fa])) PC W_place W_cells W_put G_bcells
  have W_do := ok_do M_do (me _ (by simp [fa])) PC B i5 W_place W_cells W_put W_say W_down W_wipe G_push G_pull G_bcells G_roll
  have W_write := ok_write M_write (me _ (by simp [fa])) PC G_nds W_do
  have W_init := ok_init M___init__ ⟨MK.init, MK.fn, M___init__.kp⟩ PC G_blank
  have mk1 : ∃ g fd ps, Mk K (He.ga K "Pen") g ∧ FnOk l.prog w K mg base (L2N.CX l.prog w) 5 g fd ps (spW K (He.ga K "Pen") frInit) ∧ L2.Binds K fd ps [] := by
    obtain ⟨g, fd, ps, FI, M, b⟩ := W_init.ex
    have e := M.at_.symm.trans MK.init
    cases e
    exact ⟨_, fd, ps, MK, FI, b⟩
  exact law_body (CD := He.ga K "BadDeed") (kn := fun z => z ∈ deedW) ⟨B, fr _ (by simp [fa]), G_lcell, G_drawn, G_lsize, G_ldeeds, G_lct, G_lpen, G_ldo, G_lfo, mk1, gl _ (by simp [fa]), W_write, W_face, PC, fun z h => h⟩ hr h1
end K21
open PySem PySem.W PySem.Calls PyProof.Rows
set_option maxRecDepth 100000 in
set_option maxHeartbeats 0 in
theorem PySem.Challenge.cw_farpanes_k21_whole_deeds_in_parts_holds : PySem.Challenge.rw_farpanes_k21_whole_deeds_in_parts.Holds := by
  w_on; o_law
  refine HandSHeadRun.head_any (r := OpenLaw.row PySem.Challenge.rw_farpanes_k21_whole_deeds_in_parts) (q := view (OpenLaw.row PySem.Challenge.rw_farpanes_k21_whole_deeds_in_parts).prog [45]) (H := K21.hk) (ob := K21.ob) (M := 8000) (loose := K21.loose) (d := HandSHeadRun.topDef (OpenLaw.row PySem.Challenge.rw_farpanes_k21_whole_deeds_in_parts).prog 45) (kwd := []) K21.ob_eq
    (by kernel_rfl) (fun s => by kernel_rfl) K21.run (by kernel_rfl) (by kernel_rfl) (by kernel_rfl) (by rfl) (by first | assumption | decide +kernel) (by decide +kernel) ⟨rfl, rfl, rfl, rfl, rfl, by decide +kernel⟩ ?hw ?hc
  case hw => w_witness2
  case hc =>
    refine LamX.walk_ofTsE (l := PySem.Challenge.rw_farpanes_k21_whole_deeds_in_parts) (n := 63) (k := 10) (x := "_law_script") (CX := fun w => L2N.CX (PySem.Challenge.rw_farpanes_k21_whole_deeds_in_parts).prog w) rfl (by decide) (by kernel_rfl) ⟨rfl, by decide, by decide⟩ ?F (fun w H s e s' z => FP.cx_none z)
    intro w mg fa h Y G hmg0
    obtain ⟨K, KX, c⟩ := Y
    have hmg : mg ("law" : PySem.Str) = some (.ref fa) := by
      have e : (HandSHeadRun.topDef (OpenLaw.row PySem.Challenge.rw_farpanes_k21_whole_deeds_in_parts).prog 45).name = ("law" : PySem.Str) := by kernel_rfl
      rw [← e]
      exact hmg0
    exact ⟨K, KX, K21.facts KX G hmg c⟩
