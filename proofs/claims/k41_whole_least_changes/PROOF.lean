import PyProof.Rows.All
import Wide.All
import OpenK.AllK
import Wide.FinOn
import HandS.ForMost
import HandS.ForExc
import HandS.Lambda
import HandS.EndTab
import HandS.HeadWalk
import HandS.HeadHook4
import HandS.Head2
import HandS.IsInst
import HandS.TupMul
import HandS.TupAny
import HandS.Wide
import HandS.ExcCtx
import HandS.HotCalls
import HandS.ExcIs
import PyProof.SumAny
import PyProof.RulesMatchSeq
import PyProof.Rows.MatchSeqLen
import HandS.More
import HandS.Zip
import PyProof.Rows.SeqMore
import HandS.Flow
import HandS.StrMore
import HandS.Text
import HandS.Iter
import PyProof.Rows.ChunkEnd
import HandS.Dict
import HandS.Style
import HandS.Small
import PyProof.Draws
import KE.GoesMore
import HandS.TupLe
import HandS.SetFor
import KE.KMinKey
import HandS.SortKw
import KE.KSortKeySt
import HandS.Conv
import KE.GoesZip
import KE.GoesEnum
import KE.KItemsList
import HandS.Deep
import HandS.DictComp
import HandS.WordsDict
import HandS.SetKeys
import KE.DataMinMax
import KE.IntTextLaws
import HandS.FStr
import HandS.Star
import HandS.NoneIn
import PyProof.StrLawsFrom
import HandS.ReplaceDef
import HandS.ReplaceLit
import PyProof.DictUpdate
import HandS.SuiteRaise
import HandS.Flt
import HandS.RaiseFrom
import HandS.Replace
import HandS.Steps
import HandS.TupSets
import HandS.Finally
import PySem.Challenge.RW_farpanes_k41_whole_least_changes
set_option Elab.async false
set_option linter.all false
set_option maxRecDepth 100000
set_option maxHeartbeats 4000000
set_option autoImplicit false
namespace FP
open PySem PySem.Spec PyProof.Rows L2
mutual
def kdIs (K : PySem.W.Frag) : PyData → Value → Bool
  | .none, .none => true
  | .bool b, .bool c => decide (b = c)
  | .int i, .int j _ => decide (i = j)
  | .str x, .str y _ => decide (x = y)
  | .tuple ds, .ref a => match K.lookup a with
    | some ⟨.type c, _, .seq its _, _⟩ => decide (c = "tuple") && (decide (its.size ≤ sizeLine) && kdAll K ds its.toList)
    | _ => false
  | _, _ => false
def kdAll (K : PySem.W.Frag) : List PyData → List Value → Bool
  | [], [] => true
  | d :: ds, u :: us => kdIs K d u && kdAll K ds us
  | _, _ => false
end
/-- the module's name x is this -/
def gldB (K : PySem.W.Frag) (x : Str) (d : PyData) : Bool := match PySem.W.nsIn K mainGlobals x with
  | some (some u) => kdIs K d u
  | _ => false
end FP

namespace FP
open PySem PySem.Spec PyProof.Rows L2

def hid (ps : List Addr) (H : Hp) : Hp := fun b => if b ∈ ps then none else H b
theorem hid_of {ps : List Addr} {H : Hp} {b : Addr} {o : HO} (n : b ∉ ps) (h : H b = some o) : hid ps H b = some o := by
  unfold hid
  rw [if_neg n]
  exact h
theorem hid_out {ps : List Addr} {H : Hp} {b : Addr} {o : HO} (h : hid ps H b = some o) : b ∉ ps ∧ H b = some o := by
  unfold hid at h
  by_cases c : b ∈ ps
  · rw [if_pos c] at h
    cases h
  · rw [if_neg c] at h
    exact ⟨c, h⟩
theorem hid_sub {ps : List Addr} {H : Hp} : Same (hid ps H) H := fun _ _ h => (hid_out h).2
theorem hid_same {ps : List Addr} {H H' : Hp} (e : Same H H') : Same (hid ps H) (hid ps H') := fun _ _ h => hid_of (hid_out h).1 (e _ _ (hid_out h).2)
theorem hid_nil {H : Hp} : hid [] H = H := by
  funext b
  unfold hid
  rw [if_neg (by simp)]
theorem same_new {H : Hp} {p : Addr} {o : HO} (h : H p = none) : Same H (upd H p o) := fun b x e => by
  rw [upd_ne (ne_of_none e h)]
  exact e
theorem same_sqt {K : PySem.W.Frag} {H H' : Hp} {a : Addr} {xs : List V} (e : Same H H') (h : SqT K H a xs) : SqT K H' a xs := by
  rcases h with (h | ⟨o, h⟩) | h
  · exact .inl (.inl (e _ _ h))
  · exact .inl (.inr ⟨o, e _ _ h⟩)
  · exact .inr h
mutual
theorem dp_mono {K : PySem.W.Frag} {H H' : Hp} (e : Same H H') : ∀ (d : PyData) (v : V), Dp K H v d → Dp K H' v d
  | .none, _, h => by
    cases h
    exact .non
  | .bool b, _, h => by
    cases h
    exact .bl b
  | .int i, _, h => by
    cases h
    exact .int i
  | .str x, _, h => by
    cases h
    exact .str x
  | .list ds, _, h => by
    cases h with
    | lst hs ha => exact .lst (e.seq hs) (dpa_mono e ds _ ha)
  | .tuple ds, _, h => by
    cases h with
    | tup hs ha => exact .tup (same_sqt e hs) (dpa_mono e ds _ ha)
  | .dict kvs, _, h => by cases h
theorem dpa_mono {K : PySem.W.Frag} {H H' : Hp} (e : Same H H') : ∀ (ds : List PyData) (vs : List V), DpAll K H vs ds → DpAll K H' vs ds
  | [], _, h => by
    cases h
    exact .nil
  | d :: ds, _, h => by
    cases h with
    | cons a b => exact .cons (dp_mono e d _ a) (dpa_mono e ds _ b)
end
theorem dpm {K : PySem.W.Frag} {H H' : Hp} (e : Same H H') {d : PyData} {v : V} (h : Dp K H v d) : Dp K H' v d := dp_mono e d v h
theorem dpam {K : PySem.W.Frag} {H H' : Hp} (e : Same H H') {ds : List PyData} {vs : List V} (h : DpAll K H vs ds) : DpAll K H' vs ds := dpa_mono e ds vs h
theorem dpa_len {K : PySem.W.Frag} {H : Hp} : ∀ {ds : List PyData} {vs : List V}, DpAll K H vs ds → vs.length = ds.length
  | [], _, .nil => rfl
  | _ :: _, _, .cons _ t => by rw [List.length_cons, List.length_cons, dpa_len t]
theorem dpa_get {K : PySem.W.Frag} {H : Hp} : ∀ {ds : List PyData} {vs : List V} {i : Nat} {d : PyData}, DpAll K H vs ds → ds[i]? = some d → ∃ v, vs[i]? = some v ∧ Dp K H v d
  | [], _, _, _, .nil, h => by simp at h
  | _ :: _, _ :: _, 0, _, .cons a _, h => by
    simp at h
    subst h
    exact ⟨_, rfl, a⟩
  | _ :: ds, _ :: vs, i + 1, d, .cons _ t, h => by
    obtain ⟨v, h1, h2⟩ := dpa_get (i := i) (d := d) t (by simpa using h)
    exact ⟨v, by simpa using h1, h2⟩
theorem dpa_get' {K : PySem.W.Frag} {H : Hp} : ∀ {ds : List PyData} {vs : List V} {i : Nat} {v : V}, DpAll K H vs ds → vs[i]? = some v → ∃ d, ds[i]? = some d ∧ Dp K H v d
  | [], _, _, _, .nil, h => by simp at h
  | _ :: _, _ :: _, 0, _, .cons a _, h => by
    simp at h
    subst h
    exact ⟨_, rfl, a⟩
  | _ :: ds, _ :: vs, i + 1, v, .cons _ t, h => by
    obtain ⟨d, h1, h2⟩ := dpa_get' (i := i) (v := v) t (by simpa using h)
    exact ⟨d, by simpa using h1, h2⟩
theorem dpa_app {K : PySem.W.Frag} {H : Hp} : ∀ {ds es : List PyData} {vs us : List V}, DpAll K H vs ds → DpAll K H us es → DpAll K H (vs ++ us) (ds ++ es)
  | _, _, _, _, .nil, h => h
  | _, _, _, _, .cons a t, h => .cons a (dpa_app t h)
theorem dpa_take {K : PySem.W.Frag} {H : Hp} : ∀ (n : Nat) {ds : List PyData} {vs : List V}, DpAll K H vs ds → DpAll K H (vs.take n) (ds.take n)
  | 0, _, _, _ => .nil
  | _ + 1, _, _, .nil => .nil
  | n + 1, _, _, .cons a t => .cons a (dpa_take n t)
theorem dpa_drop {K : PySem.W.Frag} {H : Hp} : ∀ (n : Nat) {ds : List PyData} {vs : List V}, DpAll K H vs ds → DpAll K H (vs.drop n) (ds.drop n)
  | 0, _, _, h => h
  | _ + 1, _, _, .nil => .nil
  | n + 1, _, _, .cons _ t => dpa_drop n t
theorem dpa_rep {K : PySem.W.Frag} {H : Hp} {ds : List PyData} {vs : List V} (h : DpAll K H vs ds) : ∀ n : Nat, DpAll K H (List.replicate n vs).flatten (List.replicate n ds).flatten
  | 0 => .nil
  | n + 1 => by
    rw [List.replicate_succ, List.replicate_succ, List.flatten_cons, List.flatten_cons]
    exact dpa_app h (dpa_rep h n)

theorem hid_more {ps qs : List Addr} {H : Hp} (h : ∀ b, b ∈ ps → b ∈ qs) : Same (hid qs H) (hid ps H) := fun b o e => by
  obtain ⟨n, e2⟩ := hid_out e
  exact hid_of (fun z => n (h b z)) e2
theorem hid_cons {p : Addr} {ps : List Addr} {H : Hp} : Same (hid (p :: ps) H) (hid ps H) := hid_more fun _ h => List.mem_cons_of_mem _ h
theorem hid_new {p : Addr} {ps : List Addr} {G H : Hp} (hp : G p = none) (e : Same G H) : Same (hid ps G) (hid (p :: ps) H) := fun b o h => by
  obtain ⟨n, e2⟩ := hid_out h
  refine hid_of (fun z => ?_) (e b o e2)
  rcases List.mem_cons.mp z with q | q
  · rw [q, hp] at e2
    cases e2
  · exact n q
inductive Sd where
  | im (d : PyData)
  | ad (a : Addr)
inductive Od where
  | lst (xs : List Sd)
  | ins (C : Addr) (fs : List (Str × Sd))
  | dct (kvs : List (Key × Sd))
  | tup (xs : List Sd)
abbrev De := List (Option Sd)
/-- ps: what the caller keeps for himself; os: objects of one's own -/
structure Om where
  ps : List Addr
  os : List (Addr × Od)
def ads (ω : Om) : List Addr := ω.ps ++ ω.os.map (·.1)
def SdV (K : PySem.W.Frag) (H : Hp) : Sd → V → Prop
  | .im d, v => Dp K H v d
  | .ad a, v => v = .ref a
theorem sdv_mono {K : PySem.W.Frag} {H H' : Hp} (e : Same H H') : ∀ {r : Sd} {v : V}, SdV K H r v → SdV K H' r v
  | .im _, _, h => dpm e h
  | .ad _, _, h => h
theorem dpa_im {K : PySem.W.Frag} {H : Hp} : ∀ {xs : List PyData} {vs : List V}, Paired (SdV K H) (xs.map .im) vs → DpAll K H vs xs
  | [], _, h => by
    cases h
    exact .nil
  | x :: xs, _, h => by
    cases h with
    | cons a b => exact .cons a (dpa_im b)
theorem im_dpa {K : PySem.W.Frag} {H : Hp} : ∀ {xs : List PyData} {vs : List V}, DpAll K H vs xs → Paired (SdV K H) (xs.map .im) vs
  | _, _, .nil => .nil
  | _, _, .cons a b => .cons a (im_dpa b)
def OdV (K : PySem.W.Frag) (Hh H : Hp) (a : Addr) : Od → Prop
  | .lst xs => ∃ vs, H a = some (.lst vs) ∧ Paired (SdV K Hh) xs vs
  | .ins C fs => ∃ dx vs, H a = some (.ins C dx vs) ∧ Paired (fun (p : Str × Sd) (q : Str × V) => p.1 = q.1 ∧ SdV K Hh p.2 q.2) fs vs
  | .dct kvs => ∃ vs, H a = some (.dK vs) ∧ Paired (fun (p : Key × Sd) (q : Key × V) => p.1 = q.1 ∧ SdV K Hh p.2 q.2) kvs vs
  | .tup xs => ∃ vs, H a = some (.tup vs) ∧ Paired (SdV K Hh) xs vs
theorem odv_keep {K : PySem.W.Frag} {G G' H H' : Hp} {a : Addr} (g : ∀ {r : Sd} {v : V}, SdV K G r v → SdV K G' r v) (e : ∀ u, (∀ ps, u ≠ .tbl ps) → H a = some u → H' a = some u) : ∀ {o : Od}, OdV K G H a o → OdV K G' H' a o
  | .lst _, ⟨vs, h, p⟩ => ⟨vs, e _ (fun _ z => by cases z) h, L2.Paired.mapP p fun _ _ q => g q⟩
  | .ins _ _, ⟨dx, vs, h, p⟩ => ⟨dx, vs, e _ (fun _ z => by cases z) h, L2.Paired.mapP p fun _ _ q => ⟨q.1, g q.2⟩⟩
  | .dct _, ⟨vs, h, p⟩ => ⟨vs, e _ (fun _ z => by cases z) h, L2.Paired.mapP p fun _ _ q => ⟨q.1, g q.2⟩⟩
  | .tup _, ⟨vs, h, p⟩ => ⟨vs, e _ (fun _ z => by cases z) h, L2.Paired.mapP p fun _ _ q => g q⟩
theorem odv_mono {K : PySem.W.Frag} {G G' H H' : Hp} {a : Addr} (g : Same G G') (e : Same H H') {o : Od} (h : OdV K G H a o) : OdV K G' H' a o := odv_keep (fun q => sdv_mono g q) (fun u _ q => e a u q) h
theorem odv_at {K : PySem.W.Frag} {G H : Hp} {a : Addr} : ∀ {o : Od}, OdV K G H a o → ∃ u, H a = some u ∧ (∀ ps, u ≠ .tbl ps) ∧ ∀ c q, u ≠ LamX.CodeO c q
  | .lst _, ⟨_, h, _⟩ => ⟨_, h, fun _ z => (by cases z), fun _ _ z => (by unfold LamX.CodeO at z; cases z)⟩
  | .ins _ _, ⟨_, _, h, _⟩ => ⟨_, h, fun _ z => (by cases z), fun _ _ z => (by unfold LamX.CodeO at z; cases z)⟩
  | .dct _, ⟨_, h, _⟩ => ⟨_, h, fun _ z => (by cases z), fun _ _ z => (by unfold LamX.CodeO at z; cases z)⟩
  | .tup _, ⟨_, h, _⟩ => ⟨_, h, fun _ z => (by cases z), fun _ _ z => (by unfold LamX.CodeO at z; cases z)⟩
theorem odv_some {K : PySem.W.Frag} {G H : Hp} {a : Addr} {o : Od} (h : OdV K G H a o) : H a ≠ none := by
  obtain ⟨u, e, _⟩ := odv_at h
  rw [e]
  simp
/-- the objects alone -/
structure Ro (K : PySem.W.Frag) (H : Hp) (ω : Om) : Prop where
  ob : ∀ a o, (a, o) ∈ ω.os → OdV K (hid (ads ω) H) H a o
  nd : (ω.os.map (·.1)).Nodup
  th : ∀ a ∈ ω.ps, H a ≠ none
structure Rl (K : PySem.W.Frag) (H : Hp) (σ : L2.St) (δ : De) (ω : Om) : Prop where
  len : σ.length = δ.length
  sl : ∀ (i : Nat) (r : Sd), δ[i]? = some (some r) → ∃ v, σ[i]? = some (some v) ∧ SdV K (hid (ads ω) H) r v
  ro : Ro K H ω
section
variable {K : PySem.W.Frag} {H H' : Hp} {σ : L2.St} {δ : De} {ω : Om}
theorem there_mono {ps : List Addr} (t : ∀ a ∈ ps, H a ≠ none) (e : Same H H') : ∀ a ∈ ps, H' a ≠ none := fun a h z => by
  have q := t a h
  cases g : H a with
  | none => exact q g
  | some o =>
    rw [e a o g] at z
    cases z
theorem Ro.mono (r : Ro K H ω) (e : Same H H') : Ro K H' ω := ⟨fun a o h => odv_mono (hid_same e) e (r.ob a o h), r.nd, there_mono r.th e⟩
theorem Rl.mono (r : Rl K H σ δ ω) (e : Same H H') : Rl K H' σ δ ω := ⟨r.len, fun i x h => by
  obtain ⟨v, h1, h2⟩ := r.sl i x h
  exact ⟨v, h1, sdv_mono (hid_same e) h2⟩, r.ro.mono e⟩
theorem Ro.there (r : Ro K H ω) : ∀ a ∈ ads ω, H a ≠ none := fun a h => by
  rcases List.mem_append.mp h with h | h
  · exact r.th a h
  · obtain ⟨p, hp, e⟩ := List.mem_map.mp h
    subst e
    exact odv_some (r.ob p.1 p.2 hp)
theorem Ro.nil {ps : List Addr} (h : ∀ a ∈ ps, H a ≠ none) : Ro K H ⟨ps, []⟩ := ⟨fun _ _ h => (List.not_mem_nil h).elim, List.nodup_nil, h⟩
theorem ads_nil {ps : List Addr} : ads ⟨ps, []⟩ = ps := by
  show ps ++ [] = ps
  rw [List.append_nil]
theorem new_out {ps : List Addr} (t : ∀ a ∈ ps, H a ≠ none) {p : Addr} (h : H p = none) : p ∉ ps := fun z => t p z h
theorem Rl.set (r : Rl K H σ δ ω) {i : Nat} {x : Sd} {v : V} (h : SdV K (hid (ads ω) H) x v) : Rl K H (σ.set i (some v)) (δ.set i (some x)) ω := by
  refine ⟨by rw [List.length_set, List.length_set, r.len], fun j y hj => ?_, r.ro⟩
  by_cases hij : i = j
  · subst hij
    have hl : i < δ.length := by
      have := (List.getElem?_eq_some_iff.mp hj).1
      rwa [List.length_set] at this
    rw [List.getElem?_set_self hl] at hj
    cases hj
    exact ⟨v, List.getElem?_set_self (by rw [r.len]; exact hl), h⟩
  · rw [List.getElem?_set_ne hij] at hj
    obtain ⟨u, h1, h2⟩ := r.sl j y hj
    exact ⟨u, by rw [List.getElem?_set_ne hij]; exact h1, h2⟩
/-- a slot is forgotten -/
theorem Rl.forget (r : Rl K H σ δ ω) {i : Nat} {x : Option V} : Rl K H (σ.set i x) (δ.set i none) ω := by
  refine ⟨by rw [List.length_set, List.length_set, r.len], fun j y hj => ?_, r.ro⟩
  by_cases hij : i = j
  · subst hij
    have hl : i < δ.length := by
      have := (List.getElem?_eq_some_iff.mp hj).1
      rwa [List.length_set] at this
    rw [List.getElem?_set_self hl] at hj
    cases hj
  · rw [List.getElem?_set_ne hij] at hj
    obtain ⟨u, h1, h2⟩ := r.sl j y hj
    exact ⟨u, by rw [List.getElem?_set_ne hij]; exact h1, h2⟩
end

section
variable {X : Cx}
@[irreducible] def wpe (X : Cx) (e : Expr) : TE := fun σ H Q => ∀ pins s, Inv X pins σ H s → wpAny (model X.prog X.w) X.A (eval e X.env) (EP X pins σ Q) X.xe s
@[irreducible] def wpt (X : Cx) (e : Expr) : TT := fun σ H Q => ∀ pins s, Inv X pins σ H s → wpAny (model X.prog X.w) X.A (isTrue e X.env (eval e X.env)) (TP X pins σ Q) X.xe s
@[irreducible] def wpa (X : Cx) (es : List Expr) : TA := fun σ H Q => ∀ (pos : Pos) pins s, Inv X pins σ H s → wpAny (model X.prog X.w) X.A (spliced (backTo pos (starEach es X.env))) (AP X pins σ Q) X.xe s
@[irreducible] def wps (X : Cx) (st : Stmt) : TS := fun D σ H => ∀ pins s, Inv X pins σ H s → wpAny (model X.prog X.w) X.A (exec st X.env) (SP X pins D) X.xe s
@[irreducible] def wpss (X : Cx) (st : List Stmt) : TS := fun D σ H => ∀ pins s, Inv X pins σ H s → wpAny (model X.prog X.w) X.A (execs st X.env) (SP X pins D) X.xe s
theorem pe_w {e : Expr} : PE X e (wpe X e) := ⟨fun pins s σ H Q I h => by unfold wpe at h; exact h pins s I⟩
theorem pt_w {e : Expr} : PT X e (wpt X e) := ⟨fun pins s σ H Q I h => by unfold wpt at h; exact h pins s I⟩
theorem pa_w {es : List Expr} : PA X es (wpa X es) := ⟨fun pos pins s σ H Q I h => by unfold wpa at h; exact h pos pins s I⟩
theorem ps_w {st : Stmt} : PS X st (wps X st) := ⟨fun pins s σ H D I h => by unfold wps at h; exact h pins s I⟩
theorem pss_w {st : List Stmt} : PSs X st (wpss X st) := ⟨fun pins s σ H D I h => by unfold wpss at h; exact h pins s I⟩
theorem we {e : Expr} {t : TE} {σ : L2.St} {H : Hp} {Q : VK} (h : PE X e t) (q : t σ H Q) : wpe X e σ H Q := by unfold wpe; exact fun pins s I => h.run pins s σ H Q I q
theorem wt {e : Expr} {t : TT} {σ : L2.St} {H : Hp} {Q : Bool → Hp → Prop} (h : PT X e t) (q : t σ H Q) : wpt X e σ H Q := by unfold wpt; exact fun pins s I => h.run pins s σ H Q I q
theorem wa {es : List Expr} {t : TA} {σ : L2.St} {H : Hp} {Q : List V → Hp → Prop} (h : PA X es t) (q : t σ H Q) : wpa X es σ H Q := by unfold wpa; exact fun pos pins s I => h.run pos pins s σ H Q I q
theorem ws {st : Stmt} {t : TS} {σ : L2.St} {H : Hp} {D : Ends} (h : PS X st t) (q : t D σ H) : wps X st D σ H := by unfold wps; exact fun pins s I => h.run pins s σ H D I q
theorem wss {st : List Stmt} {t : TS} {σ : L2.St} {H : Hp} {D : Ends} (h : PSs X st t) (q : t D σ H) : wpss X st D σ H := by unfold wpss; exact fun pins s I => h.run pins s σ H D I q
end
def PD (X : Cx) (δ : De) (ω : Om) (e : Expr) (d : PyData) : Prop :=
  ∀ σ H, Rl X.K H σ δ ω → ∀ Q : VK, (∀ v H', Same H H' → Dp X.K (hid (ads ω) H') v d → Q v H') → wpe X e σ H Q
def PDs (X : Cx) (δ : De) (ω : Om) (es : List Expr) (ds : List PyData) : Prop :=
  ∀ σ H, Rl X.K H σ δ ω → ∀ Q : List V → Hp → Prop, (∀ vs H', Same H H' → DpAll X.K (hid (ads ω) H') vs ds → Q vs H') → wpa X es σ H Q
def PTd (X : Cx) (δ : De) (ω : Om) (e : Expr) (b : Bool) : Prop :=
  ∀ σ H, Rl X.K H σ δ ω → ∀ Q : Bool → Hp → Prop, (∀ H', Same H H' → Q b H') → wpt X e σ H Q
/-- a list that is read -/
def PL (X : Cx) (δ : De) (ω : Om) (e : Expr) (ds : List PyData) : Prop :=
  ∀ σ H, Rl X.K H σ δ ω → ∀ Q : VK, (∀ p vs H', Same H H' → SqL X.K H' p vs → DpAll X.K (hid (ads ω) H') vs ds → Q (.ref p) H') → wpe X e σ H Q
/-- a new list -/
def PN (X : Cx) (δ : De) (ω : Om) (e : Expr) (ds : List PyData) : Prop :=
  ∀ σ H, Rl X.K H σ δ ω → ∀ Q : VK, (∀ p vs H', Same H H' → H p = none → H' p = some (.lst vs) → DpAll X.K (hid (p :: ads ω) H') vs ds → Q (.ref p) H') → wpe X e σ H Q
section
variable {X : Cx} {δ : De} {ω : Om} {a b c e : Expr} {es : List Expr} {d da db dc dz : PyData} {ds : List PyData} {pos : Pos}
theorem PD.eq (h : PD X δ ω e d) (q : d = dz) : PD X δ ω e dz := q ▸ h
theorem PN.pl (h : PN X δ ω e ds) : PL X δ ω e ds := fun σ H r Q k => h σ H r Q fun p vs H' s _ h1 h2 => k p vs H' s (SqL.of h1) (dpam hid_cons h2)
theorem PN.pd (h : PN X δ ω e ds) : PD X δ ω e (.list ds) := fun σ H r Q k => h σ H r Q fun p vs H' s n h1 h2 => k (.ref p) H' s (.lst (SqL.of (hid_of (new_out r.ro.there n) h1)) (dpam hid_cons h2))
theorem PD.pl (h : PD X δ ω e (.list ds)) : PL X δ ω e ds := fun σ H r Q k => h σ H r Q fun v H' s h1 => by
  cases h1 with
  | lst hs ha => exact k _ _ H' s (hid_sub.seq hs) ha
theorem pds_nil : PDs X δ ω [] [] := fun σ H _ Q k => wa pa_nil (k [] H (Same.refl H) .nil)
theorem pds_cons (ha : PD X δ ω e d) (hr : PDs X δ ω es ds) (hs : starEach (e :: es) X.env = (false, eval e X.env) :: starEach es X.env := by rfl) : PDs X δ ω (e :: es) (d :: ds) := fun σ H r Q k =>
  wa (pa_cons pe_w pa_w hs) (ha σ H r _ fun v H1 s1 d1 => hr σ H1 (r.mono s1) _ fun vs H2 s2 d2 => k (v :: vs) H2 (s1.trans s2) (.cons (dpm (hid_same s2) d1) d2))

theorem pd_var (i : Nat) {x : Str} (hd : δ[i]? = some (some (.im d)) := by rfl) (hN : X.N[i]? = some x := by rfl) (hv : Vis X.env.scope x := by first | exact Or.inl rfl | exact Or.inr (Or.inl rfl) | exact Or.inr (Or.inr rfl))
    (h1 : (x == ("__debug__" : Str)) = false := by decide) (h2 : (x == ("__classdict__" : Str)) = false := by decide) : PD X δ ω (.Name x pos) d := fun σ H r Q k => by
  obtain ⟨v, e1, e2⟩ := r.sl i _ hd
  exact we (pe_var hN hv h1 h2) ⟨v, e1, k v H (Same.refl H) e2⟩
theorem pl_var (i : Nat) {x : Str} {p : Addr} {xs : List PyData} (hm : (p, Od.lst (xs.map .im)) ∈ ω.os) (hd : δ[i]? = some (some (.ad p)) := by rfl) (hN : X.N[i]? = some x := by rfl) (hv : Vis X.env.scope x := by first | exact Or.inl rfl | exact Or.inr (Or.inl rfl) | exact Or.inr (Or.inr rfl))
    (h1 : (x == ("__debug__" : Str)) = false := by decide) (h2 : (x == ("__classdict__" : Str)) = false := by decide) : PL X δ ω (.Name x pos) xs := fun σ H r Q k => by
  obtain ⟨v, e1, e2⟩ := r.sl i _ hd
  obtain ⟨vs, e3, e4⟩ := r.ro.ob _ _ hm
  have e2 : v = .ref p := e2
  subst e2
  exact we (pe_var hN hv h1 h2) ⟨_, e1, k p vs H (Same.refl H) (SqL.of e3) (dpa_im e4)⟩
theorem pd_int {i : Int} {j : Nat} : PD X δ ω (.Constant (.int i) j pos) (.int i) := fun σ H _ Q k => we pe_int (k _ H (Same.refl H) (.int i))
theorem pd_str {x : Str} {j : Nat} : PD X δ ω (.Constant (.str x) j pos) (.str x) := fun σ H _ Q k => we pe_str (k _ H (Same.refl H) (.str x))
theorem pd_bl {x : Bool} {j : Nat} : PD X δ ω (.Constant (.bool x) j pos) (.bool x) := fun σ H _ Q k => we pe_bl (k _ H (Same.refl H) (.bl x))
theorem pd_non {j : Nat} : PD X δ ω (.Constant .none j pos) .none := fun σ H _ Q k => we pe_non (k _ H (Same.refl H) .non)
/-- a constant of the module -/
def GlD (K : PySem.W.Frag) (mg : Str → Option Value) (x : Str) (d : PyData) : Prop := ∃ v u, mg x = some u ∧ RelV v u ∧ ∀ H, Dp K H v d
theorem pd_glob {x : Str} (h : GlD X.K X.mg x d) (hg : Gl X x := by rfl) (hd : (x == ("__debug__" : Str)) = false := by decide) : PD X δ ω (.Name x pos) d := fun σ H _ Q k => by
  obtain ⟨v, u, h1, h2, h3⟩ := h
  exact we (pe_glob hg h1 h2 hd) (k v H (Same.refl H) (h3 _))

def RD (K : PySem.W.Frag) (r : R2) (da db dz : PyData) : Prop :=
  ∀ (ps : List Addr) (x y : V) (H : Hp), (∀ a ∈ ps, H a ≠ none) → Dp K (hid ps H) x da → Dp K (hid ps H) y db → ∀ Q : VK, (∀ z H', Same H H' → Dp K (hid ps H') z dz → Q z H') → r x y H Q
theorem pd_op {op : Operator} {r : R2} (ho : OpR X (binaryOp op) r) (hr : RD X.K r da db dz) (ha : PD X δ ω a da) (hb : PD X δ ω b db) : PD X δ ω (.BinOp a op b pos) dz := fun σ H rl Q k =>
  we (pe_op ho pe_w pe_w) (ha σ H rl _ fun x H1 s1 d1 => hb σ H1 (rl.mono s1) _ fun y H2 s2 d2 =>
    hr _ x y H2 (there_mono rl.ro.there (s1.trans s2)) (dpm (hid_same s2) d1) d2 Q fun z H3 s3 d3 => k z H3 ((s1.trans s2).trans s3) d3)
theorem pd_cmp {op : CmpOp} {r : R2} (ho : OpR X (compareOp op) r) (hr : RD X.K r da db dz) (ha : PD X δ ω a da) (hb : PD X δ ω b db) (hm : behindInMarks op b = false) : PD X δ ω (.Compare a [op] [b] pos) dz := fun σ H rl Q k =>
  we (pe_cmpR ho pe_w pe_w hm) (ha σ H rl _ fun x H1 s1 d1 => hb σ H1 (rl.mono s1) _ fun y H2 s2 d2 =>
    hr _ x y H2 (there_mono rl.ro.there (s1.trans s2)) (dpm (hid_same s2) d1) d2 Q fun z H3 s3 d3 => k z H3 ((s1.trans s2).trans s3) d3)
theorem rd_I0 {K : PySem.W.Frag} {g : Int → Int → Int} {i j : Int} : RD K (rI0 fun i j => .int (g i j)) (.int i) (.int j) (.int (g i j)) := fun ps x y H _ hx hy Q k => by
  cases hx
  cases hy
  exact ⟨i, j, rfl, rfl, k _ H (Same.refl H) (.int _)⟩
theorem rd_B0 {K : PySem.W.Frag} {g : Int → Int → Bool} {i j : Int} : RD K (rI0 fun i j => .bl (g i j)) (.int i) (.int j) (.bool (g i j)) := fun ps x y H _ hx hy Q k => by
  cases hx
  cases hy
  exact ⟨i, j, rfl, rfl, k _ H (Same.refl H) (.bl _)⟩
theorem rd_I {K : PySem.W.Frag} {C : Int → Int → Prop} {g : Int → Int → Int} {i j : Int} (hc : C i j) : RD K (rI C fun i j => .int (g i j)) (.int i) (.int j) (.int (g i j)) := fun ps x y H _ hx hy Q k => by
  cases hx
  cases hy
  exact ⟨i, j, rfl, rfl, hc, k _ H (Same.refl H) (.int _)⟩
theorem pd_add {i j : Int} (ha : PD X δ ω a (.int i)) (hb : PD X δ ω b (.int j)) : PD X δ ω (.BinOp a .Add b pos) (.int (i + j)) := pd_op op_add rd_I0 ha hb
theorem pd_sub {i j : Int} (ha : PD X δ ω a (.int i)) (hb : PD X δ ω b (.int j)) : PD X δ ω (.BinOp a .Sub b pos) (.int (i - j)) := pd_op op_sub rd_I0 ha hb
theorem pd_mul {i j : Int} (hc : CMulW i j) (ha : PD X δ ω a (.int i)) (hb : PD X δ ω b (.int j)) : PD X δ ω (.BinOp a .Mult b pos) (.int (i * j)) := pd_op op_mulW (rd_I hc) ha hb
theorem pd_mulS {i j : Int} (hc : CMul i j) (ha : PD X δ ω a (.int i)) (hb : PD X δ ω b (.int j)) : PD X δ ω (.BinOp a .Mult b pos) (.int (i * j)) := pd_op op_mul (rd_I hc) ha hb
theorem pd_mod {i j : Int} (hc : 0 < j) (ha : PD X δ ω a (.int i)) (hb : PD X δ ω b (.int j)) : PD X δ ω (.BinOp a .Mod b pos) (.int (i % j)) := pd_op op_mod (rd_I (C := fun _ j => 0 < j) hc) ha hb
theorem pd_fdiv {i j : Int} (hc : CDivW i j) (ha : PD X δ ω a (.int i)) (hb : PD X δ ω b (.int j)) : PD X δ ω (.BinOp a .FloorDiv b pos) (.int (i / j)) := pd_op op_fdivW (rd_I hc) ha hb
theorem pd_pow {i j : Int} (hc : CPow i j) (ha : PD X δ ω a (.int i)) (hb : PD X δ ω b (.int j)) : PD X δ ω (.BinOp a .Pow b pos) (.int (i ^ j.toNat)) := pd_op op_pow (rd_I hc) ha hb
theorem pd_lt {i j : Int} (ha : PD X δ ω a (.int i)) (hb : PD X δ ω b (.int j)) : PD X δ ω (.Compare a [.Lt] [b] pos) (.bool (decide (i < j))) := pd_cmp op_lt rd_B0 ha hb (nomark _)
theorem pd_ge {i j : Int} (ha : PD X δ ω a (.int i)) (hb : PD X δ ω b (.int j)) : PD X δ ω (.Compare a [.GtE] [b] pos) (.bool (decide (j ≤ i))) := pd_cmp op_ge rd_B0 ha hb (nomark _)
theorem rd_eqI {K : PySem.W.Frag} {i j : Int} : RD K rEq (.int i) (.int j) (.bool (decide (i = j))) := fun ps x y H _ hx hy Q k => by
  cases hx
  cases hy
  refine ⟨rfl, ?_⟩
  have e : decide (V.int i = V.int j) = decide (i = j) := by
    by_cases c : i = j
    · subst c
      simp
    · rw [decide_eq_false c, decide_eq_false (fun z => c (V.int.inj z))]
  rw [e]
  exact k _ H (Same.refl H) (.bl _)
theorem rd_neI {K : PySem.W.Frag} {i j : Int} : RD K rNe (.int i) (.int j) (.bool (!decide (i = j))) := fun ps x y H _ hx hy Q k => by
  cases hx
  cases hy
  refine ⟨rfl, ?_⟩
  have e : decide (V.int i = V.int j) = decide (i = j) := by
    by_cases c : i = j
    · subst c
      simp
    · rw [decide_eq_false c, decide_eq_false (fun z => c (V.int.inj z))]
  rw [e]
  exact k _ H (Same.refl H) (.bl _)
theorem pd_eqI {i j : Int} (ha : PD X δ ω a (.int i)) (hb : PD X δ ω b (.int j)) : PD X δ ω (.Compare a [.Eq] [b] pos) (.bool (decide (i = j))) := pd_cmp op_eq rd_eqI ha hb (nomark _)
theorem pd_neI {i j : Int} (ha : PD X δ ω a (.int i)) (hb : PD X δ ω b (.int j)) : PD X δ ω (.Compare a [.NotEq] [b] pos) (.bool (!decide (i = j))) := pd_cmp op_ne rd_neI ha hb (nomark _)
theorem rd_eqD {K : PySem.W.Frag} (h1 : SeqAt.shaped da = true) (h2 : SeqAt.shaped db = true) : RD K (rEqD K) da db (.bool (PyData.eqv da db)) := fun ps x y H _ hx hy Q k =>
  ⟨da, db, dpm hid_sub hx, dpm hid_sub hy, h1, h2, k _ H (Same.refl H) (.bl _)⟩
theorem rd_neD {K : PySem.W.Frag} (h1 : SeqAt.shaped da = true) (h2 : SeqAt.shaped db = true) : RD K (rNeD K) da db (.bool (!PyData.eqv da db)) := fun ps x y H _ hx hy Q k =>
  ⟨da, db, dpm hid_sub hx, dpm hid_sub hy, h1, h2, k _ H (Same.refl H) (.bl _)⟩
theorem pd_tup {x1} (h : PDs X δ ω es ds) (hz : ds.length ≤ 1000 := by first | decide | (simp only [List.length_cons, List.length_nil]; omega)) : PD X δ ω (.Tuple es x1 pos) (.tuple ds) := fun σ H r Q k =>
  we (pe_tup pa_w) (h σ H r _ fun vs H1 s1 d1 => ⟨Nat.le_of_lt (small1000 (by rw [dpa_len d1]; exact hz)), fun p hp => k _ _ (s1.trans (same_new hp))
    (.tup (SqT.of (hid_of (new_out (there_mono r.ro.there s1) hp) upd_same)) (dpam (hid_same (same_new hp)) d1))⟩)
theorem pn_lst (h : PDs X δ ω es ds) (hz : ds.length ≤ 1000 := by first | decide | (simp only [List.length_cons, List.length_nil]; omega)) : PN X δ ω (.List es pos) ds := fun σ H r Q k =>
  we (pe_lst pa_w) (h σ H r _ fun vs H1 s1 d1 => ⟨Nat.le_of_lt (small1000 (by rw [dpa_len d1]; exact hz)), fun p hp => k p vs _ (s1.trans (same_new hp)) (s1.free hp) upd_same (dpam (hid_new hp (same_new hp)) d1)⟩)
theorem atI_dp {K : PySem.W.Frag} {H : Hp} {ds : List PyData} {vs : List V} {i : Int} (h : DpAll K H vs ds) (ha : atI ds i = some d) : ∃ v, atI vs i = some v ∧ Dp K H v d := by
  unfold atI at ha ⊢
  rw [dpa_len h]
  cases e : ixN ds.length i with
  | none =>
    rw [e] at ha
    cases ha
  | some j =>
    rw [e] at ha
    exact dpa_get h ha
theorem atI0 {α : Type} {x : α} {xs : List α} : atI (x :: xs) 0 = some x := atI_nat (j := 0) rfl
theorem atI1 {α : Type} {x y : α} {xs : List α} : atI (x :: y :: xs) 1 = some y := atI_nat (j := 1) rfl
theorem pd_ixT {i : Int} (ha : PD X δ ω a (.tuple ds)) (hb : PD X δ ω b (.int i)) (hi : atI ds i = some d) (hs : PlainIx b := by exact fun _ _ => rfl) : PD X δ ω (.Subscript a b pos) d := fun σ H rl Q k =>
  we (pe_ix ix_tup pe_w pe_w hs) (ha σ H rl _ fun x H1 s1 d1 => hb σ H1 (rl.mono s1) _ fun y H2 s2 d2 => by
    cases d2
    cases d1 with
    | tup hs ha =>
      obtain ⟨v, h1, h2⟩ := atI_dp ha hi
      exact ⟨_, _, _, v, rfl, rfl, same_sqt s2 (same_sqt hid_sub hs), h1, k v H2 (s1.trans s2) (dpm (hid_same s2) h2)⟩)
theorem pd_ixL {i : Int} (ha : PL X δ ω a ds) (hb : PD X δ ω b (.int i)) (hi : atI ds i = some d) (hs : PlainIx b := by exact fun _ _ => rfl) : PD X δ ω (.Subscript a b pos) d := fun σ H rl Q k =>
  we (pe_ix ix_list pe_w pe_w hs) (ha σ H rl _ fun p vs H1 s1 h1 d1 => hb σ H1 (rl.mono s1) _ fun y H2 s2 d2 => by
    cases d2
    obtain ⟨v, h3, h4⟩ := atI_dp d1 hi
    exact ⟨_, _, _, v, rfl, rfl, s2.seq h1, h3, k v H2 (s1.trans s2) (dpm (hid_same s2) h4)⟩)
theorem pd_lenT {p : Pos} (hm : X.mg "len" = none) (ha : PD X δ ω a (.tuple ds)) (hg : Gl X "len" := by rfl) (hs : starEach [a] X.env = (false, eval a X.env) :: starEach [] X.env := by rfl) : PD X δ ω (.Call (.Name "len" p) [a] [] pos) (.int ds.length) := fun σ H rl Q k =>
  we (pe_callB call_len_seq hg hm PySem.boot_len (pa_cons pe_w pa_nil hs) (he := hs)) (ha σ H rl _ fun x H1 s1 d1 => by
    cases d1 with
    | tup h1 h2 =>
      refine ⟨_, _, rfl, .inr (same_sqt hid_sub h1), ?_⟩
      rw [dpa_len h2]
      exact k _ H1 s1 (.int _))
theorem pd_lenL {p : Pos} (hm : X.mg "len" = none) (ha : PL X δ ω a ds) (hg : Gl X "len" := by rfl) (hs : starEach [a] X.env = (false, eval a X.env) :: starEach [] X.env := by rfl) : PD X δ ω (.Call (.Name "len" p) [a] [] pos) (.int ds.length) := fun σ H rl Q k =>
  we (pe_callB call_len_seq hg hm PySem.boot_len (pa_cons pe_w pa_nil hs) (he := hs)) (ha σ H rl _ fun x vs H1 s1 h1 d1 => by
    refine ⟨_, _, rfl, .inl h1, ?_⟩
    rw [dpa_len d1]
    exact k _ H1 s1 (.int _))
theorem pd_lenS {p : Pos} {z : Str} (hm : X.mg "len" = none) (ha : PD X δ ω a (.str z)) (hz : z.length ≤ 100000) (hg : Gl X "len" := by rfl) (hs : starEach [a] X.env = (false, eval a X.env) :: starEach [] X.env := by rfl) : PD X δ ω (.Call (.Name "len" p) [a] [] pos) (.int z.length) := fun σ H rl Q k =>
  we (pe_callB call_len hg hm PySem.boot_len (pa_cons pe_w pa_nil hs) (he := hs)) (ha σ H rl _ fun x H1 s1 d1 => by
    cases d1
    exact ⟨_, _, rfl, ⟨Nat.le_trans hz (by decide), rfl⟩, k _ H1 s1 (.int _)⟩)

theorem pt_bool {k : Bool} (h : PD X δ ω e (.bool k)) (he : ∀ whole, isTrue e X.env whole = (do let v ← whole; standAt e.pos; holding [v] (truthy v)) := by intro _; rfl) : PTd X δ ω e k := fun σ H r Q q =>
  wt (pt_val pe_w he) (h σ H r _ fun v H1 s1 d1 => by
    cases d1
    exact ⟨_, rfl, q H1 s1⟩)
theorem pt_cmpd {op : CmpOp} {r : R2} {k : Bool} (ho : OpR X (compareOp op) r) (hr : RD X.K r da db (.bool k)) (ha : PD X δ ω a da) (hb : PD X δ ω b db) (hm : behindInMarks op b = false) : PTd X δ ω (.Compare a [op] [b] pos) k := fun σ H rl Q q =>
  wt (pt_cmpR ho pe_w pe_w hm) (ha σ H rl _ fun x H1 s1 d1 => hb σ H1 (rl.mono s1) _ fun y H2 s2 d2 =>
    hr _ x y H2 (there_mono rl.ro.there (s1.trans s2)) (dpm (hid_same s2) d1) d2 _ fun z H3 s3 d3 => by
      cases d3
      exact ⟨_, rfl, q H3 ((s1.trans s2).trans s3)⟩)
theorem pt_notd {k : Bool} (h : PTd X δ ω e k) : PTd X δ ω (.UnaryOp .Not e pos) (!k) := fun σ H r Q q => wt (pt_not pt_w) (h σ H r _ fun H1 s1 => q H1 s1)
theorem pt_truT {k : Bool} (h : PD X δ ω e (.tuple ds)) (hk : k = !ds.isEmpty) (he : ∀ whole, isTrue e X.env whole = (do let v ← whole; standAt e.pos; holding [v] (truthy v)) := by intro _; rfl) : PTd X δ ω e k := fun σ H r Q q =>
  wt (pt_truth pe_w he) (h σ H r _ fun v H1 s1 d1 => by
    cases d1 with
    | tup h1 h2 =>
      refine ⟨k, ?_, q H1 s1⟩
      refine .inr (.inl ⟨_, same_sqt hid_sub h1, ?_⟩)
      rw [hk]
      cases h2 <;> rfl)
end
end FP

namespace FP
open PySem PySem.Spec PyProof.Rows L2
@[irreducible] def wpw (X : Cx) (e : Expr) : TT := fun σ H Q => ∀ (whole : Sem Value) pins s, Inv X pins σ H s → wpAny (model X.prog X.w) X.A (isTrue e X.env whole) (TP X pins σ Q) X.xe s
theorem pw_w {X : Cx} {e : Expr} : PW X e (wpw X e) := ⟨fun whole pins s σ H Q I h => by unfold wpw at h; exact h whole pins s I⟩
theorem ww {X : Cx} {e : Expr} {t : TT} {σ : L2.St} {H : Hp} {Q : Bool → Hp → Prop} (h : PW X e t) (q : t σ H Q) : wpw X e σ H Q := by unfold wpw; exact fun whole pins s I => h.run whole pins s σ H Q I q
def PWd (X : Cx) (δ : De) (ω : Om) (e : Expr) (b : Bool) : Prop :=
  ∀ σ H, Rl X.K H σ δ ω → ∀ Q : Bool → Hp → Prop, (∀ H', Same H H' → Q b H') → wpw X e σ H Q
section
variable {X : Cx} {δ : De} {ω : Om} {a b c e : Expr} {es r : List Expr} {d da db dc dz : PyData} {ds : List PyData} {pos : Pos} {k x y : Bool}
theorem PWd.pt (h : PWd X δ ω e k) : PTd X δ ω e k := fun σ H rl Q q => wt (PW.pt pw_w) (h σ H rl Q q)
theorem pw_and1d (h : PTd X δ ω a k) : PWd X δ ω (.BoolOp .And [a] pos) k := fun σ H rl Q q => ww (pw_and1 pt_w) (h σ H rl Q q)
theorem pw_or1d (h : PTd X δ ω a k) : PWd X δ ω (.BoolOp .Or [a] pos) k := fun σ H rl Q q => ww (pw_or1 pt_w) (h σ H rl Q q)
theorem pw_andd (h : PTd X δ ω a x) (h2 : x = true → PWd X δ ω (.BoolOp .And (b :: r) pos) y) : PWd X δ ω (.BoolOp .And (a :: b :: r) pos) (x && y) := fun σ H rl Q q =>
  ww (pw_and pt_w pw_w) (h σ H rl _ fun H1 s1 => by
    cases x with
    | true => exact iteT (h2 rfl σ H1 (rl.mono s1) Q fun H2 s2 => q H2 (s1.trans s2))
    | false => exact iteF (q H1 s1))
theorem pw_ord (h : PTd X δ ω a x) (h2 : x = false → PWd X δ ω (.BoolOp .Or (b :: r) pos) y) : PWd X δ ω (.BoolOp .Or (a :: b :: r) pos) (x || y) := fun σ H rl Q q =>
  ww (pw_or pt_w pw_w) (h σ H rl _ fun H1 s1 => by
    cases x with
    | true => exact iteT (q H1 s1)
    | false => exact iteF (h2 rfl σ H1 (rl.mono s1) Q fun H2 s2 => q H2 (s1.trans s2)))
theorem pw_orT (h : PTd X δ ω a true) : PWd X δ ω (.BoolOp .Or (a :: b :: r) pos) true := fun σ H rl Q q => ww (pw_or pt_w pw_w) (h σ H rl _ fun H1 s1 => iteT (q H1 s1))
theorem pw_andF (h : PTd X δ ω a false) : PWd X δ ω (.BoolOp .And (a :: b :: r) pos) false := fun σ H rl Q q => ww (pw_and pt_w pw_w) (h σ H rl _ fun H1 s1 => iteF (q H1 s1))
theorem pd_one {op : PySem.BoolOp} (h : PD X δ ω a d) : PD X δ ω (.BoolOp op [a] pos) d := fun σ H rl Q q => we (pe_one pe_w) (h σ H rl Q q)
theorem pd_and (h : PD X δ ω a (.bool x)) (h2 : x = true → PD X δ ω (.BoolOp .And (b :: r) pos) (.bool y)) : PD X δ ω (.BoolOp .And (a :: b :: r) pos) (.bool (x && y)) := fun σ H rl Q q =>
  we (pe_and pe_w pe_w) (h σ H rl _ fun v H1 s1 d1 => by
    cases d1
    refine ⟨x, rfl, ?_⟩
    cases x with
    | true => exact iteT (h2 rfl σ H1 (rl.mono s1) Q fun v H2 s2 => q v H2 (s1.trans s2))
    | false => exact iteF (q _ H1 s1 (.bl _)))
theorem pd_andF (h : PD X δ ω a (.bool false)) : PD X δ ω (.BoolOp .And (a :: b :: r) pos) (.bool false) := fun σ H rl Q q =>
  we (pe_and pe_w pe_w) (h σ H rl _ fun v H1 s1 d1 => by
    cases d1
    exact ⟨false, rfl, iteF (q _ H1 s1 (.bl _))⟩)
theorem pd_not (h : PD X δ ω a (.bool x)) : PD X δ ω (.UnaryOp .Not a pos) (.bool (!x)) := fun σ H rl Q q =>
  we (pe_not pe_w) (h σ H rl _ fun v H1 s1 d1 => by
    cases d1
    exact ⟨x, rfl, q _ H1 s1 (.bl _)⟩)
theorem pd_if (h : PTd X δ ω c k) (h1 : k = true → PD X δ ω a d) (h2 : k = false → PD X δ ω b d) : PD X δ ω (.IfExp c a b pos) d := fun σ H rl Q q =>
  we (pe_ifExp pt_w pe_w pe_w) (h σ H rl _ fun H1 s1 => by
    cases k with
    | true => exact iteT (h1 rfl σ H1 (rl.mono s1) Q fun v H2 s2 => q v H2 (s1.trans s2))
    | false => exact iteF (h2 rfl σ H1 (rl.mono s1) Q fun v H2 s2 => q v H2 (s1.trans s2)))
/-- a < b < c -/
theorem pd_chain {op op' : CmpOp} {r r' : R2} (ho : OpR X (compareOp op) r) (ho' : OpR X (compareOp op') r') (hr : RD X.K r da db (.bool x)) (hr' : x = true → RD X.K r' db dc (.bool y)) (ha : PD X δ ω a da) (hb : PD X δ ω b db) (hc : x = true → PD X δ ω c dc)
    (h1 : lastMarks [op, op'] [b, c] = false := by with_unfolding_all rfl) : PD X δ ω (.Compare a [op, op'] [b, c] pos) (.bool (x && y)) := fun σ H rl Q q =>
  we (pe_chain ho ho' pe_w pe_w pe_w h1) (ha σ H rl _ fun u H1 s1 d1 => hb σ H1 (rl.mono s1) _ fun v H2 s2 d2 =>
    hr _ u v H2 (there_mono rl.ro.there (s1.trans s2)) (dpm (hid_same s2) d1) d2 _ fun z H3 s3 d3 => by
      cases d3
      refine ⟨x, rfl, ?_⟩
      cases x with
      | true => exact iteT (hc rfl σ H3 (rl.mono ((s1.trans s2).trans s3)) _ fun t H4 s4 d4 => hr' rfl _ v t H4 (there_mono rl.ro.there (((s1.trans s2).trans s3).trans s4)) (dpm (hid_same (s3.trans s4)) d2) d4 Q fun z H5 s5 d5 => q z H5 ((((s1.trans s2).trans s3).trans s4).trans s5) d5)
      | false => exact iteF (q _ H3 ((s1.trans s2).trans s3) (.bl _)))

def RC (K : PySem.W.Frag) (r : List V → Hp → VK → Prop) (ds : List PyData) (dz : PyData) : Prop :=
  ∀ (ps : List Addr) (vs : List V) (H : Hp), (∀ a ∈ ps, H a ≠ none) → DpAll K (hid ps H) vs ds → ∀ Q : VK, (∀ z H', Same H H' → Dp K (hid ps H') z dz → Q z H') → r vs H Q
theorem pd_callB {id : String} {r : List V → Hp → VK → Prop} {x : Str} {p : Pos} (hc : CallR X (.builtin id) r) (hr : RC X.K r ds dz) (hm : X.mg x = none) (hv : bootBuiltins x = some (.builtin id)) (ha : PDs X δ ω (a :: es) ds) (hg : Gl X x := by rfl)
    (hn : x ≠ "__name__" := by decide) (hdb : (x == ("__debug__" : Str)) = false := by decide) (he : starEach (a :: es) X.env = (false, eval a X.env) :: starEach es X.env := by rfl) (hpl : (backTo pos (starEach es X.env)).any (·.1) = false := by rfl) :
    PD X δ ω (.Call (.Name x p) (a :: es) [] pos) dz := fun σ H rl Q k =>
  we (pe_callB hc hg hm hv pa_w hn hdb he hpl) (ha σ H rl _ fun vs H1 s1 d1 => hr _ vs H1 (there_mono rl.ro.there s1) d1 Q fun z H2 s2 d2 => k z H2 (s1.trans s2) d2)
theorem pd_callTy {T : String} {r : List V → Hp → VK → Prop} {x : Str} {p : Pos} (hc : CallR X (.type T) r) (hr : RC X.K r ds dz) (hm : X.mg x = none) (hv : bootBuiltins x = some (.type T)) (ha : PDs X δ ω (a :: es) ds) (hg : Gl X x := by rfl)
    (hn : x ≠ "__name__" := by decide) (hdb : (x == ("__debug__" : Str)) = false := by decide) (he : starEach (a :: es) X.env = (false, eval a X.env) :: starEach es X.env := by rfl) (hpl : (backTo pos (starEach es X.env)).any (·.1) = false := by rfl) :
    PD X δ ω (.Call (.Name x p) (a :: es) [] pos) dz := fun σ H rl Q k =>
  we (pe_callTy hc hg hm hv pa_w hn hdb he hpl) (ha σ H rl _ fun vs H1 s1 d1 => hr _ vs H1 (there_mono rl.ro.there s1) d1 Q fun z H2 s2 d2 => k z H2 (s1.trans s2) d2)
theorem pd_min {p : Pos} {i j : Int} (hc : X.calm = true) (hm : X.mg "min" = none) (ha : PD X δ ω a (.int i)) (hb : PD X δ ω b (.int j)) (hg : Gl X "min" := by rfl)
    (he : starEach [a, b] X.env = (false, eval a X.env) :: starEach [b] X.env := by rfl) (hb2 : starEach [b] X.env = (false, eval b X.env) :: starEach [] X.env := by rfl) (hpl : (backTo pos (starEach [b] X.env)).any (·.1) = false := by rfl) :
    PD X δ ω (.Call (.Name "min" p) [a, b] [] pos) (.int (if j < i then j else i)) :=
  pd_callB (call_min2 hc) (fun ps vs H _ h Q k => by
    cases h with
    | cons h1 h2 =>
      cases h2 with
      | cons h3 h4 =>
        cases h4
        cases h1
        cases h3
        exact ⟨i, j, rfl, k _ H (Same.refl H) (.int _)⟩) hm (by decide +kernel) (pds_cons ha (pds_cons hb pds_nil hb2) he) hg (by decide) (by decide) he hpl
theorem pd_max {p : Pos} {i j : Int} (hc : X.calm = true) (hm : X.mg "max" = none) (ha : PD X δ ω a (.int i)) (hb : PD X δ ω b (.int j)) (hg : Gl X "max" := by rfl)
    (he : starEach [a, b] X.env = (false, eval a X.env) :: starEach [b] X.env := by rfl) (hb2 : starEach [b] X.env = (false, eval b X.env) :: starEach [] X.env := by rfl) (hpl : (backTo pos (starEach [b] X.env)).any (·.1) = false := by rfl) :
    PD X δ ω (.Call (.Name "max" p) [a, b] [] pos) (.int (if j > i then j else i)) :=
  pd_callB (call_max2 hc) (fun ps vs H _ h Q k => by
    cases h with
    | cons h1 h2 =>
      cases h2 with
      | cons h3 h4 =>
        cases h4
        cases h1
        cases h3
        exact ⟨i, j, rfl, k _ H (Same.refl H) (.int _)⟩) hm (by decide +kernel) (pds_cons ha (pds_cons hb pds_nil hb2) he) hg (by decide) (by decide) he hpl
theorem pd_ord {p : Pos} {z : Str} {i : Nat} (hm : X.mg "ord" = none) (ha : PD X δ ω a (.str z)) (hz : z.length = 1) (hi : z.cps.getD 0 0 = i) (hg : Gl X "ord" := by rfl)
    (he : starEach [a] X.env = (false, eval a X.env) :: starEach [] X.env := by rfl) : PD X δ ω (.Call (.Name "ord" p) [a] [] pos) (.int (i : Nat)) :=
  pd_callB call_ord (fun ps vs H _ h Q k => by
    cases h with
    | cons h1 h2 =>
      cases h2
      cases h1
      refine ⟨z, rfl, hz, ?_⟩
      rw [hi]
      exact k _ H (Same.refl H) (.int _)) hm (by decide +kernel) (pds_cons ha pds_nil he) hg (by decide) (by decide) he (by rfl)
theorem dpa_bl {K : PySem.W.Frag} {H : Hp} : ∀ {bs : List Bool} {vs : List V}, DpAll K H vs (bs.map .bool) → vs = bs.map V.bl
  | [], _, h => by
    cases h
    rfl
  | b :: bs, _, h => by
    cases h with
    | cons x y =>
      cases x
      rw [List.map_cons, dpa_bl y]
/-- all of a list of truths -/
theorem pd_all {p : Pos} {bs : List Bool} (hc : X.calm = true) (hm : X.mg "all" = none) (ha : PL X δ ω a (bs.map .bool)) (hg : Gl X "all" := by rfl)
    (he : starEach [a] X.env = (false, eval a X.env) :: starEach [] X.env := by rfl) : PD X δ ω (.Call (.Name "all" p) [a] [] pos) (.bool (bs.all id)) := fun σ H rl Q k =>
  we (pe_callB (cr_all hc) hg hm (by decide +kernel) (pa_cons pe_w pa_nil he) (he := he)) (ha σ H rl _ fun q vs H1 s1 h1 d1 => by
    have ev : vs = bs.map V.bl := dpa_bl d1
    subst ev
    exact ⟨q, bs, rfl, h1, k _ H1 s1 (.bl _)⟩)
/-- tuple of a list -/
theorem pd_tupleL {p : Pos} (hm : X.mg "tuple" = none) (ha : PL X δ ω a ds) (hg : Gl X "tuple" := by rfl) (he : starEach [a] X.env = (false, eval a X.env) :: starEach [] X.env := by rfl) : PD X δ ω (.Call (.Name "tuple" p) [a] [] pos) (.tuple ds) := fun σ H rl Q k =>
  we (pe_callTy call_tuple_of hg hm (by decide +kernel) (pa_cons pe_w pa_nil he) (he := he)) (ha σ H rl _ fun q vs H1 s1 h1 d1 =>
    ⟨q, vs, rfl, .inl ⟨h1, fun l hl => k _ _ (s1.trans (same_new hl)) (.tup (SqT.of (hid_of (new_out (there_mono rl.ro.there s1) hl) upd_same)) (dpam (hid_same (same_new hl)) d1))⟩⟩)
/-- isinstance of a built-in class -/
def kindD : PyData → String
  | .none => "NoneType"
  | .bool _ => "bool"
  | .int _ => "int"
  | .str _ => "str"
  | .list _ => "list"
  | .tuple _ => "tuple"
  | .dict _ => "dict"
theorem tyx_of {K : PySem.W.Frag} {H : Hp} {v : V} (h : Dp K H v d) : TyX K H v (.type (kindD d)) := by
  cases h with
  | non => exact .base .non
  | bl b => exact .base (.bl b)
  | int i => exact .base (.int i)
  | str x => exact .base (.str x)
  | lst h _ =>
    rcases h with (h | ⟨o, h⟩) | ⟨o, its, n, h, c, _⟩
    · exact .base (.lst h)
    · exact .base (.frz h)
    · exact .kList h c
  | tup h _ =>
    rcases h with (h | ⟨o, h⟩) | ⟨o, its, n, h, c, _⟩
    · exact .base (.tup h)
    · exact .fTuple h
    · exact .kTuple h c
theorem pd_isi {p p2 : Pos} {t : String} {x : Str} (hm : X.mg "isinstance" = none) (hmx : X.mg x = none) (hbx : bootBuiltins x = some (.type t)) (ha : PD X δ ω a d) (hk : kitB (kindD d) t = some k) (hg : Gl X "isinstance" := by rfl) (hgx : Gl X x := by rfl)
    (hnx : x ≠ "__name__" := by decide) (hdx : (x == ("__debug__" : Str)) = false := by decide)
    (he : starEach [a, .Name x p2] X.env = (false, eval a X.env) :: starEach [.Name x p2] X.env := by rfl) (he2 : starEach [.Name x p2] X.env = (false, eval (.Name x p2) X.env) :: starEach [] X.env := by rfl) (hpl : (backTo pos (starEach [.Name x p2] X.env)).any (·.1) = false := by rfl) :
    PD X δ ω (.Call (.Name "isinstance" p) [a, .Name x p2] [] pos) (.bool k) := fun σ H rl Q q =>
  we (pe_callB call_isi hg hm (by decide +kernel) (pa_cons pe_w (pa_cons (pe_bltn (v := .ty t) hgx hmx hbx rfl hnx hdx) pa_nil he2) he) (he := he) (hpl := hpl)) (ha σ H rl _ fun v H1 s1 d1 =>
    ⟨v, .ty t, _, _, k, rfl, .ty t, tyx_of (dpm hid_sub d1), kit_ty hk, q _ H1 s1 (.bl _)⟩)
end
end FP

namespace FP
open PySem PySem.Spec PyProof.Rows L2
inductive Rs where
  | ok (d : PyData)
  | er (C : Addr)
def RsQ (K : PySem.W.Frag) (ps : List Addr) (H : Hp) (Q : VK) (E : XK) : Rs → Prop
  | .ok d => ∀ v H', Same H H' → Dp K (hid ps H') v d → Q v H'
  | .er C => ∀ H', Same H H' → E (.ref C) none H'
def spD (K : PySem.W.Frag) (fr : List PyData → Rs → Prop) : Sp := fun vs H Q E => ∃ ps ds r, (∀ a ∈ ps, H a ≠ none) ∧ DpAll K (hid ps H) vs ds ∧ fr ds r ∧ RsQ K ps H Q E r
structure DefOk (P : Program) (w : World) (K : PySem.W.Frag) (mg : Str → Option Value) (base : Heap) (k : Nat) (x : Str) (fr : List PyData → Rs → Prop) : Prop where
  ex : ∃ f fd ps, FnOk P w K mg base (L2N.CX P w) k f fd ps (spD K fr) ∧ mg x = some (.ref f) ∧ PySem.W.keepIn K (.ref f) = true ∧ L2.Binds K fd ps []
theorem DefOk.mono {P : Program} {w : World} {K : PySem.W.Frag} {mg : Str → Option Value} {base : Heap} {j k : Nat} {x : Str} {fr : List PyData → Rs → Prop} (G : DefOk P w K mg base j x fr) (h : j ≤ k) : DefOk P w K mg base k x fr := by
  obtain ⟨f, fd, ps, F, m, kp, b⟩ := G.ex
  exact ⟨f, fd, ps, F.mono h, m, kp, b⟩
theorem passN {X : Cx} : Passes (L2N.CX X.prog X.w) X E0 := fun _ _ _ _ _ _ _ h => by
  obtain ⟨_, _, _, _, _, _, _, _, _, _, _, _, z⟩ := h
  cases z
section
variable {X : Cx} {δ : De} {ω : Om} {a b c e : Expr} {es r : List Expr} {d da db dc dz : PyData} {ds : List PyData} {pos p : Pos} {k : Nat} {x : Str} {fr : List PyData → Rs → Prop}
theorem pd_call (G : DefOk X.prog X.w X.K X.mg X.base k x fr) (hr : Room k X.A) (ha : PDs X δ ω (a :: es) ds) (hf : fr ds (.ok d)) (hg : Gl X x := by rfl) (hdb : (x == ("__debug__" : Str)) = false := by decide)
    (he : starEach (a :: es) X.env = (false, eval a X.env) :: starEach es X.env := by rfl) (hpl : (backTo pos (starEach es X.env)).any (·.1) = false := by rfl) : PD X δ ω (.Call (.Name x p) (a :: es) [] pos) d := fun σ H rl Q q => by
  obtain ⟨f, fd, ps, F, m, kp, b⟩ := G.ex
  refine we (pe_call F hr hg m kp b .nil passN pa_w hdb he hpl) (ha σ H rl _ fun vs H1 s1 d1 => ?_)
  show spD X.K fr (vs ++ []) H1 Q E0
  rw [List.append_nil]
  exact ⟨ads ω, ds, .ok d, there_mono rl.ro.there s1, d1, hf, fun v H' s' d' => q v H' (s1.trans s') d'⟩
end

/-- what stays in a loop -/
def Pt (T : List (Addr × Str)) (o : HO) : Prop := T = [] ∨ ∀ ps, o ≠ .tbl ps
def Ke (T : List (Addr × Str)) (G H : Hp) : Prop := ∀ b o, G b = some o → Pt T o → H b = some o
theorem ke_same {T : List (Addr × Str)} {G H : Hp} (h : Same G H) : Ke T G H := fun b o e _ => h b o e
theorem pt_tup {T : List (Addr × Str)} {xs : List V} : Pt T (.tup xs) := .inr fun _ z => by cases z
theorem pt_lst {T : List (Addr × Str)} {xs : List V} : Pt T (.lst xs) := .inr fun _ z => by cases z
theorem pt_frz {T : List (Addr × Str)} {o : Obj} {u : HO} : Pt T (.frz o u) := .inr fun _ z => by cases z
theorem ke_sqt {T : List (Addr × Str)} {K : PySem.W.Frag} {G H : Hp} {a : Addr} {xs : List V} (e : Ke T G H) (h : SqT K G a xs) : SqT K H a xs := by
  rcases h with (h | ⟨o, h⟩) | h
  · exact .inl (.inl (e _ _ h pt_tup))
  · exact .inl (.inr ⟨o, e _ _ h pt_frz⟩)
  · exact .inr h
theorem ke_sql {T : List (Addr × Str)} {K : PySem.W.Frag} {G H : Hp} {a : Addr} {xs : List V} (e : Ke T G H) (h : SqL K G a xs) : SqL K H a xs := by
  rcases h with (h | ⟨o, h⟩) | h
  · exact .inl (.inl (e _ _ h pt_lst))
  · exact .inl (.inr ⟨o, e _ _ h pt_frz⟩)
  · exact .inr h
mutual
theorem dp_ke {T : List (Addr × Str)} {K : PySem.W.Frag} {H H' : Hp} (e : Ke T H H') : ∀ (d : PyData) (v : V), Dp K H v d → Dp K H' v d
  | .none, _, h => by
    cases h
    exact .non
  | .bool b, _, h => by
    cases h
    exact .bl b
  | .int i, _, h => by
    cases h
    exact .int i
  | .str x, _, h => by
    cases h
    exact .str x
  | .list ds, _, h => by
    cases h with
    | lst hs ha => exact .lst (ke_sql e hs) (dpa_ke e ds _ ha)
  | .tuple ds, _, h => by
    cases h with
    | tup hs ha => exact .tup (ke_sqt e hs) (dpa_ke e ds _ ha)
  | .dict kvs, _, h => by cases h
theorem dpa_ke {T : List (Addr × Str)} {K : PySem.W.Frag} {H H' : Hp} (e : Ke T H H') : ∀ (ds : List PyData) (vs : List V), DpAll K H vs ds → DpAll K H' vs ds
  | [], _, h => by
    cases h
    exact .nil
  | d :: ds, _, h => by
    cases h with
    | cons a b => exact .cons (dp_ke e d _ a) (dpa_ke e ds _ b)
end
def Wk (K : PySem.W.Frag) (G : Hp → Prop) (B : Hp) (J : It) (items : List PyData) : Prop :=
  ∀ H', G H' → (∀ i, i < items.length → J.go i H') ∧ J.stop items.length H' ∧ ∀ i x H'', i < items.length → J.yld i H' x H'' → H'' = H' ∧ ∃ d, items[i]? = some d ∧ Dp K B x d
def PWs (X : Cx) (δ : De) (ω : Om) (tg iter : Expr) (items : List PyData) : Prop :=
  ∃ wi, PI X tg iter wi ∧ ∀ σ H, Rl X.K H σ δ ω → ∀ R : It → Hp → Prop, (∀ J H', Same H H' → Wk X.K (Same H') (hid (ads ω) H') J items → R J H') → wi σ H R
def PWk (X : Cx) (δ : De) (ω : Om) (tg iter : Expr) (items : List PyData) : Prop :=
  ∃ wi, PI X tg iter wi ∧ ∀ σ H, Rl X.K H σ δ ω → ∀ R : It → Hp → Prop, (∀ J H', Same H H' → (∀ T, Wk X.K (Ke T (hid (ads ω) H')) (hid (ads ω) H') J items) → R J H') → wi σ H R
section
variable {X : Cx} {δ : De} {ω : Om} {a b c e tg iter : Expr} {es r : List Expr} {d da db dc dz : PyData} {ds : List PyData} {pos p : Pos} {k : Nat} {x : Str}
theorem PWk.ws (h : PWk X δ ω tg iter ds) : PWs X δ ω tg iter ds := by
  obtain ⟨wi, h1, h2⟩ := h
  exact ⟨wi, h1, fun σ H rl R k => h2 σ H rl R fun J H' s w => k J H' s fun H2 s2 => w [] H2 (ke_same ((hid_same s2).trans hid_sub))⟩
theorem wk_tup (h : PD X δ ω iter (.tuple ds)) : PWk X δ ω tg iter ds := by
  refine ⟨iTup X.K (wpe X iter), pi_tup pe_w, fun σ H rl R k => h σ H rl _ fun v H1 s1 d1 => ?_⟩
  cases d1 with
  | tup h1 h2 =>
    rename_i q vs
    refine ⟨q, rfl, ⟨vs, same_sqt hid_sub h1⟩, k _ H1 s1 fun T H2 g => ⟨fun i hi => ?_, ⟨vs, ke_sqt g h1, Nat.le_of_eq (dpa_len h2)⟩, fun i y H3 _ z => ?_⟩⟩
    · obtain ⟨y, e1, _⟩ := dpa_get h2 (List.getElem?_eq_getElem hi)
      exact ⟨vs, y, ke_sqt g h1, e1⟩
    · obtain ⟨e1, e2⟩ := z
      exact ⟨e1, dpa_get' h2 (e2 vs (ke_sqt g h1))⟩
theorem wk_lst (h : PD X δ ω iter (.list ds)) : PWk X δ ω tg iter ds := by
  refine ⟨iList X.K (wpe X iter), pi_list pe_w, fun σ H rl R k => h σ H rl _ fun v H1 s1 d1 => ?_⟩
  cases d1 with
  | lst h1 h2 =>
    rename_i q vs
    refine ⟨q, rfl, ⟨vs, hid_sub.seq h1⟩, k _ H1 s1 fun T H2 g => ⟨fun i hi => ?_, ⟨vs, ke_sql g h1, Nat.le_of_eq (dpa_len h2)⟩, fun i y H3 _ z => ?_⟩⟩
    · obtain ⟨y, e1, _⟩ := dpa_get h2 (List.getElem?_eq_getElem hi)
      exact ⟨vs, y, ke_sql g h1, e1⟩
    · obtain ⟨e1, e2⟩ := z
      exact ⟨e1, dpa_get' h2 (e2 vs (ke_sql g h1))⟩
theorem ws_lst (h : PL X δ ω iter ds) : PWs X δ ω tg iter ds := by
  refine ⟨iList X.K (wpe X iter), pi_list pe_w, fun σ H rl R k => h σ H rl _ fun q vs H1 s1 h1 h2 => ?_⟩
  refine ⟨q, rfl, ⟨vs, h1⟩, k _ H1 s1 fun H2 g => ⟨fun i hi => ?_, ⟨vs, g.seq h1, Nat.le_of_eq (dpa_len h2)⟩, fun i y H3 _ z => ?_⟩⟩
  · obtain ⟨y, e1, _⟩ := dpa_get h2 (List.getElem?_eq_getElem hi)
    exact ⟨vs, y, g.seq h1, e1⟩
  · obtain ⟨e1, e2⟩ := z
    exact ⟨e1, dpa_get' h2 (e2 vs (g.seq h1))⟩
def signsD (z : Str) : List PyData := z.cps.toList.map fun c => .str ⟨#[c]⟩
theorem wk_str {z : Str} (h : PD X δ ω iter (.str z)) : PWk X δ ω tg iter (signsD z) := by
  refine ⟨iStr (wpe X iter), pi_str pe_w, fun σ H rl R k => h σ H rl _ fun v H1 s1 d1 => ?_⟩
  cases d1
  have hl : (signsD z).length = z.cps.size := by
    unfold signsD
    rw [List.length_map, Array.length_toList]
  refine ⟨z, rfl, k _ H1 s1 fun T H2 g => ⟨fun i hi => ?_, ?_, fun i y H3 hi w => ?_⟩⟩
  · show i < z.cps.size
    rw [← hl]
    exact hi
  · show z.cps.size ≤ (signsD z).length
    rw [hl]
    exact Nat.le_refl _
  · obtain ⟨e1, c, e2, e3⟩ := w
    subst e3
    refine ⟨e1, .str ⟨#[c]⟩, ?_, .str _⟩
    unfold signsD
    rw [List.getElem?_map, Array.getElem?_toList, e2]
    rfl
def rangeD (lo : Int) (n : Nat) : List PyData := (List.range n).map fun (i : Nat) => .int (lo + (i : Int))
theorem rangeD_len (lo : Int) (n : Nat) : (rangeD lo n).length = n := by
  unfold rangeD
  rw [List.length_map, List.length_range]
theorem rangeD_get {lo : Int} {n i : Nat} (h : i < n) : (rangeD lo n)[i]? = some (.int (lo + (i : Int))) := by
  unfold rangeD
  rw [List.getElem?_map, List.getElem?_range h]
  rfl
theorem wk_range1 {j : Int} (hm : X.mg "range" = none) (ha : PD X δ ω a (.int j)) (hj : 0 ≤ j ∧ j ≤ 100000) (hg : Gl X "range" := by rfl) (hs : starEach [a] X.env = [(false, eval a X.env)] := by rfl) (he : starEach [a] X.env = (false, eval a X.env) :: starEach [] X.env := by rfl) :
    PWk X δ ω tg (.Call (.Name "range" p) [a] [] pos) (rangeD 0 j.toNat) := by
  refine ⟨_, pi_range1 hg hm (pa_cons pe_w pa_nil he) hs, fun σ H rl R k => ha σ H rl _ fun v H1 s1 d1 => ?_⟩
  cases d1
  refine ⟨j, rfl, by omega, by omega, k _ H1 s1 fun T H2 g => ⟨fun i hi => ?_, ?_, fun i y H3 hi w => ?_⟩⟩
  · rw [rangeD_len] at hi
    exact hi
  · show j.toNat ≤ (rangeD 0 j.toNat).length
    rw [rangeD_len]
    exact Nat.le_refl _
  · obtain ⟨e1, e2⟩ := w
    subst e2
    rw [rangeD_len] at hi
    exact ⟨e1, _, rangeD_get hi, .int _⟩

/-- the list under way, as an object of one's own -/
def omD (ω : Om) (D : Addr) (o : Od) : Om := ⟨ω.ps, (D, o) :: ω.os⟩
theorem ads_omD {ω : Om} {D : Addr} {o : Od} {b : Addr} : b ∈ ads (omD ω D o) ↔ b = D ∨ b ∈ ads ω := by
  show b ∈ ω.ps ++ D :: ω.os.map (·.1) ↔ b = D ∨ b ∈ ω.ps ++ ω.os.map (·.1)
  simp only [List.mem_append, List.mem_cons]
  constructor
  · rintro (h | h | h)
    · exact .inr (.inl h)
    · exact .inl h
    · exact .inr (.inr h)
  · rintro (h | h | h)
    · exact .inr (.inl h)
    · exact .inl h
    · exact .inr (.inr h)
/-- from a heap that has no D to one that has it: what was seen is seen -/
theorem hid_in {ω : Om} {D : Addr} {o : Od} {G H : Hp} (hD : G D = none) (e : Same G H) : Same (hid (ads ω) G) (hid (ads (omD ω D o)) H) := fun b u h => by
  obtain ⟨n, e2⟩ := hid_out h
  refine hid_of (fun z => ?_) (e b u e2)
  rcases ads_omD.mp z with q | q
  · rw [q, hD] at e2
    cases e2
  · exact n q
theorem Rl.omD {K : PySem.W.Frag} {G H : Hp} {σ : L2.St} {δ : De} {D : Addr} {xs : List PyData} {vs : List V} (rl : Rl K G σ δ ω) (hD : G D = none) (e : Same G H) (hv : H D = some (.lst vs)) (hx : DpAll K (hid (ads (omD ω D (.lst (xs.map .im)))) H) vs xs) :
    Rl K H σ δ (omD ω D (.lst (xs.map .im))) := by
  refine ⟨rl.len, fun i r h => ?_, ?_, ?_, there_mono rl.ro.th e⟩
  · obtain ⟨v, h1, h2⟩ := rl.sl i r h
    exact ⟨v, h1, sdv_mono (hid_in hD e) h2⟩
  · intro a o h
    rcases List.mem_cons.mp h with q | q
    · cases q
      exact ⟨vs, hv, im_dpa hx⟩
    · exact odv_mono (hid_in hD e) e (rl.ro.ob a o q)
  · show (D :: ω.os.map (·.1)).Nodup
    refine List.nodup_cons.mpr ⟨fun z => ?_, rl.ro.nd⟩
    exact rl.ro.there D (List.mem_append_right _ z) hD
/-- a write at D leaves what is seen beside it -/
theorem hid_upd {ω : Om} {D : Addr} {o o' : Od} {u : HO} {H : Hp} : Same (hid (ads (FP.omD ω D o)) H) (hid (ads (FP.omD ω D o')) (upd H D u)) := fun b x h => by
  obtain ⟨n, e⟩ := hid_out h
  have nb : b ≠ D := fun z => n (ads_omD.mpr (.inl z))
  refine hid_of (fun z => n ?_) (by rw [upd_ne nb]; exact e)
  rcases ads_omD.mp z with q | q
  · exact ads_omD.mpr (.inl q)
  · exact ads_omD.mpr (.inr q)
theorem same_upd_new {G H : Hp} {D : Addr} {u : HO} (hD : G D = none) (e : Same G H) : Same G (upd H D u) := fun b x h => by
  rw [upd_ne (ne_of_none h hD)]
  exact e b x h
/-- the comprehension's reading: no test -/
theorem lc_data {σ : L2.St} {H : Hp} {Q : VK} {wi : TI} {j : Nat} {te : TE} {items ys : List PyData} (rl : Rl X.K H σ δ ω)
    (hw : ∀ R : It → Hp → Prop, (∀ J H', Same H H' → Wk X.K (Same H') (hid (ads ω) H') J items → R J H') → wi σ H R) (hl : ys.length = items.length) (hz : items.length ≤ 10000)
    (he : ∀ (i : Nat) (d y : PyData), items[i]? = some d → ys[i]? = some y → ∀ D o σ' H', Rl X.K H' σ' (δ.set j (some (.im d))) (omD ω D o) → ∀ Q : VK, (∀ v H2, Same H' H2 → Dp X.K (hid (ads (omD ω D o)) H2) v y → Q v H2) → te σ' H' Q)
    (k : ∀ p vs H', Same H H' → H p = none → H' p = some (.lst vs) → DpAll X.K (hid (p :: ads ω) H') vs ys → Q (.ref p) H') :
    tLc wi (gName j) tYes te [j] σ H Q := by
  refine hw _ fun J H1 s1 w => fun D hD => ?_
  have rl1 := rl.mono s1
  refine ⟨fun i m H2 => m = items.length - i ∧ i ≤ items.length ∧ Same H1 H2 ∧ ∃ vs, H2 D = some (.lst vs) ∧ DpAll X.K (hid (ads (FP.omD ω D (.lst ((ys.take i).map .im)))) H2) vs (ys.take i), ⟨items.length, by omega, Nat.zero_le _, same_new hD, [], upd_same, ?_⟩, ?_⟩
  · rw [List.take_zero]
    exact .nil
  rintro i m H2 ⟨em, hi, s2, vs, hv, dv⟩
  obtain ⟨go, stop, yld⟩ := w H2 s2
  by_cases hlt : i < items.length
  · refine .inr ⟨go i hlt, fun H3 => Same H1 H3 ∧ ∃ vs, H3 D = some (.lst vs) ∧ DpAll X.K (hid (ads (FP.omD ω D (.lst ((ys.take (i + 1)).map .im)))) H3) vs (ys.take (i + 1)), fun H3 ⟨s3, h3⟩ => ⟨items.length - (i + 1), by omega, rfl, hlt, s3, h3⟩, fun x H3 hy => ?_⟩
    obtain ⟨e3, d, ed, dx⟩ := yld i x H3 hlt hy
    subst e3
    have hys : i < ys.length := by omega
    have ey : ys[i]? = some ys[i] := List.getElem?_eq_getElem hys
    show wipe (((wipe σ [j])).set j (some x)) [j] = wipe σ [j] ∧ _
    have ew : wipe σ [j] = σ.set j none := rfl
    refine ⟨?_, ?_⟩
    · show (((σ.set j none).set j (some x)).set j none) = σ.set j none
      rw [List.set_set, List.set_set]
    show te (((wipe σ [j])).set j (some x)) H3 _
    rw [ew, List.set_set]
    have rl3 := (rl1.omD hD s2 hv dv)
    have rl4 := rl3.set (i := j) (x := .im d) (v := x) (dpm (hid_in hD s2) dx)
    refine he i d ys[i] ed ey D _ _ _ rl4 _ fun v H4 s4 d4 => ⟨vs, s4 D _ hv, ?_, same_upd_new hD (s2.trans s4), vs ++ [v], upd_same, ?_⟩
    · rw [dpa_len dv, List.length_take]
      refine Nat.lt_of_le_of_lt (Nat.min_le_left _ _) (Nat.lt_of_lt_of_le hlt (Nat.le_trans hz ?_))
      rw [sizeLine_eq]
      decide
    · rw [List.take_add_one, ey]
      exact dpa_app (dpam hid_upd (dpam (hid_same s4) dv)) (.cons (dpm hid_upd d4) .nil)
  · have e : i = items.length := by omega
    subst e
    refine .inl ⟨stop, ?_⟩
    rw [List.take_of_length_le (by omega)] at dv
    exact k D vs H2 (s1.trans s2) (s1.free hD) hv (dpam (hid_more fun b h => ads_omD.mpr (List.mem_cons.mp h)) dv)
/-- [elt for tg in iter] -/
def tBlk (X : Cx) (scope : Scope) (elt : Expr) : TE := fun σ H Q => ∀ (s : Shared) (H0 : Hp) (C : Addr) (cl : List (Str × Addr)) (fp : List Addr), wpe (X.blk s H0 scope (compEnvC scope cl C X.env) fp) elt σ H Q
theorem pe_blk {scope : Scope} {elt : Expr} (s : Shared) (H0 : Hp) (C : Addr) (cl : List (Str × Addr)) (fp : List Addr) : PE (X.blk s H0 scope (compEnvC scope cl C X.env) fp) elt (tBlk X scope elt) := ⟨fun pins s' σ H Q I h => pe_w.run pins s' σ H Q I (h s H0 C cl fp)⟩
theorem pn_lc {elt : Expr} {scope : Scope} {y : Str} {j : Nat} {items ys : List PyData} (hc : X.calm = true) (hN : X.N.Nodup) (hw : PWs X δ ω tg iter items) (hl : ys.length = items.length) (ok : BlkOk X.N X.env.scope scope [(y, j)])
    (hg : ∀ (s : Shared) (H : Hp) (C : Addr) (cl : List (Str × Addr)) (fp : List Addr), PG (X.blk s H scope (compEnvC scope cl C X.env) fp) tg (gName j))
    (he : ∀ (i : Nat) (d y : PyData), items[i]? = some d → ys[i]? = some y → ∀ D o (s : Shared) (H : Hp) (C : Addr) (cl : List (Str × Addr)) (fp : List Addr), PD (X.blk s H scope (compEnvC scope cl C X.env) fp) (δ.set j (some (.im d))) (omD ω D o) elt y)
    (hz : items.length ≤ 10000) (hs : ∀ x, foldedSetIterable iter X.env x = pure x := by intro _; rfl) : PN X δ ω (.ListComp elt [⟨tg, iter, [], 0⟩] scope pos) ys := fun σ H rl Q k => by
  obtain ⟨wi, h1, h2⟩ := hw
  refine we (pe_lc (own := [(y, j)]) hc hN h1 ok hg (fun _ _ _ _ _ => pts_nil) (fun s H0 C cl fp => pe_blk s H0 C cl fp) hs) ?_
  exact lc_data rl (fun R kk => h2 σ H rl R kk) hl hz (fun i d y hd hy D o σ' H' rl' Q' k' s H0 C cl fp => he i d y hd hy D o s H0 C cl fp σ' H' rl' Q' k') k
end
end FP

namespace FP
open PySem PySem.Spec PyProof.Rows L2
abbrev osA (ω : Om) : List Addr := ω.os.map (·.1)
structure Stp (T : List (Addr × Str)) (ω ω' : Om) (H H' : Hp) : Prop where
  keep : ∀ b o, H b = some o → b ∉ osA ω → Pt T o → H' b = some o
  new : ∀ a, a ∈ osA ω' → a ∈ osA ω ∨ ∀ o, H a = some o → ¬ Pt T o
  ps : ω'.ps = ω.ps
  tab : LamX.Tabs T H → LamX.Tabs T H'
theorem Stp.of {T : List (Addr × Str)} {ω : Om} {H H' : Hp} (s : Same H H') : Stp T ω ω H H' := ⟨fun b o h _ _ => s b o h, fun a h => .inl h, rfl, fun t => t.ext s⟩
theorem Stp.refl {T : List (Addr × Str)} {ω : Om} {H : Hp} : Stp T ω ω H H := .of (Same.refl H)
theorem Stp.trans {T : List (Addr × Str)} {ω ω1 ω2 : Om} {H H1 H2 : Hp} (a : Stp T ω ω1 H H1) (b : Stp T ω1 ω2 H1 H2) : Stp T ω ω2 H H2 := by
  refine ⟨fun c o h n p => ?_, fun c h => ?_, b.ps.trans a.ps, fun t => b.tab (a.tab t)⟩
  · refine b.keep c o (a.keep c o h n p) (fun z => ?_) p
    rcases a.new c z with q | q
    · exact n q
    · exact q o h p
  · rcases b.new c h with q | q
    · exact a.new c q
    · by_cases hc : c ∈ osA ω
      · exact .inl hc
      · exact .inr fun o h p => q o (a.keep c o h hc p) p
/-- what was seen is seen behind a step -/
theorem Stp.seen {T : List (Addr × Str)} {ω ω' : Om} {H H' : Hp} (s : Stp T ω ω' H H') : Ke T (hid (ads ω) H) (hid (ads ω') H') := fun b o h p => by
  obtain ⟨n, e⟩ := hid_out h
  have n2 : b ∉ osA ω := fun z => n (List.mem_append_right _ z)
  refine hid_of (fun z => ?_) (s.keep b o e n2 p)
  rcases List.mem_append.mp z with q | q
  · rw [s.ps] at q
    exact n (List.mem_append_left _ q)
  · rcases s.new b q with q | q
    · exact n2 q
    · exact q o e p
inductive Out where
  | nx (δ : De) (ω : Om)
  | rt (r : Sd) (ω : Om)
  | ex (C : Addr) (ω : Om)
  | bk (δ : De) (ω : Om)
  | ct (δ : De) (ω : Om)
structure Kt (X : Cx) (W : WX) (T : List (Addr × Str)) (ω : Om) (H : Hp) (D : Ends) (R : Out → Prop) : Prop where
  nx : ∀ δ' ω' σ' H', R (.nx δ' ω') → Stp T ω ω' H H' → Rl X.K H' σ' δ' ω' → D.nx σ' H'
  rt : ∀ r ω' v H', R (.rt r ω') → Stp T ω ω' H H' → Ro X.K H' ω' → SdV X.K (hid (ads ω') H') r v → D.rt v H'
  ex : ∀ C ω' σ' H', R (.ex C ω') → Stp T ω ω' H H' → Ro X.K H' ω' → W (.ref C) none σ' H'
  bk : ∀ δ' ω' σ' H', R (.bk δ' ω') → Stp T ω ω' H H' → Rl X.K H' σ' δ' ω' → D.bk σ' H'
  ct : ∀ δ' ω' σ' H', R (.ct δ' ω') → Stp T ω ω' H H' → Rl X.K H' σ' δ' ω' → D.ct σ' H'
theorem Kt.step {X : Cx} {W : WX} {T : List (Addr × Str)} {ω ω1 : Om} {H H1 : Hp} {D : Ends} {R : Out → Prop} (k : Kt X W T ω H D R) (s : Stp T ω ω1 H H1) : Kt X W T ω1 H1 D R :=
  ⟨fun δ' ω' σ' H' r q l => k.nx δ' ω' σ' H' r (s.trans q) l, fun r ω' v H' h q l z => k.rt r ω' v H' h (s.trans q) l z, fun C ω' σ' H' h q l => k.ex C ω' σ' H' h (s.trans q) l, fun δ' ω' σ' H' r q l => k.bk δ' ω' σ' H' r (s.trans q) l, fun δ' ω' σ' H' r q l => k.ct δ' ω' σ' H' r (s.trans q) l⟩
def S1 (X : Cx) (W : WX) (T : List (Addr × Str)) (st : Stmt) (δ : De) (ω : Om) (R : Out → Prop) : Prop := ∀ σ H D, Rl X.K H σ δ ω → LamX.Tabs T H → Kt X W T ω H D R → wps X st D σ H
def SD (X : Cx) (W : WX) (T : List (Addr × Str)) (ss : List Stmt) (δ : De) (ω : Om) (R : Out → Prop) : Prop := ∀ σ H D, Rl X.K H σ δ ω → LamX.Tabs T H → Kt X W T ω H D R → wpss X ss D σ H
/-- an expression that may write, or raise -/
def EX (X : Cx) (W : WX) (T : List (Addr × Str)) (e : Expr) (δ : De) (ω : Om) (R : Out → Prop) : Prop := ∀ σ H, Rl X.K H σ δ ω → LamX.Tabs T H → ∀ Q : VK,
  (∀ r ω' v H', R (.rt r ω') → Stp T ω ω' H H' → Rl X.K H' σ δ ω' → SdV X.K (hid (ads ω') H') r v → Q v H') → (∀ C ω' σ' H', R (.ex C ω') → Stp T ω ω' H H' → Ro X.K H' ω' → W (.ref C) none σ' H') → wpe X e σ H Q
/-- then the rest -/
def Nxt (X : Cx) (W : WX) (T : List (Addr × Str)) (ss : List Stmt) (R : Out → Prop) : Out → Prop
  | .nx δ ω => SD X W T ss δ ω R
  | o => R o
/-- the value goes to what follows -/
def Val1 (V : Sd → Om → Prop) (R : Out → Prop) : Out → Prop
  | .rt r ω => V r ω
  | .ex C ω => R (.ex C ω)
  | _ => False
section
variable {X : Cx} {W : WX} {T : List (Addr × Str)} {δ : De} {ω : Om} {a b c e tg iter : Expr} {es r : List Expr} {d da db dc dz : PyData} {ds : List PyData} {pos p : Pos} {k : Nat} {x : Str} {R : Out → Prop} {st : Stmt} {ss sa sb : List Stmt}
theorem sd_nil (h : R (.nx δ ω)) : SD X W T [] δ ω R := fun σ H D rl t k => wss pss_nil (k.nx δ ω σ H h .refl rl)
theorem sd_cons (h : S1 X W T st δ ω (Nxt X W T ss R)) : SD X W T (st :: ss) δ ω R := fun σ H D rl t k =>
  wss (pss_cons ps_w pss_w) (h σ H _ rl t ⟨fun δ' ω' σ' H' z q l => z σ' H' D l (q.tab t) (k.step q), k.rt, k.ex, k.bk, k.ct⟩)
theorem PD.ex (h : PD X δ ω e d) (hR : R (.rt (.im d) ω)) : EX X W T e δ ω R := fun σ H rl t Q q _ => h σ H rl Q fun v H' s dv => q _ ω v H' hR (.of s) (rl.mono s) dv
theorem s1_set (i : Nat) {x : Str} {pos' : Pos} (he : EX X W T e δ ω (Val1 (fun r ω' => R (.nx (δ.set i (some r)) ω')) R)) (hN : X.N.Nodup) (hi : X.N[i]? = some x := by rfl) (hx : Loc X.env.scope x := by first | exact Or.inl rfl | exact Or.inr rfl) (hs : swapsWith e (some (.Name x pos')) pos.line X.env = pure false := by rfl)
    (hf : X.fn x = true ∨ X.env.scope.names.lookup x = some .local := by first | exact .inl rfl | exact .inr rfl | assumption) : S1 X W T (.Assign [.Name x pos'] e pos) δ ω R := fun σ H D rl t k =>
  ws (ps_set hN hi hx pe_w hs hf) (he σ H rl t _ (fun r ω' v H' z q l dv => k.nx _ ω' _ H' z q (l.set dv)) (fun C ω' σ' H' z q l => k.ex C ω' σ' H' z q l))
theorem sd_set (i : Nat) {x : Str} {pos' : Pos} (he : PD X δ ω e d) (hk : SD X W T ss (δ.set i (some (.im d))) ω R) (hN : X.N.Nodup) (hi : X.N[i]? = some x := by rfl) (hx : Loc X.env.scope x := by first | exact Or.inl rfl | exact Or.inr rfl) (hs : swapsWith e (some (.Name x pos')) pos.line X.env = pure false := by rfl)
    (hf : X.fn x = true ∨ X.env.scope.names.lookup x = some .local := by first | exact .inl rfl | exact .inr rfl | assumption) : SD X W T (.Assign [.Name x pos'] e pos :: ss) δ ω R :=
  sd_cons (s1_set i (he.ex (show Val1 _ _ _ from hk)) hN hi hx hs hf)
/-- a new list of one's own -/
theorem sd_own (i : Nat) {x : Str} {pos' : Pos} (he : PN X δ ω e ds) (hk : ∀ D, SD X W T ss (δ.set i (some (.ad D))) (omD ω D (.lst (ds.map .im))) R) (hN : X.N.Nodup) (hi : X.N[i]? = some x := by rfl) (hx : Loc X.env.scope x := by first | exact Or.inl rfl | exact Or.inr rfl) (hs : swapsWith e (some (.Name x pos')) pos.line X.env = pure false := by rfl)
    (hf : X.fn x = true ∨ X.env.scope.names.lookup x = some .local := by first | exact .inl rfl | exact .inr rfl | assumption) : SD X W T (.Assign [.Name x pos'] e pos :: ss) δ ω R :=
  sd_cons fun σ H D rl t k => ws (ps_set hN hi hx pe_w hs hf) (he σ H rl _ fun q vs H' s n hv dv => by
    have nq := new_out rl.ro.there n
    have rl2 : Rl X.K H' σ δ (omD ω q (.lst (ds.map .im))) := rl.omD n s hv (dpam (hid_more fun b h => List.mem_cons.mpr (ads_omD.mp h)) dv)
    exact k.nx _ _ _ H' (hk q) ⟨fun b o h _ _ => s b o h, fun a h => by
      rcases List.mem_cons.mp (show a ∈ q :: ω.os.map (·.1) from h) with z | z
      · exact .inr fun o ho => by
          rw [z, n] at ho
          cases ho
      · exact .inl z, rfl, fun t => t.ext s⟩ (rl2.set (x := .ad q) (v := .ref q) rfl))
/-- x = [elt for tg in iter], on one line, x a local -/
theorem sd_setLc (i : Nat) {x : Str} {py cpos : Pos} {elt : Expr} {scope : Scope} {y : Str} {j : Nat} {items ys : List PyData} (hc : X.calm = true) (hN : X.N.Nodup) (hw : PWs X δ ω tg iter items) (hl : ys.length = items.length) (ok : BlkOk X.N X.env.scope scope [(y, j)])
    (hg : ∀ (s : Shared) (H : Hp) (C : Addr) (cl : List (Str × Addr)) (fp : List Addr), PG (X.blk s H scope (compEnvC scope cl C X.env) fp) tg (gName j))
    (he : ∀ (i : Nat) (d y : PyData), items[i]? = some d → ys[i]? = some y → ∀ D o (s : Shared) (H : Hp) (C : Addr) (cl : List (Str × Addr)) (fp : List Addr), PD (X.blk s H scope (compEnvC scope cl C X.env) fp) (δ.set j (some (.im d))) (omD ω D o) elt y)
    (hz : items.length ≤ 10000) (hsw : swapsWith (.ListComp elt [⟨tg, iter, [], 0⟩] scope cpos) (some (.Name x py)) pos.line X.env = pure true) (hk : SD X W T ss (δ.set i (some (.im (.list ys)))) ω R)
    (hy : X.N[i]? = some x := by rfl) (hyl : X.env.scope.names.lookup x = some .local := by rfl) (hs : ∀ x, foldedSetIterable iter X.env x = pure x := by intro _; rfl) : SD X W T (.Assign [.Name x py] (.ListComp elt [⟨tg, iter, [], 0⟩] scope cpos) pos :: ss) δ ω R := by
  obtain ⟨wi, h1, h2⟩ := hw
  refine sd_cons fun σ H D rl t k => ws (ps_setLc (i := i) (own := [(y, j)]) hc hN hy hyl hsw h1 ok hg (fun _ _ _ _ _ => pts_nil) (fun s H0 C cl fp => pe_blk s H0 C cl fp) hs) ?_
  refine lc_data rl (fun R kk => h2 σ H rl R kk) hl hz (fun i d y hd hy D o σ' H' rl' Q' k' s H0 C cl fp => he i d y hd hy D o s H0 C cl fp σ' H' rl' Q' k') (fun p vs H' s n hv dv => ?_)
  exact k.nx _ ω _ H' hk (.of s) ((rl.mono s).set (x := .im (.list ys)) (v := .ref p) (.lst (SqL.of (hid_of (new_out rl.ro.there n) hv)) (dpam hid_cons dv)))
theorem sd_ret (he : PD X δ ω e d) (hR : R (.rt (.im d) ω)) : SD X W T (.Return (some e) pos :: ss) δ ω R :=
  sd_cons fun σ H D rl t k => ws (ps_ret pe_w) (he σ H rl _ fun v H' s dv => k.rt _ ω v H' hR (.of s) (rl.ro.mono s) dv)
theorem sd_retX (he : EX X W T e δ ω R) : SD X W T (.Return (some e) pos :: ss) δ ω R :=
  sd_cons fun σ H D rl t k => ws (ps_ret pe_w) (he σ H rl t _ (fun r ω' v H' z q l dv => k.rt r ω' v H' z q l.ro dv) (fun C ω' σ' H' z q l => k.ex C ω' σ' H' z q l))
theorem sd_exprX (he : EX X W T e δ ω (Val1 (fun _ ω' => SD X W T ss δ ω' R) R)) (hs : swapsWith e none pos.line X.env = pure false := by rfl) : SD X W T (.Expr e pos :: ss) δ ω R :=
  sd_cons fun σ H D rl t k => ws (ps_expr pe_w hs) (he σ H rl t _ (fun r ω' v H' z q l dv => k.nx δ ω' σ H' z q l) (fun C ω' σ' H' z q l => k.ex C ω' σ' H' z q l))
theorem sd_setX (i : Nat) {x : Str} {pos' : Pos} (he : EX X W T e δ ω (Val1 (fun r ω' => SD X W T ss (δ.set i (some r)) ω' R) R)) (hN : X.N.Nodup) (hi : X.N[i]? = some x := by rfl) (hx : Loc X.env.scope x := by first | exact Or.inl rfl | exact Or.inr rfl) (hs : swapsWith e (some (.Name x pos')) pos.line X.env = pure false := by rfl)
    (hf : X.fn x = true ∨ X.env.scope.names.lookup x = some .local := by first | exact .inl rfl | exact .inr rfl | assumption) : SD X W T (.Assign [.Name x pos'] e pos :: ss) δ ω R :=
  sd_cons (s1_set i (fun σ H rl t Q q q2 => he σ H rl t Q (fun r ω' v H' z => q r ω' v H' z) (fun C ω' σ' H' z => q2 C ω' σ' H' z)) hN hi hx hs hf)
theorem sd_if {kk : Bool} (h : PTd X δ ω c kk) (h1 : kk = true → SD X W T sa δ ω (Nxt X W T ss R)) (h2 : kk = false → SD X W T sb δ ω (Nxt X W T ss R)) : SD X W T (.If c sa sb pos :: ss) δ ω R :=
  sd_cons fun σ H D rl t k => ws (ps_if pt_w pss_w pss_w) (h σ H rl _ fun H' s => by
    cases kk with
    | true => exact iteT (h1 rfl σ H' D (rl.mono s) (t.ext s) (k.step (.of s)))
    | false => exact iteF (h2 rfl σ H' D (rl.mono s) (t.ext s) (k.step (.of s))))
theorem sd_ifF (h : PTd X δ ω c false) (h2 : SD X W T ss δ ω R) : SD X W T (.If c sa [] pos :: ss) δ ω R := sd_if h (fun z => by cases z) fun _ => sd_nil h2
theorem sd_ifT (h : PTd X δ ω c true) (h1 : SD X W T sa δ ω (Nxt X W T ss R)) : SD X W T (.If c sa sb pos :: ss) δ ω R := sd_if h (fun _ => h1) fun z => by cases z
/-- both ways come together -/
def Jn (J : De → Om → Prop) (R : Out → Prop) : Out → Prop
  | .nx δ ω => J δ ω
  | o => R o
theorem SD.imp {R' : Out → Prop} (h : SD X W T ss δ ω R') (hi : ∀ o, R' o → R o) : SD X W T ss δ ω R := fun σ H D rl t k =>
  h σ H D rl t ⟨fun δ' ω' σ' H' z => k.nx δ' ω' σ' H' (hi _ z), fun r ω' v H' z => k.rt r ω' v H' (hi _ z), fun C ω' σ' H' z => k.ex C ω' σ' H' (hi _ z), fun δ' ω' σ' H' z => k.bk δ' ω' σ' H' (hi _ z), fun δ' ω' σ' H' z => k.ct δ' ω' σ' H' (hi _ z)⟩
theorem sd_ifJ {kk : Bool} (J : De → Om → Prop) (h : PTd X δ ω c kk) (h1 : kk = true → SD X W T sa δ ω (Jn J R)) (h2 : kk = false → SD X W T sb δ ω (Jn J R)) (hk : ∀ δ' ω', J δ' ω' → SD X W T ss δ' ω' R) : SD X W T (.If c sa sb pos :: ss) δ ω R := by
  have im : ∀ o, Jn J R o → Nxt X W T ss R o := fun o z => by
    cases o with
    | nx δ' ω' => exact hk δ' ω' z
    | _ => exact z
  exact sd_if h (fun e => (h1 e).imp im) (fun e => (h2 e).imp im)
/-- a, b, .. = a tuple -/
def setAll : De → List Nat → List PyData → De
  | δ, i :: is, d :: ds => setAll (δ.set i (some (.im d))) is ds
  | δ, _, _ => δ
def gAll : List Nat → TGs
  | [] => gNil
  | i :: is => gCons (gName i) (gAll is)
theorem gAll_ok {K : PySem.W.Frag} {H : Hp} {ω : Om} {Q : L2.St → Hp → Prop} : ∀ {is : List Nat} {ds : List PyData} {vs : List V} {σ : L2.St} {δ : De}, Rl K H σ δ ω → DpAll K (hid (ads ω) H) vs ds → is.length = ds.length → (∀ σ', Rl K H σ' (setAll δ is ds) ω → Q σ' H) → gAll is vs σ H Q
  | [], [], _, σ, δ, rl, .nil, _, k => ⟨rfl, k σ rl⟩
  | i :: is, d :: ds, v :: vs, σ, δ, rl, .cons h1 h2, hl, k => ⟨v, vs, rfl, gAll_ok (rl.set (x := .im d) h1) h2 (Nat.succ.inj hl) k⟩
theorem sd_unp (is : List Nat) {ts : List Expr} {n kk : Nat} {p' : Pos} (he : PD X δ ω e (.tuple ds)) (hg : PG X (.Tuple ts kk p') (gTup X.K n (gAll is))) (hn : ds.length = n) (hi : is.length = n) (hk : SD X W T ss (setAll δ is ds) ω R)
    (hs : swapsWithSole [.Tuple ts kk p'] e pos.line X.env = pure false := by rfl) (hw : swappedStores [.Tuple ts kk p'] e X.env = pure none := by rfl) : SD X W T (.Assign [.Tuple ts kk p'] e pos :: ss) δ ω R :=
  sd_cons fun σ H D rl t k => ws (ps_asg pe_w hg hs hw) (he σ H rl _ fun v H' s dv => by
    cases dv with
    | tup h1 h2 => exact ⟨_, _, rfl, same_sqt hid_sub h1, by rw [dpa_len h2]; exact hn, gAll_ok (rl.mono s) h2 (hi.trans hn.symm) fun σ' l => k.nx _ ω σ' H' hk (.of s) l⟩)
/-- x.append(e), x the list of one's own that was made last -/
theorem sd_app (i : Nat) {x : Str} {p1 apos cpos : Pos} {D : Addr} {xs : List PyData} (he : PD X δ (omD ω D (.lst (xs.map .im))) e d) (hk : SD X W T ss δ (omD ω D (.lst ((xs ++ [d]).map .im))) R) (hz : xs.length < 10000)
    (hd : δ[i]? = some (some (.ad D)) := by rfl) (hN : X.N[i]? = some x := by rfl) (hv : Vis X.env.scope x := by first | exact Or.inl rfl | exact Or.inr (Or.inl rfl) | exact Or.inr (Or.inr rfl))
    (h1 : (x == ("__debug__" : Str)) = false := by decide) (h2 : (x == ("__classdict__" : Str)) = false := by decide)
    (hs : swapsWith (.Call (.Attribute (.Name x p1) "append" apos) [e] [] cpos) none pos.line X.env = pure false := by rfl)
    (hbase : attributeBase (.Name x p1) "append" X.env (eval (.Name x p1) X.env) = eval (.Name x p1) X.env := by rfl)
    (hfew : ((backTo cpos (starEach [e] X.env)).all (fun x => !x.1) && (backToKw cpos (keywordEach [] X.env)).all (fun x => x.1.isSome)
      && decide (([e] : List Expr).length + ([] : List Keyword).length + (if ([] : List Keyword).isEmpty then 0 else 1) < 30)) = true := by rfl)
    (hline : (apos.endLine == cpos.line) = true := by rfl) (hst : starEach [e] X.env = (false, eval e X.env) :: starEach [] X.env := by rfl) :
    SD X W T (.Expr (.Call (.Attribute (.Name x p1) "append" apos) [e] [] cpos) pos :: ss) δ (omD ω D (.lst (xs.map .im))) R :=
  sd_cons fun σ H Dd rl t k => by
    obtain ⟨v, e1, e2⟩ := rl.sl i _ hd
    have e2 : v = .ref D := e2
    subst e2
    obtain ⟨vs, e3, e4⟩ := rl.ro.ob D _ List.mem_cons_self
    refine ws (ps_expr (pe_bm PySem.F.plainAttrs_list PySem.F.slot_list_append PySem.F.type_list_append mt_append (pe_var hN hv h1 h2) (pa_cons pe_w pa_nil hst) hbase hfew hline hst) hs) ⟨_, e1, .inl ⟨rfl, vs, SqL.of e3⟩, ?_⟩
    refine he σ H rl _ fun y H1 s1 d1 => ⟨D, vs, y, rfl, rfl, s1 D _ e3, ?_, ?_⟩
    · rw [dpa_len (dpa_im e4)]
      exact Nat.lt_of_lt_of_le hz (by rw [sizeLine_eq]; decide)
    · have rl1 := rl.mono s1
      have hh : Same (hid (ads (omD ω D (.lst (xs.map .im)))) H1) (hid (ads (omD ω D (.lst ((xs ++ [d]).map .im)))) (upd H1 D (.lst (vs ++ [y])))) := hid_upd
      refine k.nx δ _ σ _ hk ⟨fun b o h n _ => ?_, fun a h => .inl h, rfl, fun t => ?_⟩ ⟨rl1.len, fun j r h => ?_, ?_, rl1.ro.nd, fun a h z => ?_⟩
      · have nb : b ≠ D := fun z => n (by rw [z]; exact List.mem_cons_self)
        rw [upd_ne nb]
        exact s1 b o h
      · have t1 := t.ext s1
        intro q hq
        obtain ⟨ps, a1, a2, a3⟩ := t1 q hq
        have e5 : H1 D = some (.lst vs) := s1 D _ e3
        refine ⟨ps, by rw [upd_ne (ne_of a1 e5 (by intro z; cases z))]; exact a1, a2, fun p' cv hc => ?_⟩
        obtain ⟨c0, b1, b2⟩ := a3 p' cv hc
        refine ⟨c0, b1, by rw [upd_ne (ne_of b2 e5 (by intro z; unfold LamX.CodeO at z; cases z))]; exact b2⟩
      · obtain ⟨v, h1, h2⟩ := rl1.sl j r h
        exact ⟨v, h1, sdv_mono hh h2⟩
      · intro a o h
        rcases List.mem_cons.mp h with q | q
        · cases q
          exact ⟨vs ++ [y], upd_same, im_dpa (dpa_app (dpam hh (dpam (hid_same s1) (dpa_im e4))) (.cons (dpm hh d1) .nil))⟩
        · have na : a ≠ D := fun z => by
            have nd := rl1.ro.nd
            have nd2 : (D :: ω.os.map (·.1)).Nodup := nd
            exact (List.nodup_cons.mp nd2).1 (List.mem_map.mpr ⟨(a, o), q, z⟩)
          have g := rl1.ro.ob a o (List.mem_cons_of_mem _ q)
          exact odv_keep (fun w => sdv_mono hh w) (fun u _ g1 => by rw [upd_ne na]; exact g1) g
      · have hn := rl1.ro.th a h
        by_cases za : a = D
        · rw [za, upd_same] at z
          cases z
        · rw [upd_ne za] at z
          exact hn z
/-- what follows a turn -/
def Turn1 (inv : Nat → De → Om → Prop) (i : Nat) (B R : Out → Prop) : Out → Prop
  | .nx δ ω => inv (i + 1) δ ω
  | .ct δ ω => inv (i + 1) δ ω
  | .bk δ ω => B (.nx δ ω)
  | o => R o
theorem sd_for (j : Nat) {items : List PyData} (inv : Nat → De → Om → Prop) (hw : PWk X δ ω tg iter items) (h0 : inv 0 δ ω)
    (hb : ∀ i d δ' ω', items[i]? = some d → inv i δ' ω' → SD X W T sa (δ'.set j (some (.im d))) ω' (Turn1 inv i (Nxt X W T ss R) R))
    (hd : ∀ δ' ω', inv items.length δ' ω' → SD X W T ss δ' ω' R) (hg : PG X tg (gName j)) (hp : PassesOwn (model X.prog X.w) X.A X.env X.xe) (hc : X.calm = true) (hs : ∀ x, foldedSetIterable iter X.env x = pure x := by intro _; rfl) : SD X W T (.For tg iter sa [] pos :: ss) δ ω R := by
  obtain ⟨wi, h1, h2⟩ := hw
  refine sd_cons fun σ H D rl t k => ws (ps_for hp hc h1 hg pss_w hs) (h2 σ H rl _ fun J H1 s1 w => ?_)
  refine ⟨fun i m σ' H' => ∃ δ' ω', m = items.length - i ∧ i ≤ items.length ∧ inv i δ' ω' ∧ Stp T ω ω' H1 H' ∧ Rl X.K H' σ' δ' ω', ⟨items.length, δ, ω, by omega, Nat.zero_le _, h0, .refl, rl.mono s1⟩, ?_⟩
  rintro i m σ' H' ⟨δ', ω', em, hi, iv, st, rl'⟩
  obtain ⟨go, stop, yld⟩ := w T H' (fun b o z p => (hid_out (st.seen b o z p)).2)
  have k1 := k.step (Stp.of s1 : Stp T ω ω H H1)
  by_cases hlt : i < items.length
  · refine .inr ⟨go i hlt, fun σ2 H2 => ∃ δ2 ω2, inv (i + 1) δ2 ω2 ∧ Stp T ω ω2 H1 H2 ∧ Rl X.K H2 σ2 δ2 ω2, fun σ2 H2 ⟨δ2, ω2, a1, a2, a3⟩ => ⟨items.length - (i + 1), by omega, δ2, ω2, rfl, hlt, a1, a2, a3⟩, fun x H2 hy => ?_⟩
    obtain ⟨e2, d, ed, dx⟩ := yld i x H2 hlt hy
    subst e2
    refine hb i d δ' ω' ed iv _ _ _ (rl'.set (x := .im d) (dp_ke st.seen d x dx)) (st.tab (t.ext s1)) ?_
    have k2 := k1.step st
    exact ⟨fun δ2 ω2 σ2 H2 z q l => ⟨δ2, ω2, z, st.trans q, l⟩, fun r ω2 v H2 z q l dv => k2.rt r ω2 v H2 z q l dv, fun C ω2 σ2 H2 z q l => k2.ex C ω2 σ2 H2 z q l, fun δ2 ω2 σ2 H2 z q l => k2.nx δ2 ω2 σ2 H2 z q l, fun δ2 ω2 σ2 H2 z q l => ⟨δ2, ω2, z, st.trans q, l⟩⟩
  · have e : i = items.length := by omega
    subst e
    exact .inl ⟨stop, (k1.step st).nx δ' ω' σ' H' (hd δ' ω' iv) .refl rl'⟩
/-- a call that may raise -/
theorem ex_call {fr : List PyData → Rs → Prop} {rr : Rs} (G : DefOk X.prog X.w X.K X.mg X.base k x fr) (hr : Room k X.A) (tk : L2N.Takes X W) (ha : PDs X δ ω (a :: es) ds) (hf : fr ds rr) (hR : match rr with | .ok d => R (.rt (.im d) ω) | .er C => R (.ex C ω)) (hg : Gl X x := by rfl)
    (hdb : (x == ("__debug__" : Str)) = false := by decide) (he : starEach (a :: es) X.env = (false, eval a X.env) :: starEach es X.env := by rfl) (hpl : (backTo pos (starEach es X.env)).any (·.1) = false := by rfl) : EX X W T (.Call (.Name x p) (a :: es) [] pos) δ ω R := fun σ H rl t Q q q2 => by
  obtain ⟨f, fd, ps, F, m, kp, b⟩ := G.ex
  refine we (pe_callS (E := WE W) F hr hg m kp b (fun σ => L2N.passAt tk σ) pa_w hdb he hpl) (ha σ H rl _ fun vs H1 s1 d1 => ?_)
  refine ⟨ads ω, ds, rr, there_mono rl.ro.there s1, d1, hf, ?_⟩
  cases rr with
  | ok d => exact fun v H' s' d' => q _ ω v H' hR (.of (s1.trans s')) (rl.mono (s1.trans s')) d'
  | er C => exact fun H' s' => q2 C ω σ H' hR (.of (s1.trans s')) (rl.ro.mono (s1.trans s'))
def startD (N : List Str) (ds : List PyData) : De := ds.map (fun d => some (.im d)) ++ List.replicate (N.length - ds.length) none
theorem start_rl {K : PySem.W.Frag} {H : Hp} {ps : List Addr} {N : List Str} {vs : List V} (h : DpAll K (hid ps H) vs ds) (hp : ∀ a ∈ ps, H a ≠ none) : Rl K H (L2.start N vs) (startD N ds) ⟨ps, []⟩ := by
  have hl := dpa_len h
  refine ⟨?_, fun i r hi => ?_, Ro.nil hp⟩
  · unfold L2.start startD
    rw [List.length_append, List.length_append, List.length_map, List.length_map, List.length_replicate, List.length_replicate, hl]
  · rw [ads_nil]
    unfold startD at hi
    by_cases hlt : i < ds.length
    · rw [List.getElem?_append_left (by rw [List.length_map]; exact hlt), List.getElem?_map, List.getElem?_eq_getElem hlt] at hi
      cases hi
      obtain ⟨v, h1, h2⟩ := dpa_get h (List.getElem?_eq_getElem hlt)
      refine ⟨v, ?_, h2⟩
      unfold L2.start
      rw [List.getElem?_append_left (by rw [List.length_map, hl]; exact hlt), List.getElem?_map, h1]
      rfl
    · rw [List.getElem?_append_right (by rw [List.length_map]; omega)] at hi
      have := List.getElem?_eq_some_iff.mp hi
      obtain ⟨h1, h2⟩ := this
      rw [List.getElem_replicate] at h2
      cases h2
def Fin (r : Rs) : Out → Prop
  | .rt (.im d) _ => r = .ok d
  | .nx _ _ => r = .ok .none
  | .ex C _ => r = .er C
  | _ => False
abbrev WOf (E : XK) : WX := fun cls d _ H => E cls d H
theorem def_ok {P : Program} {w : World} {K : PySem.W.Frag} {mg : Str → Option Value} {base : Heap} {x qual : Str} {params : Arguments} {body : List Stmt} {scope : Scope} {kws : List (Str × V)} {f : Addr} {fd : FuncData} {N ps : List Str} {k : Nat} {fr : List PyData → Rs → Prop}
    (F : FunD K x qual params body scope [] kws f fd) (hm : mg x = some (.ref f)) (S : FnScope N ps scope) (hb : ∀ (kV doc pm : Value) (an : Option Addr) (cdv ct : Value) (us : List Value), us.length = ps.length → bindArgs (PySem.W.fnOf x qual params body scope .none kV doc pm an cdv ct) ⟨us, []⟩ = pure (ps.zip us))
    (len : ∀ ds r, fr ds r → ds.length = ps.length)
    (hbody : ∀ (cdv : Value) (A : Around) (outer : List Env) (s : Shared) (H : Hp) (E : XK) (qs : List Addr) (ds : List PyData) (r : Rs), Room k (A.deeper (envOfC qual scope s.heap.objs.size f cdv)) → fr ds r →
      SD (cxOf (L2N.CX P w) P w K mg base N qual scope f cdv A outer s H E) (WOf E) [] body (startD N ds) ⟨qs, []⟩ (Fin r)) : DefOk P w K mg base (k + 1) x fr := by
  refine ⟨f, fd, ps, F.ok S (fun vs H Q E h => ?_) (fun cdv A outer s H vs Q E hr h => ?_), hm, F.kp, F.bindsN hb⟩
  · obtain ⟨qs, ds, r, _, h2, h3, _⟩ := h
    rw [dpa_len h2]
    exact len ds r h3
  · obtain ⟨qs, ds, r, h1, h2, h3, h4⟩ := h
    refine ⟨_, pss_w, hbody cdv A outer s H E qs ds r hr h3 _ _ _ (start_rl h2 h1) (fun _ z => nomatch z) ?_⟩
    have same : ∀ {ω' : Om} {H' : Hp}, Stp [] ⟨qs, []⟩ ω' H H' → Same H H' := fun st b o e => st.keep b o e (fun z => nomatch z) (.inl rfl)
    refine ⟨fun δ' ω' σ' H' z st l => ?_, fun r' ω' v H' z st l dv => ?_, fun C ω' σ' H' z st l => ?_, fun _ _ _ _ z => False.elim z, fun _ _ _ _ z => False.elim z⟩
    · have z : r = .ok .none := z
      subst z
      exact h4 .non H' (same st) .non
    · cases r' with
      | im d =>
        have z : r = .ok d := z
        subst z
        exact h4 v H' (same st) (dpm (hid_more fun b hb => List.mem_append_left _ (by rw [st.ps]; exact hb)) dv)
      | ad a => exact False.elim z
    · have z : r = .er C := z
      subst z
      exact h4 H' (same st)
end
end FP

namespace FP
open PySem PySem.Spec PyProof.Rows L2
/-- a tuple times a number below 2: itself by 1, else an empty one -/
def fewSpec (l : Addr) (o : Obj) (k : Int) : PySem.Spec := fun _ R s =>
  s.heap.get? l = some o ∧ (k = 1 → R (.ok (.ret (.ref l))) s) ∧
    (k ≠ 1 → R (.ok (.ret (.ref s.heap.objs.size))) { s with heap := s.heap.push { cls := .type "tuple", data := .seq #[] } })
theorem times_few {l : Addr} {its : Array Value} {n : Nat} {dd : Option Addr} {sl : Array (Option Value)} {k : Int} {t : Tok}
    (ne : its.isEmpty = false) (small : k ≤ 1) (low : -1000 ≤ k) :
    Meets (Builtin.«tuple.__mul__» ⟨[.ref l, .int k t], []⟩) (fewSpec l ⟨.type "tuple", dd, .seq its n, sl⟩ k) := by
  have inIx : ¬ ((decide (k < -(2 ^ 63)) || decide (k ≥ 2 ^ 63)) = true) := by
    rw [Bool.or_eq_true, decide_eq_true_iff, decide_eq_true_iff]
    omega
  have ix := AutoSeq1.idx_int
  refine .of_wp fun prog w A R ⟨hp, g, d, tk, os⟩ ⟨hl, same, new⟩ => ?_
  wp_walk using wpAny_loadPart' hl
  rw [if_neg inIx]
  wp_walk using wpAny_loadPart' hl
  by_cases e : k = 1
  · rw [if_pos (by rw [e, Bool.or_eq_true]; exact .inr rfl)]
    wp_walk using wpAny_loadPart' hl
    exact ⟨_, rfl, same e⟩
  · rw [if_neg (by rw [ne, Bool.false_or, beq_iff_eq]; exact e), if_pos (by rw [Bool.or_eq_true, decide_eq_true_iff]; omega)]
    wp_walk using wpAny_loadPart' hl
    exact ⟨_, rfl, new e⟩
/-- .. which is what the program's sign for it asks -/
theorem eval_few {prog : Program} {w : World} {A : Around} {Q E : Value → Shared → Prop} {s : Shared} {l : Addr} {its : Array Value} {n : Nat}
    {dd : Option Addr} {sl : Array (Option Value)} {k : Int} {t : Tok} (at_ : s.heap.get? l = some ⟨.type "tuple", dd, .seq its n, sl⟩)
    (ne : its.isEmpty = false) (small : k ≤ 1) (low : -1000 ≤ k) (same : k = 1 → Q (.ref l) s)
    (new : k ≠ 1 → Q (.ref s.heap.objs.size) { s with heap := s.heap.push { cls := .type "tuple", data := .seq #[] } }) :
    wpAny (model prog w) A (binaryOp .Mult (.ref l) (.int k t)) Q E s := by
  have isTup : s.TypeIs (.ref l) "tuple" := ⟨_, at_, rfl⟩
  have isInt := fun z : Shared => typeIs_int z k t
  have own : wpAny (model prog w) A (call (.builtin "tuple.__mul__") [.ref l, .int k t]) Q E s :=
    call_meets F.slot_tuple_mul isTup F.entry_tuple_mul (F.args_tuple_mul_2 _ _) (times_few ne small low) ⟨at_, same, new⟩
  have first := int_rmul_tuple k t l its n dd sl
  exact wpAny_binaryOp_repeat_ref (by decide) isTup isInt noFill_tuple_mul F.fills_int_mul F.slot_int_rmul repeat_tuple F.slot_int_index.lookup
    (call_meets F.slot_int_rmul (isInt s) F.entry_int_rmul (F.args_int_rmul_2 _ _) first ⟨at_, rfl, isTup, own⟩)
def rRepA (K : PySem.W.Frag) : R2 := fun x y H Q => ∃ l k xs, x = .ref l ∧ y = .int k ∧ SqT K H l xs ∧ xs ≠ [] ∧ -1000 ≤ k ∧ k ≤ 1000 ∧ xs.length ≤ 1000 ∧ (k = 1 → Q (.ref l) H) ∧ (k ≠ 1 → ∀ p, H p = none → Q (.ref p) (upd H p (.tup (List.replicate k.toNat xs).flatten)))
section
variable {X : Cx}
theorem op_repA : OpR X (binaryOp .Mult) (rRepA X.K) := by
  rintro pins s σ H x y v u Q I rx ry ⟨l, k, xs, rfl, rfl, tup, some, low, high, len, same, new⟩
  by_cases small : k ≤ 1
  case neg => exact op_repT pins s σ H _ _ v u Q I rx ry ⟨l, k, xs, rfl, rfl, tup, some, by omega, high, len, new (by omega)⟩
  cases rx
  rcases ry with ⟨t, rfl⟩
  rcases I.tuple tup with ⟨its, r, ⟨⟨c, dd, da, sl⟩, at_, isT, n, isS⟩, _⟩
  cases show c = _ from isT
  cases show da = _ from isS
  refine eval_few at_ ?_ small low (fun e => ⟨.ref l, H, I, rfl, same e⟩) fun e => ?_
  · match its, xs, r with
    | a :: b, _, _ => rfl
    | [], [], _ => exact absurd rfl some
  have none := new e
  rw [show k.toNat = 0 by omega] at none
  have I' := I.laid (t' := s.toks) (o := .tup []) (fun b o q => Heap.get?_push_of_some _ q) (Nat.le_refl _) ⟨Nat.zero_le _, [], .nil, IsTup.new _ _⟩
  exact ⟨.ref s.heap.objs.size, _, I', rfl, none _ (I.hok.fresh (Nat.le_refl _))⟩
end
/-- a list that stands by itself -/
def PLt (X : Cx) (δ : De) (ω : Om) (e : Expr) (ds : List PyData) : Prop :=
  ∀ σ H, Rl X.K H σ δ ω → ∀ Q : VK, (∀ p vs H', Same H H' → H' p = some (.lst vs) → DpAll X.K (hid (ads ω) H') vs ds → Q (.ref p) H') → wpe X e σ H Q
section
variable {X : Cx} {δ : De} {ω : Om} {a b c e : Expr} {es : List Expr} {d da db dc dz : PyData} {ds dt : List PyData} {pos p : Pos}
theorem PLt.pl (h : PLt X δ ω e ds) : PL X δ ω e ds := fun σ H r Q k => h σ H r Q fun p vs H' s h1 h2 => k p vs H' s (SqL.of h1) h2
theorem PN.plt (h : PN X δ ω e ds) : PLt X δ ω e ds := fun σ H r Q k => h σ H r Q fun p vs H' s _ h1 h2 => k p vs H' s h1 (dpam hid_cons h2)
theorem plt_var (i : Nat) {x : Str} {p : Addr} {xs : List PyData} (hm : (p, Od.lst (xs.map .im)) ∈ ω.os) (hd : δ[i]? = some (some (.ad p)) := by rfl) (hN : X.N[i]? = some x := by rfl) (hv : Vis X.env.scope x := by first | exact Or.inl rfl | exact Or.inr (Or.inl rfl) | exact Or.inr (Or.inr rfl))
    (h1 : (x == ("__debug__" : Str)) = false := by decide) (h2 : (x == ("__classdict__" : Str)) = false := by decide) : PLt X δ ω (.Name x pos) xs := fun σ H r Q k => by
  obtain ⟨v, e1, e2⟩ := r.sl i _ hd
  obtain ⟨vs, e3, e4⟩ := r.ro.ob _ _ hm
  have e2 : v = .ref p := e2
  subst e2
  exact we (pe_var hN hv h1 h2) ⟨_, e1, k p vs H (Same.refl H) e3 (dpa_im e4)⟩
theorem flat_one {α : Type} (n : Nat) (x : α) : (List.replicate n [x]).flatten = List.replicate n x := by
  induction n with
  | zero => rfl
  | succ n ih => rw [List.replicate_succ, List.flatten_cons, ih, List.replicate_succ] <;> rfl
theorem rd_repT {K : PySem.W.Frag} {k : Int} (hne : ds ≠ []) (h1 : -1000 ≤ k) (h2 : k ≤ 1000) (hz : ds.length ≤ 1000) : RD K (rRepA K) (.tuple ds) (.int k) (.tuple (List.replicate k.toNat ds).flatten) := fun ps x y H t hx hy Q q => by
  cases hy
  cases hx with
  | tup h3 h4 =>
    rename_i l vs
    have hl := dpa_len h4
    refine ⟨l, k, vs, rfl, rfl, same_sqt hid_sub h3, fun z => hne ?_, h1, h2, by omega, fun e => ?_, fun e p hp => ?_⟩
    · subst z
      exact List.eq_nil_of_length_eq_zero (by rw [← hl]; rfl)
    · have e1 : k.toNat = 1 := by omega
      rw [e1] at q
      have e2 : (List.replicate 1 ds).flatten = ds := by simp
      rw [e2] at q
      exact q _ H (Same.refl H) (.tup h3 h4)
    · exact q _ _ (same_new hp) (.tup (SqT.of (hid_of (new_out t hp) upd_same)) (dpam (hid_same (same_new hp)) (dpa_rep h4 _)))
theorem pd_repT {k : Int} (ha : PD X δ ω a (.tuple ds)) (hb : PD X δ ω b (.int k)) (hne : ds ≠ []) (h1 : -1000 ≤ k) (h2 : k ≤ 1000) (hz : ds.length ≤ 1000) : PD X δ ω (.BinOp a .Mult b pos) (.tuple (List.replicate k.toNat ds).flatten) := pd_op op_repA (rd_repT hne h1 h2 hz) ha hb
/-- (x,) * k -/
theorem pd_rep1 {k : Int} (ha : PD X δ ω a (.tuple [d])) (hb : PD X δ ω b (.int k)) (h1 : -1000 ≤ k) (h2 : k ≤ 1000) : PD X δ ω (.BinOp a .Mult b pos) (.tuple (List.replicate k.toNat d)) :=
  (pd_repT ha hb (by simp) h1 h2 (by simp)).eq (by rw [flat_one])
theorem rd_catT {K : PySem.W.Frag} (hz : ds.length + dt.length ≤ 10000) : RD K (rCatA K) (.tuple ds) (.tuple dt) (.tuple (ds ++ dt)) := fun ps x y H t hx hy Q q => by
  cases hx with
  | tup h3 h4 =>
    cases hy with
    | tup h5 h6 =>
      rename_i l vs m us
      have hl := dpa_len h4
      have hm := dpa_len h6
      refine ⟨l, m, vs, us, rfl, rfl, same_sqt hid_sub h3, same_sqt hid_sub h5, by rw [hl, hm, sizeLine_eq]; omega, fun z => ?_, fun _ z => ?_, fun _ _ p hp => ?_⟩
      · subst z
        cases h4
        exact q _ H (Same.refl H) (.tup h5 h6)
      · subst z
        cases h6
        rw [List.append_nil] at q
        exact q _ H (Same.refl H) (.tup h3 h4)
      · exact q _ _ (same_new hp) (.tup (SqT.of (hid_of (new_out t hp) upd_same)) (dpam (hid_same (same_new hp)) (dpa_app h4 h6)))
theorem pd_catT (ha : PD X δ ω a (.tuple ds)) (hb : PD X δ ω b (.tuple dt)) (hz : ds.length + dt.length ≤ 10000) : PD X δ ω (.BinOp a .Add b pos) (.tuple (ds ++ dt)) := pd_op op_catA (rd_catT hz) ha hb
theorem pn_rep {k : Int} (ha : PLt X δ ω a ds) (hb : PD X δ ω b (.int k)) (h1 : -1000 ≤ k) (h2 : k ≤ 1000) (hz : ds.length ≤ 1000) : PN X δ ω (.BinOp a .Mult b pos) (List.replicate k.toNat ds).flatten := fun σ H rl Q q =>
  we (pe_op op_rep pe_w pe_w) (ha σ H rl _ fun l vs H1 s1 h3 d1 => hb σ H1 (rl.mono s1) _ fun y H2 s2 d2 => by
    cases d2
    refine ⟨l, k, vs, rfl, rfl, s2 l _ h3, by omega, by omega, ?_, fun p hp => q p _ _ ((s1.trans s2).trans (same_new hp)) ((s1.trans s2).free hp) upd_same (dpam (hid_new hp (same_new hp)) (dpam (hid_same s2) (dpa_rep d1 _)))⟩
    have a1 : vs.length * k.toNat ≤ 1000 * 1000 := Nat.mul_le_mul (by rw [dpa_len d1]; exact hz) (by omega)
    rw [sizeLine_eq]
    omega)
theorem pn_rep1 {k : Int} (ha : PLt X δ ω a [d]) (hb : PD X δ ω b (.int k)) (h1 : -1000 ≤ k) (h2 : k ≤ 1000) : PN X δ ω (.BinOp a .Mult b pos) (List.replicate k.toNat d) := by
  have h := pn_rep (pos := pos) ha hb h1 h2 (by simp)
  rw [flat_one] at h
  exact h
def cutD (xs : List PyData) (lo hi : Option Int) : List PyData := (xs.drop (HT.sIx xs.length 0 lo)).take (HT.sIx xs.length xs.length hi - HT.sIx xs.length 0 lo)
theorem cut_dp {K : PySem.W.Frag} {H : Hp} {vs : List V} (h : DpAll K H vs ds) (lo hi : Option Int) : DpAll K H (cutV vs lo hi) (cutD ds lo hi) := by
  unfold cutV cutD
  rw [dpa_len h]
  exact dpa_take _ (dpa_drop _ h)
/-- a part of a slice -/
def PO1 (X : Cx) (δ : De) (ω : Om) : Option Expr → Option Int → Prop
  | none, o => o = none
  | some e, o => ∃ i, o = some i ∧ PD X δ ω e (.int i)
def wpo (X : Cx) : Option Expr → TO
  | none => tNoPart
  | some e => tPart (wpe X e)
theorem po_w {o : Option Expr} : PO X o (wpo X o) := by
  cases o with
  | none => exact po_none
  | some e => exact po_some pe_w
theorem po_run {o : Option Expr} {i : Option Int} (h : PO1 X δ ω o i) : ∀ σ H, Rl X.K H σ δ ω → ∀ Q : Option Int → Hp → Prop, (∀ H', Same H H' → Q i H') → wpo X o σ H Q := fun σ H rl Q k => by
  cases o with
  | none =>
    have e : i = none := h
    subst e
    exact k H (Same.refl H)
  | some e =>
    obtain ⟨j, e1, h1⟩ := h
    subst e1
    exact h1 σ H rl _ fun v H1 s1 d1 => by
      cases d1
      exact ⟨j, rfl, k H1 s1⟩
theorem pd_slT {lo hi : Option Expr} {i j : Option Int} {p2 : Pos} (ha : PD X δ ω a (.tuple ds)) (hl : PO1 X δ ω lo i) (hh : PO1 X δ ω hi j) : PD X δ ω (.Subscript a (.Slice lo hi none p2) pos) (.tuple (cutD ds i j)) := fun σ H rl Q k =>
  we (pe_slice sl_tupA pe_w po_w po_w) (ha σ H rl _ fun v H1 s1 d1 => po_run hl σ H1 (rl.mono s1) _ fun H2 s2 => po_run hh σ H2 (rl.mono (s1.trans s2)) _ fun H3 s3 => by
    have s13 := (s1.trans s2).trans s3
    have d3 := dpm (hid_same (s2.trans s3)) d1
    cases d3 with
    | tup h1 h2 =>
      rename_i l vs
      refine ⟨l, vs, rfl, same_sqt hid_sub h1, fun z => ?_, fun _ p hp => k _ _ (s13.trans (same_new hp)) (.tup (SqT.of (hid_of (new_out (there_mono rl.ro.there s13) hp) upd_same)) (dpam (hid_same (same_new hp)) (cut_dp h2 i j)))⟩
      have e : cutD ds i j = ds := by
        unfold cutD
        rw [← dpa_len h2, z.1, z.2, List.drop_zero, Nat.sub_zero, dpa_len h2, List.take_length]
      rw [e] at k
      exact k _ H3 s13 (.tup h1 h2))
theorem pn_slL {lo hi : Option Expr} {i j : Option Int} {p2 : Pos} (ha : PL X δ ω a ds) (hl : PO1 X δ ω lo i) (hh : PO1 X δ ω hi j) : PN X δ ω (.Subscript a (.Slice lo hi none p2) pos) (cutD ds i j) := fun σ H rl Q k =>
  we (pe_slice sl_list pe_w po_w po_w) (ha σ H rl _ fun l vs H1 s1 h1 d1 => po_run hl σ H1 (rl.mono s1) _ fun H2 s2 => po_run hh σ H2 (rl.mono (s1.trans s2)) _ fun H3 s3 =>
    ⟨l, vs, rfl, (s2.trans s3).seq h1, fun p hp => k p _ _ (((s1.trans s2).trans s3).trans (same_new hp)) (((s1.trans s2).trans s3).free hp) upd_same (dpam (hid_new hp (same_new hp)) (cut_dp (dpam (hid_same (s2.trans s3)) d1) i j))⟩)
theorem dpa_strs {K : PySem.W.Frag} {H : Hp} : ∀ {ys : List Str} {vs : List V}, DpAll K H vs (ys.map .str) → vs = ys.map V.str
  | [], _, h => by
    cases h
    rfl
  | b :: bs, _, h => by
    cases h with
    | cons x y =>
      cases x
      rw [List.map_cons, dpa_strs y]
theorem pd_join {z : Str} {ys : List Str} {apos : Pos} (ha : PD X δ ω a (.str z)) (hb : PL X δ ω b (ys.map .str)) (hz : (ys.map (·.length)).sum + ys.length * z.length ≤ 16777216) (hs : starEach [b] X.env = [(false, eval b X.env)] := by rfl)
    (hbase : attributeBase a "join" X.env (eval a X.env) = eval a X.env := by rfl) (hline : (apos.endLine == pos.line) = true := by rfl) : PD X δ ω (.Call (.Attribute a "join" apos) [b] [] pos) (.str (Txt.join z ys)) := fun σ H rl Q k =>
  we (pe_join pe_w pe_w hs hbase hline) (ha σ H rl _ fun v H1 s1 d1 => by
    cases d1
    refine ⟨⟨_, rfl⟩, hb σ H1 (rl.mono s1) _ fun l vs H2 s2 h2 d2 => ?_⟩
    have e := dpa_strs d2
    subst e
    exact ⟨z, l, ys, rfl, rfl, .inl h2, hz, k _ H2 (s1.trans s2) (.str _)⟩)
end
end FP

namespace FP
open PySem PySem.Spec PyProof.Rows L2
def spL (K : PySem.W.Frag) (T : List (Addr × Str)) : Sp := fun vs H Q _ => ∃ (a : Addr) (ns : List Int), vs = [.ref a] ∧ SqL K H a (ns.map V.int) ∧ ns.length ≤ 63 ∧ (∀ z ∈ ns, Builtin.Int.intBits z ≤ 1048576) ∧ LamX.Tabs T H ∧ ∀ H', Q (.bl true) H'
theorem dpa_ints {K : PySem.W.Frag} {H : Hp} : ∀ ns : List Int, DpAll K H (ns.map V.int) (ns.map .int)
  | [] => .nil
  | n :: ns => .cons (.int n) (dpa_ints ns)
def FinT : Out → Prop
  | .rt (.im d) _ => d = .bool true
  | _ => False
theorem law_ok {P : Program} {w : World} {K : PySem.W.Frag} {mg : Str → Option Value} {base : Heap} {x qual y : Str} {params : Arguments} {body : List Stmt} {scope : Scope} {dV kV doc pm cdv ct oc : Value} {an od : Option Addr} {osl : Array (Option Value)} {f : Addr} {N : List Str} {k : Nat} {T : List (Addr × Str)}
    (lk : K.lookup f = some ⟨oc, od, .func (PySem.W.fnOf x qual params body scope dV kV doc pm an cdv ct), osl⟩) (hcd : PySem.W.codeIn K cdv qual = true) (S : FnScope N [y] scope)
    (hbody : ∀ (A : Around) (outer : List Env) (s : Shared) (H : Hp) (E : XK) (ns : List Int), Room k (A.deeper (envOfC qual scope s.heap.objs.size f cdv)) → ns.length ≤ 63 → (∀ z ∈ ns, Builtin.Int.intBits z ≤ 1048576) →
      SD (cxOf (L2N.CX P w) P w K mg base N qual scope f cdv A outer s H E) (WOf E) T body (startD N [.list (ns.map .int)]) ⟨[], []⟩ FinT) :
    FnOk P w K mg base (L2N.CX P w) (k + 1) f (PySem.W.fnOf x qual params body scope dV kV doc pm an cdv ct) [y] (spL K T) := by
  refine fn_of lk hcd S (fun vs H Q E h => ?_) (fun A outer s H vs Q E hr h => ?_)
  · obtain ⟨a, ns, rfl, _⟩ := h
    rfl
  · obtain ⟨a, ns, rfl, h1, h2, h3, h4, h5⟩ := h
    refine ⟨_, pss_w, hbody A outer s H E ns hr h2 h3 _ _ _ (start_rl (vs := [.ref a]) (.cons (.lst (by rw [hid_nil]; exact h1) (dpa_ints ns)) .nil) (fun _ z => nomatch z)) h4 ?_⟩
    refine ⟨fun _ _ _ _ z => False.elim z, fun r' ω' v H' z st l dv => ?_, fun _ _ _ _ z => False.elim z, fun _ _ _ _ z => False.elim z, fun _ _ _ _ z => False.elim z⟩
    cases r' with
    | im d =>
      have z : d = .bool true := z
      subst z
      cases dv
      exact h5 H'
    | ad a => exact False.elim z

/-- what the told rule asks of the maker's def -/
structure LamT (X : Cx) (T : List (Addr × Str)) : Prop where
  ex : ∃ c P, LamX.TabB X.base X.mg c P ∧ X.env.code = .ref c ∧ (P, X.env.qual ++ "<lambda>") ∈ T ∧ ∀ p ∈ T, p.1 = P → p.2 = X.env.qual ++ "<lambda>"
/-- the def that calls what it gets -/
structure Told (K : PySem.W.Frag) (mg : Str → Option Value) (x : Str) (st : Stmt) : Prop where
  ex : ∃ g fd, FunD K x x (defArgs st) (defBody st) (defScope st) [] [] g fd ∧ mg x = some (.ref g)
theorem rl_ext {K : PySem.W.Frag} {T : List (Addr × Str)} {H H' : Hp} {σ : L2.St} {δ : De} {ω : Om} (e : LamX.ExtN H H') (hps : ω.ps = []) (rl : Rl K H σ δ ω) : Rl K H' σ δ ω := by
  have hh : LamX.ExtN (hid (ads ω) H) (hid (ads ω) H') := fun b o z n => hid_of (hid_out z).1 (e b o (hid_out z).2 n)
  have hk : Ke [(0, Str.ofString "")] (hid (ads ω) H) (hid (ads ω) H') := fun b o z p => hh b o z (p.resolve_left (by simp))
  have hsd : ∀ {r : Sd} {v : V}, SdV K (hid (ads ω) H) r v → SdV K (hid (ads ω) H') r v := fun {r v} z => by
    cases r with
    | im d => exact dp_ke hk d v z
    | ad a => exact z
  refine ⟨rl.len, fun i r h => ?_, fun a o h => ?_, rl.ro.nd, fun a h => ?_⟩
  · obtain ⟨v, h1, h2⟩ := rl.sl i r h
    exact ⟨v, h1, hsd h2⟩
  · have g := rl.ro.ob a o h
    exact odv_keep (fun w => hsd w) (fun u nt g1 => e a _ g1 nt) g
  · rw [hps] at h
    cases h
section
variable {X : Cx} {W : WX} {T : List (Addr × Str)} {δ : De} {ω : Om} {d : PyData} {pos p : Pos} {k : Nat} {R : Out → Prop}
end
end FP

namespace FP
open PySem PySem.Spec PyProof.Rows L2
structure ExcF (K : PySem.W.Frag) (mg : Str → Option Value) (x : Str) (C : Addr) : Prop where
  xP : PySem.W.excIn K C He.veBase "ValueError.__new__" = true
  gP : mg x = some (.ref C)
  kP : PySem.W.keepIn K (.ref C) = true
  bP : PySem.W.subIn K (.ref C) (.type "BaseException") = some true
  tP : PySem.W.typeIn K (.ref C) = some (.type "type")
section
variable {X : Cx} {W : WX} {T : List (Addr × Str)} {δ : De} {ω : Om} {pos p : Pos} {R : Out → Prop} {ss : List Stmt}
theorem sd_raise {x m : Str} {C : Addr} {j : Nat} {p2 pos2 : Pos} (F : ExcF X.K X.mg x C) (tk : L2N.Takes X W) (hR : R (.ex C ω)) (hc : X.calm = true) (hg : Gl X x := by rfl) (hdb : (x == ("__debug__" : Str)) = false := by decide) :
    SD X W T (.Raise (some (.Call (.Name x p) [.Constant (.str m) j p2] [] pos)) none pos2 :: ss) δ ω R :=
  sd_cons fun σ H D rl t k => ws (L2N.ps_raise hc tk (L2N.pmk_own PySem.F.excBase_ValueError F.xP F.gP F.kP (raises_own F.bP F.tP) hg hdb)) (k.ex C ω σ H hR .refl rl.ro)
/-- a call as a statement: it may raise -/
theorem sd_callX {a : Expr} {es : List Expr} {x : Str} {k : Nat} {ds : List PyData} {fr : List PyData → Rs → Prop} {rr : Rs} {pos2 : Pos} (G : DefOk X.prog X.w X.K X.mg X.base k x fr) (hr : Room k X.A) (tk : L2N.Takes X W) (ha : PDs X δ ω (a :: es) ds) (hf : fr ds rr)
    (h1 : ∀ d, rr = .ok d → SD X W T ss δ ω R) (h2 : ∀ C, rr = .er C → R (.ex C ω)) (hg : Gl X x := by rfl)
    (hdb : (x == ("__debug__" : Str)) = false := by decide) (he : starEach (a :: es) X.env = (false, eval a X.env) :: starEach es X.env := by rfl) (hpl : (backTo pos (starEach es X.env)).any (·.1) = false := by rfl)
    (hs : swapsWith (.Call (.Name x p) (a :: es) [] pos) none pos2.line X.env = pure false := by rfl) : SD X W T (.Expr (.Call (.Name x p) (a :: es) [] pos) pos2 :: ss) δ ω R :=
  sd_exprX (ex_call G hr tk ha hf (by
    cases rr with
    | ok d => exact h1 d rfl
    | er C => exact h2 C rfl) hg hdb he hpl) hs
end
end FP

namespace FP
open PySem PySem.Spec PyProof.Rows L2
def Shp (n : Nat) (d : PyData) : Prop := d.canLay0 = true ∧ d.depth ≤ n
theorem shp_all {n : Nat} : ∀ {ds : List PyData}, (∀ x ∈ ds, Shp n x) → PyData.canLayAll0 ds = true ∧ PyData.depthAll ds ≤ n
  | [], _ => ⟨rfl, Nat.zero_le _⟩
  | x :: xs, h => by
    obtain ⟨a, b⟩ := shp_all (ds := xs) fun y hy => h y (List.mem_cons_of_mem _ hy)
    obtain ⟨c, d⟩ := h x List.mem_cons_self
    constructor
    · show (x.canLay0 && PyData.canLayAll0 xs) = true
      rw [c, a]
      rfl
    · show max x.depth (PyData.depthAll xs) ≤ n
      omega
theorem Shp.tup {n : Nat} {ds : List PyData} (h : ∀ x ∈ ds, Shp n x) : Shp (n + 1) (.tuple ds) := ⟨(shp_all h).1, by
  show PyData.depthAll ds + 1 ≤ n + 1
  have := (shp_all h).2
  omega⟩
theorem Shp.lst {n : Nat} {ds : List PyData} (h : ∀ x ∈ ds, Shp n x) : Shp (n + 1) (.list ds) := ⟨(shp_all h).1, by
  show PyData.depthAll ds + 1 ≤ n + 1
  have := (shp_all h).2
  omega⟩
theorem Shp.int {n : Nat} (i : Int) : Shp n (.int i) := ⟨rfl, Nat.zero_le _⟩
theorem Shp.non {n : Nat} : Shp n .none := ⟨rfl, Nat.zero_le _⟩
theorem Shp.bl {n : Nat} (b : Bool) : Shp n (.bool b) := ⟨rfl, Nat.zero_le _⟩
theorem Shp.str {n : Nat} {z : Str} (h : PyData.strOk z = true) : Shp n (.str z) := ⟨h, Nat.zero_le _⟩
theorem Shp.ok {n : Nat} {d : PyData} (h : Shp n d) (hn : n ≤ 64 := by decide) : SeqAt.shaped d = true := by
  unfold SeqAt.shaped
  rw [h.1, decide_eq_true (Nat.le_trans h.2 hn)]
  rfl
theorem Shp.refl {n : Nat} {d : PyData} (h : Shp n d) : PyData.eqv d d = true := SeqAt.eqv_refl d h.1
end FP

namespace FP
open PySem PySem.Spec PyProof.Rows L2
def PX (X : Cx) (T : List (Addr × Str)) (δ : De) (ω : Om) (e : Expr) (d : PyData) : Prop := ∀ σ H, Rl X.K H σ δ ω → LamX.Tabs T H → ∀ Q : VK, (∀ v H', Stp T ω ω H H' → Rl X.K H' σ δ ω → Dp X.K (hid (ads ω) H') v d → Q v H') → wpe X e σ H Q
section
variable {X : Cx} {W : WX} {T : List (Addr × Str)} {δ : De} {ω : Om} {a b c e : Expr} {es r : List Expr} {d da db dz : PyData} {ds : List PyData} {pos p : Pos} {k x y : Bool} {R : Out → Prop} {ss sa sb : List Stmt}
theorem sd_setx (i : Nat) {x : Str} {pos' : Pos} (he : PX X T δ ω e d) (hk : SD X W T ss (δ.set i (some (.im d))) ω R) (hN : X.N.Nodup) (hi : X.N[i]? = some x := by rfl) (hx : Loc X.env.scope x := by first | exact Or.inl rfl | exact Or.inr rfl) (hs : swapsWith e (some (.Name x pos')) pos.line X.env = pure false := by rfl)
    (hf : X.fn x = true ∨ X.env.scope.names.lookup x = some .local := by first | exact .inl rfl | exact .inr rfl | assumption) : SD X W T (.Assign [.Name x pos'] e pos :: ss) δ ω R :=
  sd_cons (s1_set i (fun σ H rl t Q q _ => he σ H rl t Q fun v H' s l dv => q (.im d) ω v H' hk s l dv) hN hi hx hs hf)
end
section
variable {X : Cx} {T : List (Addr × Str)} {δ : De} {ω : Om} {d : PyData} {pos p : Pos} {k : Nat}
end
end FP

namespace FP
open PySem PySem.Spec PyProof.Rows L2
theorem law_at {l : PySem.W.OpenLaw} {w : World} {K : PySem.W.Frag} {mg : Str → Option Value} {h : Heap} {fa : List He.Fa} {fn : List He.DefD} {ts : List He.Tab} {ex : PySem.W.Frag → Bool} {params : Arguments} {body : List Stmt} {scope : Scope} {f : Addr} {N : List Str} {k : Nat} {x : Str}
    (KX : K.In h) (G : h.Ns mainGlobals mg) (hfa : mg "law" = some (.ref f)) (c : He.SaysX fa fn ts [("law", none)] ex w h K) (hd : (⟨("law", none), "law", "law", params, body, scope, [], []⟩ : He.DefD) ∈ fn) (hg : He.Fa.glo "law" ∈ fa) (S : FnScope N [x] scope)
    (hb : ∀ (kV doc pm : Value) (an : Option Addr) (cdv ct : Value) (us : List Value), us.length = [x].length → bindArgs (PySem.W.fnOf "law" "law" params body scope .none kV doc pm an cdv ct) ⟨us, []⟩ = pure ([x].zip us))
    (hbody : ∀ (base : Heap), K.In base → base.Ns mainGlobals mg → ∀ (T : List (Addr × Str)) (cdv : Value) (A : Around) (outer : List Env) (s : Shared) (H : Hp) (E : XK) (ns : List Int), T ≠ [] → LamT (cxOf (L2N.CX l.prog w) l.prog w K mg base N "law" scope f cdv A outer s H E) T →
      Room k (A.deeper (envOfC "law" scope s.heap.objs.size f cdv)) → ns.length ≤ 63 → (∀ z ∈ ns, Builtin.Int.intBits z ≤ 1048576) →
      SD (cxOf (L2N.CX l.prog w) l.prog w K mg base N "law" scope f cdv A outer s H E) (WOf E) T body (startD N [.list (ns.map .int)]) ⟨[], []⟩ FinT) :
    LamX.LawAtS l w K (L2N.CX l.prog w) (k + 1) 63 x mg f h := by
  have cd := c.t.d
  obtain ⟨fd, F⟩ := cd.defs hd
  have e := hfa.symm.trans (He.glo_ok KX G (cd.facts hg))
  cases e
  obtain ⟨oc, od, dV, kV, doc, pm, an, cdv, ct, osl, rfl, lk, hcd, hD, hK⟩ := F.ex
  have edV : dV = .none := by
    rcases hD with ⟨_, e⟩ | ⟨e, _⟩
    · exact e
    · exact absurd rfl e
  subst edV
  obtain ⟨cc, rfl⟩ := He.codeIn_ref hcd
  have ec : He.codeOf K ("law", none) = cc := He.codeOf_eq lk rfl
  have mem : (("law", none) : He.Defn) ∈ ([("law", none)] : List He.Defn) := List.mem_singleton.mpr rfl
  have hbA := FunD.bindsA (ps := [x]) F hb
  refine ⟨_, [He.cT K ("law", none)], spL K [((He.cT K ("law", none)).2, (Str.ofString "law" ++ ".<locals>.") ++ "<lambda>")], fun p hp => ?_, fun p hp => ?_, fun p hp => ?_, fun s u => hbA s [u] rfl, fun H a ns h1 h2 h3 h4 => ?_, fun base hB hN hTB => ?_⟩
  · rw [List.mem_singleton.mp hp]
    exact c.empty _ mem
  · rw [List.mem_singleton.mp hp]
    exact c.out _ mem
  · rw [List.mem_singleton.mp hp]
    exact PySem.W.codeHd_of_K KX (c.hd _ mem)
  · refine ⟨a, ns, rfl, h4, h1, h2, fun p hp => ?_, fun _ => rfl⟩
    rw [List.mem_singleton.mp hp]
    exact LamX.TabS.nil (h3 _ (List.mem_singleton.mpr rfl))
  · refine law_ok lk hcd S fun A outer s H E ns hr h1 h2 => hbody base hB hN _ (.ref cc) A outer s H E ns (by simp) ⟨cc, (He.cT K ("law", none)).2, ?_, rfl, List.mem_singleton.mpr rfl, fun p hp _ => by rw [List.mem_singleton.mp hp]; rfl⟩ hr h1 h2
    have z := hTB _ (List.mem_singleton.mpr rfl)
    have e1 : (He.cT K ("law", none)).1 = cc := ec
    rw [← e1]
    exact z
theorem cx_none {P : Program} {w : World} {H : Hp} {s : Shared} {e : Value} {s' : Shared} (h : L2N.CX P w [] H s (fun _ _ _ => False) e s') : False := by
  obtain ⟨_, _, _, _, _, _, _, _, _, _, _, _, z⟩ := h
  exact z.elim
theorem exc_of {K : PySem.W.Frag} {mg : Str → Option Value} {h : Heap} (KX : K.In h) (G : h.Ns mainGlobals mg) {x : Str} (c1 : (He.Fa.glo x).ok K = true) (c2 : (He.Fa.exc x).ok K = true) : ExcF K mg x (He.ga K x) := by
  obtain ⟨a, b, c, d⟩ := He.exc_ok c2
  exact ⟨a, He.glo_ok KX G c1, b, c, d⟩
theorem gld_int {K : PySem.W.Frag} {mg : Str → Option Value} {h : Heap} (KX : K.In h) (G : h.Ns mainGlobals mg) {x : Str} {i : Int} (c : (He.Fa.int x i).ok K = true) : GlD K mg x (.int i) := by
  obtain ⟨t, e⟩ := He.int_ok KX G c
  exact ⟨.int i, _, e, ⟨t, rfl⟩, fun _ => .int i⟩
end FP

namespace FP
open PySem PySem.Spec PyProof.Rows L2 HotX L2H
section
variable {prog : Program} {w : World} {A : Around} {E : Value → Shared → Prop} {s : Shared}
theorem next_end_hot {it l p : Addr} {i : Nat} {items : Array Value} {Q : Option Value → Shared → Prop} (hot : HotAt A p s.heap) (hp : p ≠ it) (hi : s.heap.IsListIter it l i) (hl : s.heap.IsList l items) (hx : items[i]? = none)
    (hQ : ∀ h', (∀ b o, b ≠ it → s.heap.get? b = some o → h'.get? b = some o) → Q none { s with heap := h' }) : wpAny (model prog w) A (pyNext (.ref it)) Q E s := by
  obtain ⟨oi, gi, ci, di⟩ := id hi
  obtain ⟨ol, gl, _, nl, dl⟩ := hl
  obtain ⟨hh, oe, ve, ge, de, ce⟩ := hot
  unfold pyNext
  refine wpAny_bind (wpAny_attempt (wpAny_callSpecial?_slot (name := Str.ofString "__next__") hi.typeIs slot_listiter_next (wpAny_call_entry slot_listiter_next hi.typeIs entry_listiter_next ?_ (args_listiter_next _))))
  show wpAny _ _ (field (.ref it) 0 >>= _) _ _ s
  refine wpAny_bind (wpAny_field gi di (x := .ref l) rfl ?_)
  show wpAny _ _ (if (Value.ref l == Value.none) = true then _ else _) _ _ s
  rw [if_neg (c := (Value.ref l == Value.none) = true) Bool.false_ne_true]
  show wpAny _ _ (field (.ref it) 1 >>= _) _ _ s
  refine wpAny_bind (wpAny_field gi di (x := .int i 0) rfl ?_)
  show wpAny _ _ (seqItems? (.ref l) >>= _) _ _ _
  refine wpAny_bind (wpAny_seqItems gl dl ?_)
  simp only [Int.toNat_natCast, hx]
  refine wpAny_bind (wpAny_rule (wpAny_bind (wpAny_setField gi di (by simp) ?_)))
  show wpAny _ _ (newExc (.type "StopIteration") [] >>= fun e => raiseNew e) _ _ _
  have ge1 : (s.heap.update it (Obj.mapFields (·.setIfInBounds 0 Value.none))).get? p = some oe := (Heap.get?_update_other _ _ (Ne.symm hp)).trans ge
  have old : ∀ b o, b ≠ it → s.heap.get? b = some o → (s.heap.update it (Obj.mapFields (·.setIfInBounds 0 Value.none))).get? b = some o := fun b o n z => (Heap.get?_update_other _ _ (Ne.symm n)).trans z
  refine wpAny_bind ?_
  simp only [newExc, newTuple]
  refine wpAny_bind (wpAny_newObj_type (wpAny_bind (m := firstArgMember _ _) (wpAny_of_eq (a := Value.none) (by first | rfl | (simp only [firstArgMember]; rfl)) (wpAny_newObj_type ?_ (by size_fits)))) (by size_fits))
  refine raiseNew_hot ⟨hh, oe, ve, Heap.get?_push_of_some _ (Heap.get?_push_of_some _ ge1), de, ce⟩ (Nat.ne_of_lt (Heap.lt_size (Heap.get?_push_of_some _ ge1))) (Heap.get?_push_size _ rfl) rfl (by first | (simp; done) | (simp; omega) | (simp only [Array.size_append]; simp; omega)) ?_
  refine wpAny_bind (wpAny_isInstance (T := "StopIteration") (b := true) ⟨_, Heap.get?_update_self _ (Heap.get?_push_size _ rfl) rfl, rfl⟩ isSubtype_stop (wpAny_pure (hQ _ fun b o n z => ?_)))
  rw [Heap.get?_update_other _ _ (Nat.ne_of_gt (Heap.lt_size (Heap.get?_push_of_some _ (old b o n z))))]
  exact Heap.get?_push_of_some _ (Heap.get?_push_of_some _ (old b o n z))
end
end FP

namespace FP
open PySem PySem.Spec PyProof.Rows L2 HotX L2H
/-- a list that is walked while p is handled -/
theorem walk_hot {prog : Program} {w : World} {A : Around} {it l p : Addr} {items : Array Value} (hl : l ≠ it) (hp : p ≠ it) :
    WalksS prog w A it [it, l, p] [it] (fun a b => b = a) items.size (fun i v => items[i]? = some v) (fun i s => s.heap.IsListIter it l i ∧ s.heap.IsList l items ∧ HotAt A p s.heap) where
  sub := fun b hb => by
    rw [List.mem_singleton.mp hb]
    exact List.mem_cons_self
  grefl := fun _ => rfl
  gtrans := fun _ _ _ a b => b.trans a
  frame := fun i s h' tk st _ k => by
    obtain ⟨s1, s2, hh, oe, ve, ge, de, ce⟩ := st
    exact ⟨s1.at fun o e => k it (by simp) o e, s2.at fun o e => k l (by simp) o e, hh, oe, ve, k p (by simp) _ ge, de, ce⟩
  item := fun i s Q E hi st q => by
    obtain ⟨s1, s2, hh, oe, ve, ge, de, ce⟩ := st
    refine wpAny_pyNext_list_item s1 s2 (x := items[i]) (by simp [hi]) fun h' t sb => q _ _ (by simp [hi]) ⟨t, s2.extBut sb.extBut hl, hh, oe, ve, (sb.2 p hp).trans ge, de, ce⟩ ⟨fun b o hb e => (sb.2 b fun z => hb (by simp [z])).trans e, rfl, rfl, rfl, Nat.le_refl _⟩
  done := fun s Q E st q => by
    obtain ⟨s1, s2, h⟩ := st
    exact next_end_hot h hp s1 s2 (by simp) fun h' k => q _ ⟨fun b o hb e => k b o (fun z => hb (by simp [z])) e, rfl, rfl, rfl, Nat.le_refl _⟩
  self := fun _ _ _ _ st h => wpAny_pyIter_listiter st.1 h
theorem preSum_take {f : Nat → Int} {ns : List Int} (h : ∀ i, i < ns.length → f i = ns.getD i 0) : ∀ j, j ≤ ns.length → preSum f j = (ns.take j).sum
  | 0, _ => by simp [preSum]
  | j + 1, hj => by
    have e : ns.take (j + 1) = ns.take j ++ [ns.getD j 0] := by
      rw [List.take_add_one]
      simp [List.getElem?_eq_getElem (show j < ns.length by omega)]
    rw [preSum, preSum_take h j (by omega), h j (by omega), e, List.sum_append]
    simp
/-- sum(xs) of a list of whole numbers, while an exception is handled -/
theorem cr_sumH {X : Cx} (hc : HotC X) : CallR X (.builtin "sum") (rSum X.K) := by
  intro pins s σ H vs us Q I r h
  obtain ⟨a, ns, rfl, hs, q⟩ := h
  obtain ⟨its, rv, hl, _⟩ := I.list hs
  obtain ⟨p, hh, oe, ve, ge, de, ce⟩ := hc.at I
  rw [Vals.ref1 r]
  have lt : a < s.heap.objs.size := by
    obtain ⟨_, e, _⟩ := hl.isList
    exact Heap.lt_size e
  have ltp : p < s.heap.objs.size := Heap.lt_size ge
  have len : its.length = ns.length := by
    rw [← rv.length, List.length_map]
  refine call_sum_walkAnyS (wpAny_pyIter_list hl.isList ?_)
  refine ⟨_, _, _, _, _, _, _, fun i => ns.getD i 0, rfl, walk_hot (l := a) (p := p) (items := its.toArray) (Nat.ne_of_lt lt) (Nat.ne_of_lt ltp), ⟨⟨_, Heap.get?_push_size _ rfl, rfl, rfl⟩, hl.isList.push _, hh, oe, ve, Heap.get?_push_of_some _ ge, de, ce⟩, fun b hb => ?_, fun i v hv => ?_, fun s' t' m => ?_⟩
  · rw [Heap.size_push]
    rcases List.mem_cons.mp hb with z | hb
    · rw [z]
      exact Nat.lt_succ_self _
    · rcases List.mem_cons.mp hb with z | hb
      · rw [z]
        exact Nat.lt_succ_of_lt lt
      · rw [List.mem_singleton.mp hb]
        exact Nat.lt_succ_of_lt ltp
  · have hi : i < ns.length := by
      have := (Array.getElem?_eq_some_iff.mp hv).1
      simp at this
      omega
    have e1 : (ns.map V.int)[i]? = some (V.int (ns.getD i 0)) := by
      rw [List.getElem?_map, List.getElem?_eq_getElem hi, List.getD_eq_getElem?_getD, List.getElem?_eq_getElem hi]
      rfl
    obtain ⟨u, hu, ru⟩ := rv.get e1
    have e2 : some v = some u := by
      rw [← hv, ← hu]
      simp
    cases e2
    exact ru
  · have e := preSum_take (f := fun i => ns.getD i 0) (ns := ns) (fun _ _ => rfl) ns.length (Nat.le_refl _)
    have e2 : its.toArray.size = ns.length := by simp [len]
    rw [e2, e, List.take_length]
    obtain ⟨m1, m2, m3, m4, m5⟩ := m
    obtain ⟨h', g', d', k', o'⟩ := s'
    cases m2
    cases m3
    cases m4
    exact ⟨.int _, H, I.kept (h' := h') (t' := k') fun b o z => m1 b o (fun n => by
      rw [List.mem_singleton.mp n] at z
      exact absurd (Heap.lt_size z) (Nat.lt_irrefl _)) (Heap.get?_push_of_some _ z), ⟨_, rfl⟩, q⟩
end FP

namespace FP
open PySem PySem.Spec PyProof.Rows L2 HotX L2H
/-- [elt for name in a list], while an exception is handled; what comes out lies on no heap -/
def tLh (K : PySem.W.Frag) (j : Nat) (tl te : TE) : TE := fun σ H Q => tl σ H fun v G => ∃ (a : Addr) (xs ys : List V), v = .ref a ∧ SqL K G a xs ∧ ys.length = xs.length ∧ xs.length ≤ 1000 ∧
  (∀ (i : Nat) (x y : V), xs[i]? = some x → ys[i]? = some y → ∀ G1, Same G G1 → ∀ R : VK, (∀ G2, Same G1 G2 → R y G2) → te (σ.set j (some x)) G1 R) ∧
  ∀ D G1, G D = none → Same G G1 → G1 D = some (.lst ys) → Q (.ref D) G1
section
variable {X : Cx}
theorem pe_lcH {elt l : Expr} {scope : Scope} {y : Str} {py pos : Pos} {j : Nat} {tl te : TE} (hc : HotC X) (hN : X.N.Nodup) (hl : PE X l tl) (ok : BlkOk X.N X.env.scope scope [(y, j)])
    (hg : ∀ (s : Shared) (H : Hp) (C : Addr) (cl : List (Str × Addr)) (fp : List Addr), PG (X.blk s H scope (compEnvC scope cl C X.env) fp) (.Name y py) (gName j))
    (he : ∀ (s : Shared) (H : Hp) (C : Addr) (cl : List (Str × Addr)) (fp : List Addr), PE (X.blk s H scope (compEnvC scope cl C X.env) fp) elt te)
    (hs : ∀ x, foldedSetIterable l X.env x = pure x := by intro _; rfl) : PE X (.ListComp elt [⟨.Name y py, l, [], 0⟩] scope pos) (tLh X.K j tl te) := by
  refine ⟨fun pins s0 σ H Q I h => ?_⟩
  have clo : ∀ z ∈ scope.names, z.2 = .free → ∃ c, X.env.cells.lookup z.1 = some c := fun z hz e => I.ok.has _ ((ok.free z hz e).elim .inl .inr)
  rw [eval_ListComp]
  refine wpAny_comprehension_free (use := none) rfl hs (closure_ok clo) ok.kind (fun z hz e => by rw [ok.uniq z hz, e]) (thn (hl.run pins s0 σ H _ I h) fun lv sa hx => ?_)
  obtain ⟨v, G, Ia, rv, a, xs, ys, ev, hsq, hlen, hsm, hstep, hend⟩ := hx
  subst ev
  obtain rfl : lv = Value.ref a := rv
  obtain ⟨its, rits, pl, _⟩ := Ia.list hsq
  obtain ⟨pp, hot1, hpn⟩ := hc
  have PP := Ia.pin pp (List.mem_append_left _ hpn)
  obtain ⟨hh, ve, de, ce⟩ := hot1
  -- the iterator, then the new list
  refine wpAny_pyIter_list pl.isList (wpAny_newObj_type (newEnv_comp ?_) (by show 0 ≤ sizeLine; decide))
  generalize eI : sa.heap.objs.size = it
  have fI : FpOk X pins G it := Ia.fpOk (Nat.le_of_eq eI) (Ia.hok.fresh (Nat.le_of_eq eI))
  generalize eb : ({ sa with heap := sa.heap.push { cls := .type "list_iterator", data := .fields #[.ref a, .int 0 0] } } : Shared) = sb
  have hb : sb.heap = sa.heap.push { cls := .type "list_iterator", data := .fields #[.ref a, .int 0 0] } := by rw [← eb]
  have Ib : Inv X pins σ G sb := by
    rw [← eb]
    exact Ia.kept (t' := sa.toks) fun b o e => Heap.get?_push_of_some _ e
  have turn0 : sb.heap.IsListIter it a 0 := by
    rw [hb, ← eI]
    exact ⟨_, Heap.get?_push_size _ rfl, rfl, rfl⟩
  have szI : it < sb.heap.objs.size := by
    obtain ⟨_, e, _⟩ := turn0
    exact Heap.lt_size e
  generalize eD : sb.heap.objs.size = D
  have nD : G D = none := Ib.hok.fresh (Nat.le_of_eq eD)
  have ItD : it ≠ D := by
    rw [← eD]
    exact Nat.ne_of_lt szI
  generalize ec : ({ sb with heap := sb.heap.push { cls := .type "list", data := .seq ([] : List Value).toArray } } : Shared) = sc
  have hcH : sc.heap = sb.heap.push { cls := .type "list", data := .seq ([] : List Value).toArray } := by rw [← ec]
  have Ic : Inv X pins σ (upd G D (.lst [])) sc := by
    rw [← ec]
    refine Ib.laid (t' := sb.toks) (fun b o e => Heap.get?_push_of_some _ e) (Nat.le_of_eq eD) ⟨Nat.zero_le _, [], 0, .nil, ?_⟩
    rw [← eD]
    exact Heap.get?_push_size _ rfl
  have fIc : FpOk X pins (upd G D (.lst [])) it := ⟨by rw [upd_ne ItD]; exact fI.1, fI.2⟩
  have szc : it < sc.heap.objs.size := by
    rw [hcH, Heap.size_push]
    exact Nat.lt_succ_of_lt szI
  have all1 : ∀ b ∈ [it], FpOk X pins (upd G D (.lst [])) b ∧ b < sc.heap.objs.size := fun b hb1 => by
    rw [List.mem_singleton.mp hb1]
    exact ⟨fIc, szc⟩
  have Id := block_start Ic ok hN all1
  have pg := hg sc (upd G D (.lst [])) sc.heap.objs.size (cellsFrom (sc.heap.objs.size + 1) scope.names (cloFrom X.env.cells scope.names [])) [it]
  have pe := he sc (upd G D (.lst [])) sc.heap.objs.size (cellsFrom (sc.heap.objs.size + 1) scope.names (cloFrom X.env.cells scope.names [])) [it]
  have PPc := Ic.pin pp (List.mem_append_left _ hpn)
  have nPit : pp.1 ≠ it := fI.2.2.2.2.2 pp (List.mem_append_left _ hpn)
  have nPstk : pp.1 ∉ frs X.stack := fun z => (List.mem_cons.mp (Ic.stkSub pp.1 z)).elim PPc.2.2.1 PPc.2.2.2.1
  show codeAny _ _ (.compStart (.ListComp elt [⟨.Name y py, l, [], 0⟩] scope pos) 0 (.ref it) (.ref D) (compEnvC scope (cellsFrom (sc.heap.objs.size + 1) scope.names (cloFrom X.env.cells scope.names [])) sc.heap.objs.size X.env)) (compPost (model X.prog X.w) X.A X.xe none _ (.ref D) sc.heap.objs.size) { sc with heap := pushCells (sc.heap.push { cls := .type "dict", data := .dict #[] }) scope.names }
  generalize eE : compEnvC scope (cellsFrom (sc.heap.objs.size + 1) scope.names (cloFrom X.env.cells scope.names [])) sc.heap.objs.size X.env = ce1 at Id pg pe ⊢
  have eL : ce1.locals = sc.heap.objs.size := by
    subst eE
    rfl
  generalize ed : ({ sc with heap := pushCells (sc.heap.push { cls := .type "dict", data := .dict #[] }) scope.names } : Shared) = sd at Id ⊢
  have turnD : sd.heap.IsListIter it a 0 := turn0.at fun o e => by
    rw [← ed]
    refine pushCells_keeps _ _ _ _ (Heap.get?_push_of_some _ ?_)
    rw [hcH]
    exact Heap.get?_push_of_some _ e
  -- what holds at the i-th turn
  have hotIn : ∀ {σ' : L2.St} {H' : Hp} {s' : Shared} {pins' : List (Addr × Obj)}, Inv (X.blk sc (upd G D (.lst [])) scope ce1 [it]) pins' σ' H' s' → HotAt X.A pp.1 s'.heap := fun {σ' H' s' pins'} J =>
    ⟨hh, pp.2, ve, J.base.keep pp.1 pp.2 PPc.1 PPc.2.1 nPstk (fun z => nPit (List.mem_singleton.mp z)), de, ce⟩
  have free1 : ∀ {σ' : L2.St} {H' : Hp} {s' : Shared}, Inv (X.blk sc (upd G D (.lst [])) scope ce1 [it]) [] σ' H' s' → H' it = none → FpOk (X.blk sc (upd G D (.lst [])) scope ce1 [it]) [] H' it := fun {σ' H' s'} J n =>
    ⟨n, (J.ok.exf it List.mem_cons_self).1, J.ok.exfs it List.mem_cons_self, .inl List.mem_cons_self, (J.ok.exf it List.mem_cons_self).2, fun q hq => nomatch (show q ∈ ([] : List (Addr × Obj)) from hq)⟩
  have sqIn : ∀ {H' : Hp}, (∀ b o, b ≠ D → G b = some o → H' b = some o) → SqL X.K H' a xs := fun {H'} k => by
    have s1 : Same G (upd H' D (.lst [])) := fun b o e => by
      by_cases z : b = D
      · rw [z, nD] at e
        cases e
      · rw [upd_ne z]
        exact k b o z e
    rcases hsq with (g | ⟨o, g⟩) | g
    · exact .inl (.inl (k a _ (fun z => by rw [z, nD] at g; cases g) g))
    · exact .inl (.inr ⟨o, k a _ (fun z => by rw [z, nD] at g; cases g) g⟩)
    · exact .inr g
  have loop : codeAny (model X.prog X.w) X.A (.compLoop (.ListComp elt [⟨.Name y py, l, [], 0⟩] scope pos) 0 (.ref it) (.ref D) ce1) (compPost (model X.prog X.w) X.A X.xe none (EP X pins σ Q) (.ref D) sc.heap.objs.size) sd := by
    refine compLoop_any (fun m s' => ∃ i H', m = xs.length - i ∧ i ≤ xs.length ∧ Inv (X.blk sc (upd G D (.lst [])) scope ce1 [it]) [] (wipe σ [j]) H' s' ∧ s'.heap.IsListIter it a i ∧ H' it = none ∧ H' D = some (.lst (ys.take i)) ∧ ∀ b o, b ≠ D → G b = some o → H' b = some o) ?_ xs.length
      ⟨0, _, by omega, Nat.zero_le _, Id, turnD, fIc.1, by rw [List.take_zero]; exact upd_same, fun b o n e => by rw [upd_ne n]; exact e⟩
    rintro m s5 ⟨i, H5, em, hi, I5, t5, n5, d5, k5⟩
    obtain ⟨its5, r5, pl5, _⟩ := I5.list (sqIn k5)
    have F5 := free1 I5 n5
    by_cases hlt : i < xs.length
    · have ex : xs[i]? = some xs[i] := List.getElem?_eq_getElem hlt
      have ey : ys[i]? = some ys[i] := List.getElem?_eq_getElem (by omega)
      obtain ⟨u, hu, ru⟩ := r5.get ex
      refine wpAny_pyNext_list_item t5 pl5.isList (x := u) (by simpa using hu) fun h6 t6 sb6 => ?_
      have I6 : Inv (X.blk sc (upd G D (.lst [])) scope ce1 [it]) [] (wipe σ [j]) H5 { s5 with heap := h6 } := I5.turned (t' := s5.toks) (fun b o n e => (sb6.2 b n).trans e) F5.1 F5.2.1 F5.2.2.2.1 F5.2.2.2.2.1 F5.2.2.2.2.2
      obtain ⟨o6, e6, c6, q6⟩ := id t6
      refine go_of (s := { s5 with heap := h6 }) e6 c6 q6 (by decide) ?_
      have I7 := I6.pinned (fp := [it]) (fun b hb1 => by rw [List.mem_singleton.mp hb1]; exact free1 I6 n5) (fun b hb1 => by
        rw [List.mem_singleton.mp hb1]
        exact ⟨o6, e6, fun v z => by rw [q6] at z; cases z⟩)
      refine thnF (pg.run _ _ _ H5 xs[i] u (fun σ8 H8 => σ8 = σ.set j (some xs[i]) ∧ H8 = H5) I7 ru ⟨by show ((σ.set j none).set j (some xs[i])) = _; rw [List.set_set], rfl⟩) fun _ s8 w8 => ?_
      obtain ⟨σ8, H8, I8, w8, w9⟩ := w8
      subst w8
      subst w9
      refine wpAny_tests_nil ?_
      simp only [if_true]
      -- the element; D hidden away
      have s1 : ∃ G1, Same G G1 ∧ True := ⟨G, Same.refl G, trivial⟩
      refine thnF (pe.run _ s8 _ H8 (fun z H9 => z = ys[i] ∧ H9 D = some (.lst (ys.take i)) ∧ ∀ b o, H8 b = some o → H9 b = some o) I8 ?_) fun uz s9 w => ?_
      · refine hstep i xs[i] ys[i] ex ey H8 (fun b o e => k5 b o (fun z => by rw [z, nD] at e; cases e) e) _ fun G2 s2 => ⟨rfl, s2 D _ d5, fun b o e => s2 b o e⟩
      · obtain ⟨z, H9, I9, r9, z9, d9, k9⟩ := w
        subst z9
        refine app_ok (X := X.blk sc (upd G D (.lst [])) scope ce1 [it]) I9 d9 (by rw [List.length_take]; exact Nat.lt_of_le_of_lt (Nat.min_le_left _ _) (Nat.lt_of_lt_of_le hlt (Nat.le_trans hsm (by rw [sizeLine_eq]; decide)))) r9 fun s11 I11 => ?_
        have P11 := I11.pin (it, o6) (List.mem_append_right _ (List.mem_append_right _ (mem_pinsAt List.mem_cons_self e6)))
        refine ⟨xs.length - (i + 1), by omega, i + 1, _, rfl, hlt, (I11.unpinned (pins := [])).weak (by show (σ.set j none).length = (σ.set j (some xs[i])).length; rw [List.length_set, List.length_set]) (fun q v e => ?_), ⟨o6, P11.1, c6, q6⟩, P11.2.1, ?_, fun b o n e => ?_⟩
        · have e : (σ.set j none)[q]? = some (some v) := e
          by_cases hq : j = q
          · subst hq
            by_cases hz : j < σ.length
            · rw [List.getElem?_set_self hz] at e
              cases e
            · rw [List.getElem?_eq_none (by rw [List.length_set]; omega)] at e
              cases e
          · rw [List.getElem?_set_ne hq] at e ⊢
            exact e
        · rw [upd_same, List.take_add_one, ey]
          rfl
        · rw [upd_ne n]
          exact k9 b o (k5 b o n e)
    · have ei : i = xs.length := by omega
      subst ei
      refine next_end_hot (hotIn I5) nPit t5 pl5.isList (by have := r5.length; simp; omega) fun h6 k6 => ?_
      have I6 : Inv (X.blk sc (upd G D (.lst [])) scope ce1 [it]) [] (wipe σ [j]) H5 { s5 with heap := h6 } := I5.turned (t' := s5.toks) (fun b o n e => k6 b o n e) F5.1 F5.2.1 F5.2.2.2.1 F5.2.2.2.2.1 F5.2.2.2.2.2
      have I7 : Inv X pins σ H5 { s5 with heap := h6 } := Ic.call' (ch := [it]) I6.os I6.base I6.hok I6.bare fun b hb1 => by
        rw [List.mem_singleton.mp hb1]
        exact ⟨fIc.2.2.2.1, fIc.2.1, fIc.2.2.2.2.1, fIc.2.2.2.2.2⟩
      have nC : H5 sc.heap.objs.size = none := by
        have z : H5 ce1.locals = none := I6.free
        rw [eL] at z
        exact z
      obtain ⟨mm, hn, _⟩ := I6.loc
      have hn : ({ s5 with heap := h6 } : Shared).heap.Ns ce1.locals mm := hn
      rw [eL] at hn
      obtain ⟨f0, f1, f2, f3, f4, f5⟩ := Ic.fpOk (H' := H5) (Nat.le_refl sc.heap.objs.size) nC
      refine ⟨mm, hn, fun h'' sb2 => ⟨.ref D, H5, I7.turned (t' := s5.toks) (fun b o n e => (sb2.2 b n).trans e) f0 f1 f3 f4 f5, rfl, ?_⟩⟩
      rw [← hlen, List.take_length] at d5
      exact hend D H5 nD (fun b o e => k5 b o (fun z => by rw [z, nD] at e; cases e) e) d5
  exact codeAny_compStart_list loop (wpAny_pyIter_listiter turnD loop)
end
end FP

namespace FP
open PySem PySem.Spec PyProof.Rows L2 HotX L2H
theorem call_isP {X : Cx} {q : Addr × Obj} {D : Addr} (hq : q ∈ X.pn) (C : ExcC X.K D) (z1 : q.2.cls = .ref D) (z2 : q.2.dict = none) (hf : ∃ vs, q.2.data = .fields vs) : CallR X (.builtin "isinstance") (rIsE X.K D q.1) := by
  intro pins s σ H xs us Q I r h
  obtain ⟨c, cv, b, rfl, hcv, e, k⟩ := h
  cases r with
  | cons r1 r2 =>
    cases r2 with
    | cons r3 r4 =>
      cases r4
      cases r1
      have e3 := hcv _ r3
      subst e3
      have got := (I.pin q (List.mem_append_left _ hq)).1
      obtain ⟨vs, hv⟩ := hf
      have J : PySem.W.InstAt s.heap q.1 q.2 D none := by
        obtain ⟨qa, oc, od, oda, osl⟩ := q
        dsimp only at z1 z2 hv got ⊢
        subst z1 z2 hv
        exact ⟨got, rfl, rfl, trivial⟩
      exact PySem.W.kia_one (PySem.W.handS_kitx_exc C.hg C.hk C.hs C.hd C.ha C.hn C.ht C.hm) I.kIn J e (fun z => nomatch z) fun t => ⟨.bl b, H, I.kept (t' := t) fun _ _ z => z, rfl, k⟩
/-- what the head says of a class whose instances are asked -/
def excB (K : PySem.W.Frag) (D : Addr) : Bool :=
  He.eqO (PySem.W.findIn K (.ref D) "__getattribute__") (some (some (.builtin "BaseException.__getattribute__"))) && (He.eqO (PySem.W.findIn K (.ref D) "__getattr__") (some none) && (decide (PySem.W.subIn K (.ref D) (.type "BaseException") = some true) && (PySem.W.hasDictIn K D &&
  (He.eqO (PySem.W.findIn K (.ref D) "__class__") (some (some (.builtin "object.__class__"))) && (He.eqO (PySem.W.specialIn K (.builtin "object.__class__") "__get__") (some (some (.builtin "getset_descriptor.__get__"))) && (decide (PySem.W.takesIn K (.builtin "object.__class__") = some true) && decide (PySem.W.mroIn K D (.type "object") = some true)))))))
theorem excB_ok {K : PySem.W.Frag} {D : Addr} (h : excB K D = true) : ExcC K D := by
  obtain ⟨h1, h⟩ := He.ba h
  obtain ⟨h2, h⟩ := He.ba h
  obtain ⟨h3, h⟩ := He.ba h
  obtain ⟨h4, h⟩ := He.ba h
  obtain ⟨h5, h⟩ := He.ba h
  obtain ⟨h6, h⟩ := He.ba h
  obtain ⟨h7, h⟩ := He.ba h
  exact ⟨He.eqO_ok h1, He.eqO_ok h2, of_decide_eq_true h3, h4, He.eqO_ok h5, He.eqO_ok h6, of_decide_eq_true h7, of_decide_eq_true h⟩
/-- what a word about exceptions of class D finds: the classes asked, the answers -/
def wordB (K : PySem.W.Frag) (D : Str) (cs : List (Str × Bool)) : Bool :=
  excB K (He.ga K D) && (cs.all (fun c => decide (PySem.W.kitOne K (.ref (He.ga K D)) (.ref (He.ga K c.1)) = some c.2)) && decide (PySem.W.kitOne K (.ref (He.ga K D)) (.type "ValueError") = some true))
theorem wordB_ok {K : PySem.W.Frag} {D : Str} {cs : List (Str × Bool)} (h : wordB K D cs = true) : ExcC K (He.ga K D) ∧ (∀ c ∈ cs, PySem.W.kitOne K (.ref (He.ga K D)) (.ref (He.ga K c.1)) = some c.2) ∧ PySem.W.kitOne K (.ref (He.ga K D)) (.type "ValueError") = some true := by
  obtain ⟨h1, h⟩ := He.ba h
  obtain ⟨h2, h3⟩ := He.ba h
  exact ⟨excB_ok h1, fun c hc => of_decide_eq_true (List.all_eq_true.mp h2 c hc), of_decide_eq_true h3⟩
/-- the pinned exception of class D -/
structure Pin (X : Cx) (q : Addr × Obj) (D : Addr) : Prop where
  m : q ∈ X.pn
  C : ExcC X.K D
  z1 : q.2.cls = .ref D
  z2 : q.2.dict = none
  hf : ∃ vs, q.2.data = .fields vs
section
variable {X : Cx} {δ : De} {ω : Om} {a b c e : Expr} {es : List Expr} {d : PyData} {ds : List PyData} {pos p p1 p2 : Pos} {q : Addr × Obj} {D : Addr} {k : Bool}
theorem pd_isP (i : Nat) {y x : Str} {cv : V} {u : Value} (Z : Pin X q D) (hn : PE X (.Name x p2) (tC cv)) (hu : ∀ v, RelV cv v → v = u) (hk : PySem.W.kitOne X.K (.ref D) u = some k) (hm : X.mg "isinstance" = none) (hd : δ[i]? = some (some (.ad q.1)) := by rfl) (hN : X.N[i]? = some y := by rfl)
    (hv : Vis X.env.scope y := by first | exact Or.inl rfl | exact Or.inr (Or.inl rfl) | exact Or.inr (Or.inr rfl)) (h1 : (y == ("__debug__" : Str)) = false := by decide) (h2 : (y == ("__classdict__" : Str)) = false := by decide) (hg : Gl X "isinstance" := by rfl)
    (he : starEach [.Name y p1, .Name x p2] X.env = (false, eval (.Name y p1) X.env) :: starEach [.Name x p2] X.env := by rfl) (he2 : starEach [.Name x p2] X.env = (false, eval (.Name x p2) X.env) :: starEach [] X.env := by rfl) (hpl : (backTo pos (starEach [.Name x p2] X.env)).any (·.1) = false := by rfl) :
    PD X δ ω (.Call (.Name "isinstance" p) [.Name y p1, .Name x p2] [] pos) (.bool k) := fun σ H rl Q r => by
  obtain ⟨v, e1, e2⟩ := rl.sl i _ hd
  have e2 : v = .ref q.1 := e2
  subst e2
  exact we (pe_callB (call_isP Z.m Z.C Z.z1 Z.z2 Z.hf) hg hm (by decide +kernel) (pa_cons (pe_var hN hv h1 h2) (pa_cons hn pa_nil he2) he) (he := he) (hpl := hpl)) ⟨_, e1, cv, u, k, rfl, hu, hk, r _ H (Same.refl H) (.bl _)⟩
theorem pd_intB (hm : X.mg "int" = none) (ha : PD X δ ω a (.bool k)) (hg : Gl X "int" := by rfl) (he : starEach [a] X.env = (false, eval a X.env) :: starEach [] X.env := by rfl) : PD X δ ω (.Call (.Name "int" p) [a] [] pos) (.int (if k then 1 else 0)) :=
  pd_callTy call_int1 (fun ps vs H _ h Q r => by
    cases h with
    | cons h1 h2 =>
      cases h2
      cases h1
      exact .inr ⟨k, rfl, r _ H (Same.refl H) (.int _)⟩) hm (by decide +kernel) (pds_cons ha pds_nil he) hg (by decide) (by decide) he (by rfl)
/-- sum([elt for y in l]), of truths, while an exception is handled -/
theorem pd_sumH {elt l : Expr} {scope : Scope} {y : Str} {py lpos : Pos} {j : Nat} {bs : List Bool} (hc : HotC X) (hN : X.N.Nodup) (hl : PL X δ ω l (bs.map .bool)) (hz : bs.length ≤ 1000) (ok : BlkOk X.N X.env.scope scope [(y, j)])
    (hg : ∀ (s : Shared) (H : Hp) (C : Addr) (cl : List (Str × Addr)) (fp : List Addr), PG (X.blk s H scope (compEnvC scope cl C X.env) fp) (.Name y py) (gName j))
    (he : ∀ (b : Bool) (s : Shared) (H : Hp) (C : Addr) (cl : List (Str × Addr)) (fp : List Addr), PD (X.blk s H scope (compEnvC scope cl C X.env) fp) (δ.set j (some (.im (.bool b)))) ω elt (.int (if b then 1 else 0)))
    (hm : X.mg "sum" = none) (hgs : Gl X "sum" := by rfl) (hs : ∀ x, foldedSetIterable l X.env x = pure x := by intro _; rfl)
    (hst : starEach [.ListComp elt [⟨.Name y py, l, [], 0⟩] scope lpos] X.env = (false, eval (.ListComp elt [⟨.Name y py, l, [], 0⟩] scope lpos) X.env) :: starEach [] X.env := by rfl) :
    PD X δ ω (.Call (.Name "sum" p) [.ListComp elt [⟨.Name y py, l, [], 0⟩] scope lpos] [] pos) (.int (bs.map fun b => if b then 1 else 0).sum) := fun σ H rl Q r =>
  we (pe_callB (cr_sumH hc) hgs hm boot_sum (pa_cons (pe_lcH (j := j) hc hN pe_w ok hg (fun s H0 C cl fp => pe_blk s H0 C cl fp) hs) pa_nil hst) (he := hst)) (hl σ H rl _ fun a vs G s1 h1 h2 => by
    have ev : vs = bs.map V.bl := dpa_bl h2
    subst ev
    refine ⟨a, _, bs.map fun b => V.int (if b then 1 else 0), rfl, h1, by simp, by simpa using hz, fun i x y ex ey G1 s2 R kk s H0 C cl fp => ?_, fun D G1 nD s2 hD => ?_⟩
    · obtain ⟨b, eb, rfl⟩ : ∃ b, bs[i]? = some b ∧ x = V.bl b := by
        rw [List.getElem?_map] at ex
        cases e : bs[i]? with
        | none =>
          rw [e] at ex
          cases ex
        | some b =>
          rw [e] at ex
          cases ex
          exact ⟨b, rfl, rfl⟩
      rw [List.getElem?_map, eb] at ey
      cases ey
      refine he b s H0 C cl fp _ G1 (((rl.mono s1).mono s2).set (x := .im (.bool b)) (.bl b)) R fun v G2 s3 dv => ?_
      cases dv
      exact kk G2 s3
    · refine ⟨D, bs.map fun b => if b then 1 else 0, rfl, SqL.of ?_, r _ G1 (s1.trans s2) (.int _)⟩
      rw [List.map_map]
      exact hD)
/-- l.index(True) of a list of truths -/
theorem pd_idxT {l : Expr} {apos : Pos} {bs : List Bool} {j m : Nat} (hl : PL X δ ω l (bs.map .bool)) (hj : bs[j]? = some true) (hn : ∀ i, i < j → bs[i]? = some false)
    (hbase : attributeBase l "index" X.env (eval l X.env) = eval l X.env := by rfl)
    (hfew : ((backTo pos (starEach [.Constant (.bool true) m p1] X.env)).all (fun x => !x.1) && (backToKw pos (keywordEach [] X.env)).all (fun x => x.1.isSome)
      && decide (([.Constant (.bool true) m p1] : List Expr).length + ([] : List Keyword).length + (if ([] : List Keyword).isEmpty then 0 else 1) < 30)) = true := by rfl)
    (hline : (apos.endLine == pos.line) = true := by rfl) (hs : starEach [.Constant (.bool true) m p1] X.env = (false, eval (.Constant (.bool true) m p1) X.env) :: starEach [] X.env := by rfl) :
    PD X δ ω (.Call (.Attribute l "index" apos) [.Constant (.bool true) m p1] [] pos) (.int (j : Nat)) := fun σ H rl Q r =>
  we (pe_bm PySem.F.plainAttrs_list PySem.F.slot_list_index (by first | rfl | kernel_rfl | decide +kernel) mt_index pe_w (pa_cons pe_bl pa_nil hs) hbase hfew hline hs) (hl σ H rl _ fun a vs G s1 h1 h2 => by
    have ev : vs = bs.map V.bl := dpa_bl h2
    subst ev
    refine ⟨.inl ⟨rfl, _, h1⟩, a, _, _, j, .bl true, rfl, rfl, h1, rfl, ?_, ?_, rfl, fun m z lt e => ?_, r _ G s1 (.int _)⟩
    · rw [List.all_map]
      exact List.all_eq_true.mpr fun _ _ => rfl
    · rw [List.getElem?_map, hj]
      rfl
    · rw [List.getElem?_map, hn m lt] at e
      cases e
      rfl)
end
end FP

namespace FP
open PySem PySem.Spec PyProof.Rows L2 HotX L2H
structure WordOk (P : Program) (w : World) (K : PySem.W.Frag) (mg : Str → Option Value) (base : Heap) (k : Nat) (wd : Str) (fw : Addr → PyData → Prop) : Prop where
  ex : ∃ g, mg wd = some (.ref g) ∧ PySem.W.keepIn K (.ref g) = true ∧ ∀ (A : Around) (outer : List Env) (s : Shared) (H : Hp) (q : Addr × Obj) (C : Addr) (d : PyData) (ps : List Addr) (Q : VK), fw C d → RoomH k A → Hot1 A q → PinOk outer H s q → q.2.cls = .ref C → q.2.dict = none →
    Env0 P w K mg base A outer s H → (∀ a ∈ ps, H a ≠ none) → (∀ v H', Same H H' → Dp K (hid ps H') v d → Q v H') → codeAny (model P w) A (.call (.ref g) ⟨[.ref q.1], []⟩) (CR C8.CX0 outer P w H s Q C8.E0) s
theorem start1 {K : PySem.W.Frag} {H : Hp} {ps : List Addr} {N : List Str} {a : Addr} {n : Nat} (hn : N.length = n + 1) (hp : ∀ a ∈ ps, H a ≠ none) : Rl K H (L2.start N [.ref a]) (some (.ad a) :: List.replicate n none) ⟨ps, []⟩ := by
  refine ⟨?_, fun i r h => ?_, Ro.nil hp⟩
  · unfold L2.start
    simp [hn]
  · cases i with
    | zero =>
      cases h
      exact ⟨.ref a, rfl, rfl⟩
    | succ i =>
      rw [List.getElem?_cons_succ, List.getElem?_replicate] at h
      split at h
      · cases h
      · cases h
/-- such a def, by its body -/
theorem word_ok {P : Program} {w : World} {K : PySem.W.Frag} {mg : Str → Option Value} {base : Heap} {x : Str} {params : Arguments} {body : List Stmt} {scope : Scope} {kws : List (Str × V)} {f : Addr} {fd : FuncData} {N : List Str} {y : Str} {k n : Nat} {fw : Addr → PyData → Prop}
    (F : FunD K x x params body scope [] kws f fd) (hm : mg x = some (.ref f)) (S : FnScope N [y] scope) (hn : N.length = n + 1)
    (hb : ∀ (kV doc pm : Value) (an : Option Addr) (cdv ct : Value) (us : List Value), us.length = [y].length → bindArgs (PySem.W.fnOf x x params body scope .none kV doc pm an cdv ct) ⟨us, []⟩ = pure ([y].zip us))
    (hbody : ∀ (cdv : Value) (A : Around) (outer : List Env) (s : Shared) (H : Hp) (q : Addr × Obj) (C : Addr) (d : PyData) (ps : List Addr), fw C d → Hot1 A q → q.2.cls = .ref C → q.2.dict = none → RoomH k (A.deeper (envOfC x scope s.heap.objs.size f cdv)) →
      SD (cxH C8.CX0 P w K mg base N x scope f cdv A outer s H C8.E0 q) (fun _ _ _ _ => False) [] body (some (.ad q.1) :: List.replicate n none) ⟨ps, []⟩ (Fin (.ok d))) : WordOk P w K mg base (k + 1) x fw := by
  have hbs := FunD.bindsN (ps := [y]) F hb
  have kp := F.kp
  obtain ⟨oc, od, dV, kV, doc, pm, an, cdv, ct, osl, rfl, lk, hcd, hD, hK⟩ := F.ex
  refine ⟨f, hm, kp, fun A outer s H q C d ps Q hf hr hot pin c1 c2 e0 hp hQ => ?_⟩
  have old : ∀ b o, base.get? b = some o → s.heap.get? b = some o := fun b o e => (e0.bs b o e).1
  have inK : K.In s.heap := e0.mod.kin.keeps old
  have bnd := hbs s [.ref q.1] inK rfl
  refine codeAny_call_function hr.depth (inK _ _ lk) rfl S.co S.gen rfl (PySem.W.codeRec_of inK hcd) (bnd _ _ _ _ (wpAny_newFunctionEnv_cells S.kind (fun z hz => ?_) fun env he s1 x1 => ?_))
  · rcases S.par z.1 (List.of_mem_zip hz).1 with t | t
    · exact .inl t
    · exact .inr ⟨t, PySem.W.cellsFrom_some _ _ _ (.inl t)⟩
  subst he
  refine ⟨(e0.mod.nolimit.keeps old).keeps x1.toInCall.keep, codeAny_func ?_⟩
  have I : Inv (cxH C8.CX0 P w K mg base N x scope f cdv A outer s H C8.E0 q) [] (L2.start N [.ref q.1]) H s1 := inv_startH (us := [.ref q.1]) S pin e0 rfl (.cons rfl .nil) x1
  have go := hbody cdv A outer s H q C d ps hf hot c1 c2 (hr.deeper _) (L2.start N [.ref q.1]) H { nx := fun _ H' => Q .non H', rt := Q } (start1 hn hp) (fun _ z => nomatch z) ?_
  · refine wpAny_mono (pss_w.run [] s1 _ H _ I go) (fun fl s2 hs => ?_) fun _ _ z => z
    cases fl with
    | ret u =>
      obtain ⟨v, σ', H', J, rv, z⟩ := hs
      exact ⟨v, H', J.os, J.bare, J.base, J.hok, rv, z⟩
    | next =>
      obtain ⟨σ', H', J, z⟩ := hs
      exact ⟨.non, H', J.os, J.bare, J.base, J.hok, rfl, z⟩
    | brk =>
      obtain ⟨_, _, _, z⟩ := hs
      exact z.elim
    | cont =>
      obtain ⟨_, _, _, z⟩ := hs
      exact z.elim
  · have same : ∀ {ω' : Om} {H' : Hp}, Stp [] ⟨ps, []⟩ ω' H H' → Same H H' := fun st b o e => st.keep b o e (fun z => nomatch z) (.inl rfl)
    refine ⟨fun δ' ω' σ' H' z st l => ?_, fun r' ω' v H' z st l dv => ?_, fun _ _ _ _ z => (nomatch z), fun _ _ _ _ z => False.elim z, fun _ _ _ _ z => False.elim z⟩
    · cases z
      exact hQ .non H' (same st) .non
    · cases r' with
      | im d' =>
        cases z
        exact hQ v H' (same st) (dpm (hid_more fun b hb => List.mem_append_left _ (by rw [st.ps]; exact hb)) dv)
      | ad a => exact False.elim z
/-- the word is called, in the suite -/
theorem pe_word {X : Cx} {q : Addr × Obj} {k i : Nat} {wd n : Str} {fw : Addr → PyData → Prop} {C : Addr} {d : PyData} {p5 p6 p7 : Pos} (G : WordOk X.prog X.w X.K X.mg X.base k wd fw) (hr : RoomH k X.A) (hot : Hot1 X.A q) (hq : q ∈ X.pn) (c1 : q.2.cls = .ref C) (c2 : q.2.dict = none) (hf : fw C d)
    (hg : Gl X wd) (hN : X.N[i]? = some n) (hv : Vis X.env.scope n) (hdb : (wd == ("__debug__" : Str)) = false := by decide) (h1 : (n == ("__debug__" : Str)) = false := by decide) (h2 : (n == ("__classdict__" : Str)) = false := by decide)
    (he : starEach [.Name n p6] X.env = (false, eval (.Name n p6) X.env) :: starEach [] X.env := by rfl) :
    PE X (.Call (.Name wd p5) [.Name n p6] [] p7) (fun σ H Q => σ[i]? = some (some (.ref q.1)) ∧ ∃ ps, (∀ a ∈ ps, H a ≠ none) ∧ ∀ v H', Same H H' → Dp X.K (hid ps H') v d → Q v H') := by
  obtain ⟨g, m, kp, run⟩ := G.ex
  refine ⟨fun pins s σ H Q I h => ?_⟩
  obtain ⟨hs, ps, hp, hQ⟩ := h
  have ha : PA X [.Name n p6] (tCons (fun σ H Q => ∃ v, σ[i]? = some (some v) ∧ Q v H) tNil) := pa_cons (pe_var hN hv h1 h2) pa_nil he
  refine wpAny_Call_Name_kw (ld_glob I hg m (PySem.W.callWith_K (h₀ := X.base) I.ok.mod.kin kp (thn (ha.run p7 pins s σ H (fun vs H1 => vs = [V.ref q.1] ∧ H1 = H) I ⟨_, hs, rfl, rfl⟩) fun us s1 w => ?_) he (by rfl)) hdb)
  obtain ⟨vs, H1, J, rv, ev, eH⟩ := w
  subst ev
  subst eH
  refine ⟨J.kIn, ?_⟩
  rw [Vals.ref1 rv]
  have P1 := J.pin q (List.mem_append_left _ hq)
  have pin : PinOk X.stack H1 s1 q := ⟨P1.1, P1.2.1, fun z => (List.mem_cons.mp (J.stkSub q.1 z)).elim P1.2.2.1 P1.2.2.2.1, P1.2.2.2.2⟩
  refine wpAny_call (codeAny_mono (run X.A X.stack s1 H1 q C d ps Q hf hr hot pin c1 c2 J.env0 hp hQ) fun r s2 z => ?_)
  cases r with
  | error e => exact False.elim z
  | ok fl =>
    cases fl with
    | ret u => exact J.after z
    | next => exact False.elim z
    | brk => exact False.elim z
    | cont => exact False.elim z
end FP

namespace FP
open PySem PySem.Spec PyProof.Rows L2 HotX L2H
def PR (X : Cx) (W : WX) (δ : De) (ω : Om) (e : Expr) (r : Rs) : Prop := ∀ σ H, Rl X.K H σ δ ω → ∀ Q : VK, RsQ X.K (ads ω) H Q (fun cls d H' => W cls d σ H') r → wpe X e σ H Q
section
variable {X : Cx} {W : WX} {δ : De} {ω : Om} {a e : Expr} {es : List Expr} {d : PyData} {ds : List PyData} {pos p : Pos} {k : Nat} {x : Str}
theorem PD.pr (h : PD X δ ω e d) : PR X W δ ω e (.ok d) := fun σ H rl Q q => h σ H rl Q q
theorem pr_call {fr : List PyData → Rs → Prop} {rr : Rs} (G : DefOk X.prog X.w X.K X.mg X.base k x fr) (hr : Room k X.A) (tk : L2N.Takes X W) (ha : PDs X δ ω (a :: es) ds) (hf : fr ds rr) (hg : Gl X x := by rfl)
    (hdb : (x == ("__debug__" : Str)) = false := by decide) (he : starEach (a :: es) X.env = (false, eval a X.env) :: starEach es X.env := by rfl) (hpl : (backTo pos (starEach es X.env)).any (·.1) = false := by rfl) : PR X W δ ω (.Call (.Name x p) (a :: es) [] pos) rr := fun σ H rl Q q => by
  obtain ⟨f, fd, ps, F, m, kp, b⟩ := G.ex
  refine we (pe_callS (E := WE W) F hr hg m kp b (fun σ => L2N.passAt tk σ) pa_w hdb he hpl) (ha σ H rl _ fun vs H1 s1 d1 => ⟨ads ω, ds, rr, there_mono rl.ro.there s1, d1, hf, ?_⟩)
  cases rr with
  | ok d => exact fun v H' s' d' => q v H' (s1.trans s') d'
  | er C => exact fun H' s' => q H' (s1.trans s')
end
abbrev lamN (X : Cx) (A : Around) (outer : List Env) (s : Shared) (H : Hp) (E : XK) (scope : Scope) (f c' : Addr) : Cx :=
  (LamX.lamCx X A outer s H E scope f c').tr [] (fun e t => wpAny (model X.prog X.w) (A.deeper (LamX.lamEnv X scope s.heap.objs.size f c')) (leaving (LamX.lamEnv X scope s.heap.objs.size f c') e) (fun _ t' => L2N.CX X.prog X.w outer H s E e t') (fun e' t' => L2N.CX X.prog X.w outer H s E e' t') t)
theorem lamN_takes {X : Cx} {A : Around} {outer : List Env} {s : Shared} {H : Hp} {E : XK} {scope : Scope} {f c' : Addr} : L2N.Takes (lamN X A outer s H E scope f c') (WOf E) := L2N.takes_of rfl rfl rfl rfl
/-- it is called, where what it lets out is taken -/
theorem pe_lamN {X Z : Cx} {pins : List (Addr × Obj)} {σ : L2.St} {H : Hp} {s : Shared} {f c' : Addr} {pm ctv : Value} {params : Arguments} {body : Expr} {scope : Scope} {k i : Nat} {a : Str} {W : WX} {p1 p2 : Pos}
    (hP : Z.prog = X.prog) (hw : Z.w = X.w) (hK : Z.K = X.K) (hm : Z.mg = X.mg) (hB : Z.base = X.base) (h0 : Z.s_0 = s) (hH : Z.H_0 = H) (hex : Z.ex = []) (hfs : Z.fs = frs X.stack)
    (I : Inv X pins σ H s) (L : LamX.LamS X.env.scope scope) (hf : s.heap.get? f = some (PySem.W.kla_obj "<lambda>" (X.env.qual ++ "<lambda>") params body scope (cloFrom X.env.cells scope.names []) pm c' ctv)) (hfn : H f = none) (hfr : f ∉ frs X.stack)
    (hbind : bindArgs (PySem.W.kla_fn "<lambda>" (X.env.qual ++ "<lambda>") params body scope (cloFrom X.env.cells scope.names []) pm (.ref c') ctv) ⟨[], []⟩ = pure []) (tk : L2N.Takes Z W) (hr : Room (k + 1) Z.A)
    (hN : Z.N[i]? = some a) (hv : Vis Z.env.scope a) (hd : (a == ("__debug__" : Str)) = false := by decide) (hcd : (a == ("__classdict__" : Str)) = false := by decide) :
    PE Z (.Call (.Name a p1) [] [] p2) (fun τ G Q => τ[i]? = some (some (.ref f)) ∧ G c' = some (LamX.CodeO c' (X.env.qual ++ "<lambda>")) ∧
      ∀ (A : Around) (outer : List Env) (t : Shared), Room k (A.deeper (LamX.lamEnv X scope t.heap.objs.size f c')) → wpe (lamN X A outer t G (WE W τ) scope f c') body σ G Q) := by
  obtain ⟨zp, zw, zk, zmg, zb, zA, zN, zs, zh, zenv, zo, zst, zex, zfn, zc, zpn, zxe⟩ := Z
  dsimp only at hP hw hK hm hB h0 hH hex
  subst hP hw hK hm hB h0 hH hex
  refine ⟨fun pinsZ sZ τ G Q IZ h => ?_⟩
  obtain ⟨t1, t2, t3⟩ := h
  refine wpAny_Call_Name_kw (thn ((pe_var (pos := p1) (i := i) hN hv hd hcd).run pinsZ sZ τ G (fun v G1 => v = .ref f ∧ G1 = G) IZ ⟨.ref f, t1, rfl, rfl⟩) fun u s1 w => ?_)
  obtain ⟨v, G1, J, rv, ev, eG⟩ := w
  subst ev
  subst eG
  obtain rfl : u = Value.ref f := rv
  have un : Un (frs X.stack) [] zh G1 zs.heap s1.heap := by
    rw [← hfs]
    exact J.base
  have gf := un.keep f _ hf hfn hfr (fun z => nomatch z)
  have rc : codeAny (model X.prog X.w) zA (.call (.ref f) ⟨[], []⟩) (CR (L2N.CX X.prog X.w) zst X.prog X.w G1 s1 Q (WE W τ)) s1 := by
    obtain ⟨⟨oc, vs, tt, g1, g2, g3⟩, _, _⟩ := J.hok c' _ t2
    refine PySem.W.kla_callFunE hr.depth gf rfl L.co L.gen rfl ⟨c', oc, vs, tt, rfl, g1, g2, g3⟩ ?_
    rw [hbind]
    refine wpAny_pure (wpAny_newFunctionEnv (fun y hy => (L.own y hy).2) (fun y hy => (nomatch hy)) (fun h2 n2 b2 => ⟨J.nolimit.fresh _ b2, ?_⟩) L.kind)
    show codeAny _ _ (.expr body (LamX.lamEnv X scope s1.heap.objs.size f c')) _ _
    have J2 := (LamX.lam_start2 (E := WE W τ) (scope := scope) (f := f) (c' := c') (tk := s1.toks + ([] : List (Str × Value)).length) I L J.env0 hr.hd un n2 (fun b o e => b2.extBut b o (Nat.ne_of_lt (Heap.lt_size e)) (Heap.get?_push_of_some _ e))).toTry (fun e t => wpAny (model X.prog X.w) (zA.deeper (LamX.lamEnv X scope s1.heap.objs.size f c')) (leaving (LamX.lamEnv X scope s1.heap.objs.size f c') e) (fun _ t' => L2N.CX X.prog X.w zst G1 s1 (WE W τ) e t') (fun e' t' => L2N.CX X.prog X.w zst G1 s1 (WE W τ) e' t') t)
    refine PySem.W.kla_codeExpr (wpAny_mono (pe_w.run [] _ σ G1 Q J2 (t3 zA zst s1 (hr.deeper _))) (fun v s3 z => ?_) fun e s3 z => z)
    obtain ⟨v1, G3, J3, r3, q3⟩ := z
    exact ⟨v1, G3, J3.os, J3.bare, J3.base, J3.hok, r3, q3⟩
  refine PySem.W.callWith_F0 ⟨_, _, _, _, gf⟩ (wpAny_call (codeAny_mono rc fun r s2 z => ?_))
  · cases r with
    | error e => exact L2N.passAt tk τ pinsZ G1 s1 e s2 J z
    | ok fl =>
      cases fl with
      | ret u => exact J.after z
      | next => exact False.elim z
      | brk => exact False.elim z
      | cont => exact False.elim z
end FP

namespace FP
open PySem PySem.Spec PyProof.Rows L2 HotX L2H
theorem takesF {X : Cx} : L2N.Takes X (fun _ _ _ _ => False) := fun _ _ x => by
  obtain ⟨_, _, _, _, _, _, _, _, _, _, _, _, _, _, _, _, z⟩ := x
  cases z
/-- told: what the lambda answers, or the word about what it raised -/
def ToldD (K : PySem.W.Frag) (CS : Addr) (fw : Addr → PyData → Prop) (d : PyData) : Rs → Prop
  | .ok d' => d' = d
  | .er C => fw C d ∧ PySem.W.exmOne K (.ref C) (.ref CS) = some true
section
variable {X : Cx} {T : List (Addr × Str)} {δ : De} {ω : Om} {d : PyData} {pos p : Pos} {k : Nat}
theorem px_told {x a e n wd : Str} {st : Stmt} {Ng : List Str} {CS : Addr} {fw : Addr → PyData → Prop} {r : Rs} {p1 p2 p3 p4 p5 p6 p7 p8 p9 p10 lpos : Pos} {params : Arguments} {body : Expr} {scope : Scope} (G : Told X.K X.mg x st) (L : LamT X T) (hT : T ≠ []) (hps : ω.ps = []) (hr : Room (k + 2) X.A)
    (WK : WordOk X.prog X.w X.K X.mg X.base (k + 1) wd fw)
    (hst : defBody st = [.Try [.Return (some (.Call (.Name a p1) [] [] p2)) p3] [.ExceptHandler (some (.Name e p4)) (some n) [.Return (some (.Call (.Name wd p5) [.Name n p6] [] p7)) p8] p9] [] [] p10]) (S : FnScope Ng [a] (defScope st)) (hNd : Ng.Nodup) (hNg : Ng[0]? = some a) (hva : Vis (defScope st) a)
    (hN1 : Ng[1]? = some n) (hkn : (defScope st).names.lookup n = some .local) (hge : (defScope st).names.lookup e = some .globalImplicit) (hgw : (defScope st).names.lookup wd = some .globalImplicit) (hme : X.mg e = some (.ref CS))
    (hbn : ∀ (kV doc pm : Value) (an : Option Addr) (cdv ct : Value) (us : List Value), us.length = [a].length → bindArgs (PySem.W.fnOf x x (defArgs st) (defBody st) (defScope st) .none kV doc pm an cdv ct) ⟨us, []⟩ = pure ([a].zip us))
    (hb : ∀ (A : Around) (outer : List Env) (s : Shared) (H : Hp) (E : XK) (f c' : Addr), Room k (A.deeper (LamX.lamEnv X scope s.heap.objs.size f c')) → PR (lamN X A outer s H E scope f c') (WOf E) δ ω body r)
    (hd : ToldD X.K CS fw d r) (hL : LamX.LamS X.env.scope scope) (hdef : defaultsOf params X.env = ([], []) := by rfl) (hbind : ∀ (q : Str) (cl : List (Str × Addr)) (pm cv ctv : Value), bindArgs (PySem.W.kla_fn "<lambda>" q params body scope cl pm cv ctv) ⟨[], []⟩ = pure [] := by intros; rfl)
    (hg : Gl X x := by rfl) (hdb : (x == ("__debug__" : Str)) = false := by decide) (hd1 : (a == ("__debug__" : Str)) = false := by decide) (hcd1 : (a == ("__classdict__" : Str)) = false := by decide) (hde : (e == ("__debug__" : Str)) = false := by decide) (hdw : (wd == ("__debug__" : Str)) = false := by decide)
    (hdn : (n == ("__debug__" : Str)) = false := by decide) (hcn : (n == ("__classdict__" : Str)) = false := by decide) : PX X T δ ω (.Call (.Name x p) [.Lambda params body scope lpos] [] pos) d := fun σ H rl tb Q q => by
  obtain ⟨g, fd, F, hm⟩ := G.ex
  obtain ⟨c, P, TB, hcode, hmT, hu⟩ := L.ex
  have hbs := FunD.bindsN (ps := [a]) F hbn
  have kp := F.kp
  obtain ⟨oc, od, dV, kV, doc, pm, an, cdv, ct, osl, rfl, lk, hcd, hD, hK⟩ := F.ex
  unfold wpe
  intro pins s I
  refine wpAny_Call_Name_kw (ld_glob I hg hm ?_ hdb)
  refine PySem.W.callWith_K (h₀ := X.base) I.ok.mod.kin kp ?_ (by rfl) (by rfl)
  show wpAny _ _ (spliced ((false, eval (.Lambda params body scope lpos) X.env) :: backTo pos (starEach [] X.env))) _ _ s
  refine Calls.spliced_cons (LamX.lam_make2 I TB hcode hmT hu tb hdef (hL.has I.ok) fun f c' pm' ctv H1 s' I1 eN T1 hf hfn hfr hco => Calls.spliced_nil ⟨I1.kIn, ?_⟩)
  have rl1 : Rl X.K H1 σ δ ω := rl_ext (T := T) eN hps rl
  have done : ∀ v H2, Same H1 H2 → Dp X.K (hid (ads ω) H2) v d → Q v H2 := fun v H2 s2 d2 => q v H2 ⟨fun b o h _ p => s2 b o (eN b o h (p.resolve_left hT)), fun a h => .inl h, rfl, fun _ => T1.ext s2⟩ (rl1.mono s2) d2
  refine wpAny_call (codeAny_mono (R := CR C8.CX0 X.stack X.prog X.w H1 s' Q C8.E0) (LamX.run_ofS (N := Ng) (ps := [a]) (us := [.ref f]) (vs := [.ref f]) lk hcd S hr I1.env0 (hbs s' [.ref f] I1.kIn rfl) (.cons rfl .nil) rfl fun hr' => ?_) fun rr s2 z => ?_)
  · rw [hst]
    -- the def's own context
    have tryW := L2N.ps_try_as (X := (cxOf C8.CX0 X.prog X.w X.K X.mg X.base Ng x (defScope st) g cdv X.A X.stack s' H1 C8.E0).nox) (x := e) (n := n) (c := .ref CS) (i := 1) (np := p4) (pos := p10) (pos' := p9) (b₀ := .Return (some (.Call (.Name wd p5) [.Name n p6] [] p7)) p8) (suite := [])
      (body := [.Return (some (.Call (.Name a p1) [] [] p2)) p3]) (Wout := fun _ _ _ _ => False)
      (tb := fun W D τ G => τ[0]? = some (some (.ref f)) ∧ G c' = some (LamX.CodeO c' (X.env.qual ++ "<lambda>")) ∧ ∀ (A : Around) (outer : List Env) (t : Shared), Room k (A.deeper (LamX.lamEnv X scope t.heap.objs.size f c')) → wpe (lamN X A outer t G (WE W τ) scope f c') body σ G D.rt)
      (ts := fun b cls dd D τ G => ∃ C, cls = .ref C ∧ dd = none ∧ fw C d ∧ τ[1]? = some (some (.ref b)) ∧ (∀ a ∈ ads ω, G a ≠ none) ∧ ∀ v G', Same G G' → Dp X.K (hid (ads ω) G') v d → D.rt v G')
      rfl rfl hNd hN1 hkn ⟨hge, hde, .inl hme⟩ takesF
      (fun W pn xe tk _ => pss_one (ps_ret (pe_lamN (X := X) (Z := ((cxOf C8.CX0 X.prog X.w X.K X.mg X.base Ng x (defScope st) g cdv X.A X.stack s' H1 C8.E0).nox).tr pn xe) rfl rfl rfl rfl rfl rfl rfl rfl rfl I1 hL hf hfn hfr (hbind _ _ _ _ _) tk hr' hNg hva hd1 hcd1)))
      (fun b oe cls dd pn hz hfd => ⟨fun pins2 s2 τ G D J h => ?_⟩)
    · refine ⟨_, (pss_one tryW).nox, ?_⟩
      refine ⟨rfl, hco, fun A outer t hr2 => ?_⟩
      refine hb A outer t H1 _ f c' hr2 σ H1 rl1 Q ?_
      cases r with
      | ok d' =>
        cases hd
        exact done
      | er C =>
        intro H2 s2
        exact ⟨true, hd.2, fun _ b nb => ⟨C, rfl, rfl, hd.1, by
          rw [List.getElem?_set_self]
          unfold L2.start
          have := (List.getElem?_eq_some_iff.mp hN1).1
          simp
          omega, there_mono rl1.ro.there s2, fun v G' s3 dv => done v G' (s2.trans s3) dv⟩, fun z => by cases z⟩
    · obtain ⟨C, rfl, rfl, hfw, h1, h2, h3⟩ := h
      obtain ⟨vs, hv⟩ := hfd
      have pw := pe_word (X := ((cxOf C8.CX0 X.prog X.w X.K X.mg X.base Ng x (defScope st) g cdv X.A X.stack s' H1 C8.E0).nox).suite b ((b, oe) :: pn)) (q := (b, oe)) (i := 1) (p5 := p5) (p6 := p6) (p7 := p7) WK ⟨(roomH_of hr').dp, (roomH_of hr').un⟩ ⟨rfl, vs, hv, hz.2.2 vs hv⟩ List.mem_cons_self hz.1 hz.2.1 hfw hgw hN1 (.inl hkn) hdw hdn hcn
      exact (pss_one (ps_ret (pos := p8) pw)).run pins2 s2 τ G D J ⟨h1, ads ω, h2, h3⟩
  · cases rr with
    | error e => exact False.elim z
    | ok fl =>
      cases fl with
      | ret u => exact I1.after z
      | next => exact False.elim z
      | brk => exact False.elim z
      | cont => exact False.elim z
end
end FP

namespace FP
open PySem PySem.Spec PyProof.Rows L2
section
variable {X : Cx} {W : WX} {T : List (Addr × Str)} {δ : De} {ω : Om} {a b c e : Expr} {es : List Expr} {d da db dz : PyData} {ds dt : List PyData} {pos p : Pos} {k : Bool} {x : Str} {R : Out → Prop} {ss : List Stmt}
theorem pd_neg {i : Int} (ha : PD X δ ω a (.int i)) : PD X δ ω (.UnaryOp .USub a pos) (.int (-i)) := fun σ H rl Q q =>
  we (pe_un un_neg pe_w) (ha σ H rl _ fun v H1 s1 d1 => by
    cases d1
    exact ⟨i, rfl, q _ H1 s1 (.int _)⟩)
/-- list of a tuple -/
theorem pn_listT (hm : X.mg "list" = none) (ha : PD X δ ω a (.tuple ds)) (hg : Gl X "list" := by rfl) (he : starEach [a] X.env = (false, eval a X.env) :: starEach [] X.env := by rfl) : PN X δ ω (.Call (.Name "list" p) [a] [] pos) ds := fun σ H rl Q k =>
  we (pe_callTy call_list_of hg hm (by decide +kernel) (pa_cons pe_w pa_nil he) (he := he)) (ha σ H rl _ fun v H1 s1 d1 => by
    cases d1 with
    | tup h1 h2 => exact ⟨_, _, rfl, .inr (same_sqt hid_sub h1), fun l hl => k l _ _ (s1.trans (same_new hl)) (s1.free hl) upd_same (dpam (hid_new hl (same_new hl)) h2)⟩)
end
end FP

namespace FP
open PySem PySem.Spec PyProof.Rows L2
section
variable {X : Cx} {W : WX} {T : List (Addr × Str)} {δ : De} {ω : Om} {iter : Expr} {pos : Pos} {R : Out → Prop} {ss sa : List Stmt}
end
end FP

namespace FP
open PySem PySem.Spec PyProof.Rows L2
@[irreducible] def wpm (X : Cx) (cs : List MatchCase) (x : V) (first : Bool) : TS := fun D σ H => ∀ pins s u, Inv X pins σ H s → RelV x u → wpAny (model X.prog X.w) X.A (matchCases cs X.env u first) (SP X pins D) X.xe s
/-- the cases, asked of data -/
def MC (X : Cx) (W : WX) (T : List (Addr × Str)) (cs : List MatchCase) (d : PyData) (δ : De) (ω : Om) (R : Out → Prop) : Prop :=
  ∀ (first : Bool) (x : V) σ H D, Rl X.K H σ δ ω → LamX.Tabs T H → Dp X.K (hid (ads ω) H) x d → Kt X W T ω H D R → wpm X cs x first D σ H
/-- patterns that are names alone -/
def capN : List Pattern → Option (List Str)
  | [] => some []
  | .MatchAs none (some n) _ :: ps => (capN ps).map (n :: ·)
  | _ => none
theorem each_caps {M : Model} {A : Around} {E : Value → Shared → Prop} {env : Env} : ∀ {ps : List Pattern} {ns : List Str} {us : List Value} {s : Shared} {Q : Option (List (Str × Value)) → Shared → Prop}, capN ps = some ns → us.length = ns.length → Q (some (ns.zip us)) s → wpAny M A (matchEach ps env us) Q E s
  | [], ns, us, s, Q, h, hl, q => by
    cases h
    exact wpAny_matchEach_nil q
  | p :: ps, ns, us, s, Q, h, hl, q => by
    unfold capN at h
    split at h
    · rename_i h2
      cases h2
    · rename_i n pp ps' heq
      cases heq
      cases e : capN ps with
      | none =>
        rw [e] at h
        cases h
      | some ns' =>
        rw [e] at h
        cases h
        match us, hl with
        | u :: us', hl => exact wpAny_matchEach_cons (wpAny_matchPattern_Capture (each_caps e (Nat.succ.inj hl) q))
    · cases h
section
variable {X : Cx} {W : WX} {T : List (Addr × Str)} {δ : De} {ω : Om} {e : Expr} {d : PyData} {ds : List PyData} {pos p1 p2 p3 : Pos} {R : Out → Prop} {ss body : List Stmt} {cs : List MatchCase} {ps : List Pattern} {z : Str} {k : Nat}
theorem sd_match (he : PD X δ ω e d) (hm : MC X W T cs d δ ω (Nxt X W T ss R)) : SD X W T (.Match e cs pos :: ss) δ ω R := by
  refine sd_cons fun σ H D rl t kt => ?_
  have h1 := he σ H rl (fun v H1 => wpm X cs v true D σ H1) fun v H1 s1 d1 => hm true v σ H1 D (rl.mono s1) (t.ext s1) d1 (kt.step (.of s1))
  unfold wps
  intro pins s I
  refine wpAny_Match (wpAny_mono (pe_w.run pins s σ H _ I h1) (fun u s1 w => ?_) fun _ _ x => x)
  obtain ⟨v, H1, J, rv, q⟩ := w
  unfold wpm at q
  exact q pins s1 u J rv
theorem mc_nil (h : R (.nx δ ω)) : MC X W T [] d δ ω R := fun first x σ H D rl t dx kt => by
  unfold wpm
  exact fun pins s u I r => wpAny_matchCases_nil ⟨σ, H, I, kt.nx δ ω σ H h .refl rl⟩
/-- another number of things -/
theorem mc_len (hn : ds.length ≠ ps.length) (hz : ds.length ≤ 100000) (hr : MC X W T cs (.tuple ds) δ ω R) (hstar : ps.findIdx? (·.isStar) = none := by rfl) (hwild : (ps.all fun p => p.isWildcard || (p.isStar && p.names.isEmpty)) = false := by rfl) :
    MC X W T (⟨.MatchSequence ps p1, none, body⟩ :: cs) (.tuple ds) δ ω R := fun first x σ H D rl t dx kt => by
  have h2 := hr false x σ H D rl t dx kt
  unfold wpm at h2 ⊢
  intro pins s u I r
  cases dx with
  | tup g1 g2 =>
    obtain rfl : u = Value.ref _ := r
    obtain ⟨its, rv, it, _⟩ := I.tuple (same_sqt hid_sub g1)
    have len : its.length = ds.length := by rw [← rv.length, dpa_len g2]
    exact wpAny_matchCases_cons (matchSeq_tuple_miss it (by rw [List.size_toArray, len]; omega) (by rw [List.size_toArray, len]; exact hn) (h2 pins _ _ (I.kept (t' := s.toks + 1 + 1) fun _ _ z => z) rfl) hstar hwild)
theorem seq_word {E : Value → Shared → Prop} {pins : List (Addr × Obj)} {σ : L2.St} {H : Hp} {s : Shared} {a : Addr} {vs : List V} {y : Str} {Q : Option (List (Str × Value)) → Shared → Prop} (hc : X.calm = true) (I : Inv X pins σ H s) (g : SqT X.K H a (.str y :: vs)) (hl : vs.length = ps.length) (hz : vs.length < 100000)
    (hq : ∀ us s1, Inv X pins σ H s1 → Vals vs us → if y = z then wpAny (model X.prog X.w) X.A (matchEach ps X.env us) (fun r s2 => Q r s2) X.xe s1 else Q none s1) (hstar : (.MatchValue (.Constant (.str z) k p2) p3 :: ps : List Pattern).findIdx? (·.isStar) = none) :
    wpAny (model X.prog X.w) X.A (matchPattern (.MatchSequence (.MatchValue (.Constant (.str z) k p2) p3 :: ps) p1) X.env (.ref a)) Q X.xe s := by
  obtain ⟨its, rv, it, _⟩ := I.tuple g
  have len : its.length = (vs.length + 1) := by rw [← rv.length]; rfl
  cases rv with
  | cons r0 rr =>
    rename_i u0 us
    have lus : us.length = vs.length := by rw [← rr.length]
    refine matchSeq_tuple_hit it (by rw [List.size_toArray]; simp only [List.length_cons]; omega) (by rw [List.size_toArray]; simp only [List.length_cons]; omega) ?_ hstar rfl
    have J : Inv X pins σ H { s with toks := s.toks + 1 + 1 } := I.kept (t' := s.toks + 1 + 1) fun _ _ z => z
    have e1 : (u0 :: us).toArray.size = (.MatchValue (.Constant (.str z) k p2) p3 :: ps : List Pattern).length := by
      rw [List.size_toArray]
      simp only [List.length_cons]
      omega
    rw [← e1]
    refine unpackItems_tuple (I.ok.hd hc) (s := { s with toks := s.toks + 1 + 1 }) it fun h' ext => ?_
    have J2 : Inv X pins σ H { s with heap := h', toks := s.toks + 1 + 1 } := I.kept (t' := s.toks + 1 + 1) fun b o e => ext b o (Nat.ne_of_lt (Heap.lt_size e)) e
    show wpAny _ _ (matchEach (.MatchValue (.Constant (.str z) k p2) p3 :: ps) X.env (u0 :: us)) _ _ _
    refine wpAny_matchEach_cons (wpAny_matchPattern_Value (wpAny_mono ((pe_str (X := X) (x := z) (j := k) (pos := p2)).run pins _ σ H (fun v H1 => v = .str z ∧ H1 = H) J2 ⟨rfl, rfl⟩) (fun u s3 w => ?_) fun _ _ x => x))
    obtain ⟨v, H1, J3, rz, ev, eH⟩ := w
    subst ev
    subst eH
    refine wpAny_mono (op_eq (X := X) pins s3 σ H1 (.str y) (.str z) u0 u (fun v H2 => v = .bl (decide (y = z)) ∧ H2 = H1) J3 r0 rz ⟨rfl, ?_, rfl⟩) (fun uc s4 w => ?_) fun _ _ x => x
    · by_cases c : y = z
      · subst c
        simp
      · rw [decide_eq_false c, decide_eq_false (fun q => c (V.str.inj q))]
    · obtain ⟨v, H2, J4, rb, ev, eH⟩ := w
      subst ev
      subst eH
      cases rb
      have q := hq us s4 J4 rr
      by_cases c : y = z
      · rw [decide_eq_true c]
        rw [if_pos c] at q
        refine wpAny_of_eq (a := true) rfl ?_
        simp only [if_true]
        refine wpAny_mono q (fun r s5 w => ?_) fun _ _ x => x
        cases r with
        | none => exact w
        | some more => exact w
      · rw [decide_eq_false c]
        rw [if_neg c] at q
        exact wpAny_of_eq (a := false) rfl q
end
end FP

namespace FP
open PySem PySem.Spec PyProof.Rows L2
/-- the names' slots, all of them locals -/
def capB (N : List Str) (sc : Scope) : List Str → List Nat → Bool
  | [], [] => true
  | n :: ns, i :: is => decide (N[i]? = some n) && (decide (sc.names.lookup n = some .local) && capB N sc ns is)
  | _, _ => false
theorem assign_caps {X : Cx} {pins : List (Addr × Obj)} {H : Hp} {Q : L2.St → Hp → Prop} {M : Model} {A : Around} {E : Value → Shared → Prop} (hN : X.N.Nodup) : ∀ {ns : List Str} {is : List Nat} {us : List Value} {vs : List V} {σ : L2.St} {s : Shared}, capB X.N X.env.scope ns is = true → Inv X pins σ H s → Vals vs us → us.length = ns.length → gAll is vs σ H Q →
    wpAny M A (assignInOrder ((ns.zip us).map fun x => bindName X.env x.1) ((ns.zip us).map (·.2))) (fun _ s' => ∃ σ' H', Inv X pins σ' H' s' ∧ Q σ' H') E s
  | [], [], [], _, σ, s, _, I, .nil, _, g => wpAny_assignInOrder_none ⟨σ, H, I, g.2⟩
  | n :: ns, i :: is, u :: us, _, σ, s, hb, I, .cons r rr, hl, g => by
    obtain ⟨h1, h2⟩ := He.ba hb
    obtain ⟨h2, h3⟩ := He.ba h2
    obtain ⟨v, w, e, g⟩ := g
    cases e
    refine wpAny_assignInOrder_more (wpAny_bindName (store_ok I hN (of_decide_eq_true h1) (.inl (of_decide_eq_true h2)) r (fun s1 J => ?_) (.inr (of_decide_eq_true h2))))
    exact assign_caps hN h3 J rr (Nat.succ.inj hl) g
  | n :: ns, [], _, _, _, _, hb, _, _, _, _ => by cases hb
  | [], i :: is, _, _, _, _, hb, _, _, _, _ => by cases hb
  | [], [], u :: us, _, _, _, _, _, _, hl, _ => by cases hl
  | n :: ns, i :: is, [], _, _, _, _, _, _, hl, _ => by cases hl
section
variable {X : Cx} {W : WX} {T : List (Addr × Str)} {δ : De} {ω : Om} {d : PyData} {ds : List PyData} {p1 p2 p3 : Pos} {R : Out → Prop} {body : List Stmt} {cs : List MatchCase} {ps : List Pattern} {y z : Str} {k : Nat}
/-- another word -/
theorem mc_word (hc : X.calm = true) (hn : y ≠ z) (hl : ds.length = ps.length) (hz : ds.length < 100000) (hr : MC X W T cs (.tuple (.str y :: ds)) δ ω R) (hstar : (.MatchValue (.Constant (.str z) k p2) p3 :: ps : List Pattern).findIdx? (·.isStar) = none := by rfl) :
    MC X W T (⟨.MatchSequence (.MatchValue (.Constant (.str z) k p2) p3 :: ps) p1, none, body⟩ :: cs) (.tuple (.str y :: ds)) δ ω R := fun first x σ H D rl t dx kt => by
  have h2 := hr false x σ H D rl t dx kt
  unfold wpm at h2 ⊢
  intro pins s u I r
  cases dx with
  | tup g1 g2 =>
    obtain rfl : u = Value.ref _ := r
    cases g2 with
    | cons b1 b2 =>
      cases b1
      refine wpAny_matchCases_cons (seq_word (E := X.xe) (y := y) (z := z) hc I (same_sqt hid_sub g1) (by rw [dpa_len b2]; exact hl) (by rw [dpa_len b2]; exact hz) (fun us s1 J rv => ?_) hstar)
      rw [if_neg hn]
      exact h2 pins s1 _ J rfl
/-- this word: the names are set -/
theorem mc_hit (is : List Nat) {ns : List Str} (hc : X.calm = true) (hN : X.N.Nodup) (hl : ds.length = ps.length) (hz : ds.length < 100000) (hi : is.length = ds.length) (hcap : capN ps = some ns) (hat : capB X.N X.env.scope ns is = true) (hb : SD X W T body (setAll δ is ds) ω R)
    (hstar : (.MatchValue (.Constant (.str z) k p2) p3 :: ps : List Pattern).findIdx? (·.isStar) = none := by rfl) :
    MC X W T (⟨.MatchSequence (.MatchValue (.Constant (.str z) k p2) p3 :: ps) p1, none, body⟩ :: cs) (.tuple (.str z :: ds)) δ ω R := fun first x σ H D rl t dx kt => by
  have lns : ∀ {ps : List Pattern} {ns : List Str}, capN ps = some ns → ns.length = ps.length := by
    intro ps
    induction ps with
    | nil =>
      intro ns h
      cases h
      rfl
    | cons p ps ih =>
      intro ns h
      unfold capN at h
      split at h
      · rename_i h2
        cases h2
      · rename_i n pp ps' heq
        cases heq
        cases e : capN ps with
        | none =>
          rw [e] at h
          cases h
        | some ns' =>
          rw [e] at h
          cases h
          rw [List.length_cons, List.length_cons, ih e]
      · cases h
  unfold wpm
  intro pins s u I r
  cases dx with
  | tup g1 g2 =>
    obtain rfl : u = Value.ref _ := r
    cases g2 with
    | cons b1 b2 =>
      cases b1
      refine wpAny_matchCases_cons (seq_word (E := X.xe) (y := z) (z := z) hc I (same_sqt hid_sub g1) (by rw [dpa_len b2]; exact hl) (by rw [dpa_len b2]; exact hz) (fun us s1 J rv => ?_) hstar)
      rw [if_pos rfl]
      have lus : us.length = ns.length := by rw [← rv.length, dpa_len b2, hl, lns hcap]
      refine each_caps hcap lus ?_
      refine wpAny_mono (assign_caps hN hat J rv lus (gAll_ok (Q := fun σ' H' => H' = H ∧ Rl X.K H σ' (setAll δ is ds) ω) rl b2 hi fun σ' l => ⟨rfl, l⟩)) (fun _ s2 w => ?_) fun _ _ x => x
      obtain ⟨σ', H', J2, eH, l2⟩ := w
      subst eH
      exact pss_w.run pins s2 σ' H' D J2 (hb σ' H' D l2 t kt)
end
end FP

namespace FP
open PySem PySem.Spec PyProof.Rows L2
abbrev Fs := List (Str × PyData)
def putD (f : Str) (d : PyData) : Fs → Fs
  | [] => [(f, d)]
  | (g, x) :: r => if g = f then (g, d) :: r else (g, x) :: putD f d r
/-- fields as they lie -/
inductive FV (K : PySem.W.Frag) (H : Hp) : Fs → List (Str × V) → Prop
  | nil : FV K H [] []
  | cons {g : Str} {d : PyData} {v : V} {fs : Fs} {vs : List (Str × V)} (h : Dp K H v d) (r : FV K H fs vs) : FV K H ((g, d) :: fs) ((g, v) :: vs)
section
variable {X : Cx} {W : WX} {T : List (Addr × Str)} {δ : De} {ω : Om} {e : Expr} {d : PyData} {ds : List PyData} {pos p p1 : Pos} {R : Out → Prop} {ss : List Stmt} {a C : Addr} {fs : Fs} {f x : Str}
end
end FP

namespace FP
open PySem PySem.Spec PyProof.Rows L2
def putAll : List Str → List PyData → Fs → Fs
  | f :: ns, d :: ds, fs => putAll ns ds (putD f d fs)
  | _, _, fs => fs
section
variable {X : Cx} {W : WX} {T : List (Addr × Str)} {δ : De} {ω : Om} {e : Expr} {d : PyData} {ds : List PyData} {pos p p1 : Pos} {R : Out → Prop} {ss : List Stmt} {a C : Addr} {fs : Fs} {f x : Str}
end
/-- self and what is handed to a method -/
structure MIn (K : PySem.W.Frag) (C : Addr) (vs : List V) (H : Hp) (ps : List Addr) (a : Addr) (fs : Fs) (ds : List PyData) : Prop where
  ex : ∃ dx fvs vs', vs = .ref a :: vs' ∧ (∀ b ∈ ps, H b ≠ none) ∧ H a = some (.ins C dx fvs) ∧ FV K (hid (a :: ps) H) fs fvs ∧ DpAll K (hid (a :: ps) H) vs' ds
/-- one that only reads -/
def spR (K : PySem.W.Frag) (C : Addr) (fr : Fs → List PyData → PyData → Prop) : Sp := fun vs H Q _ => ∃ ps a fs ds d, MIn K C vs H ps a fs ds ∧ fr fs ds d ∧ ∀ v H', Same H H' → Dp K (hid (a :: ps) H') v d → Q v H'
/-- one that writes self, or raises -/
def spW (K : PySem.W.Frag) (C : Addr) (fr : Fs → List PyData → Rs → Fs → Prop) : Sp := fun vs H Q E => ∃ ps a fs ds r fs', MIn K C vs H ps a fs ds ∧ fr fs ds r fs' ∧ ∀ H' dx fvs, (∀ b o, b ≠ a → H b = some o → H' b = some o) → H' a = some (.ins C dx fvs) → FV K (hid (a :: ps) H') fs' fvs →
  (match r with | .ok d => ∀ v, Dp K (hid (a :: ps) H') v d → Q v H' | .er Z => E (.ref Z) none H')
structure RdOk (P : Program) (w : World) (K : PySem.W.Frag) (mg : Str → Option Value) (base : Heap) (k : Nat) (C : Addr) (m : Str) (fr : Fs → List PyData → PyData → Prop) : Prop where
  ex : ∃ f fd ps, FnOk P w K mg base (L2N.CX P w) k f fd ps (spR K C fr) ∧ Meth K C m f ∧ L2.Binds K fd ps []
structure WrOk (P : Program) (w : World) (K : PySem.W.Frag) (mg : Str → Option Value) (base : Heap) (k : Nat) (C : Addr) (m : Str) (fr : Fs → List PyData → Rs → Fs → Prop) : Prop where
  ex : ∃ f fd ps, FnOk P w K mg base (L2N.CX P w) k f fd ps (spW K C fr) ∧ Meth K C m f ∧ L2.Binds K fd ps []
section
variable {P : Program} {w : World} {K : PySem.W.Frag} {mg : Str → Option Value} {base : Heap} {x qual : Str} {params : Arguments} {body : List Stmt} {scope : Scope} {kws : List (Str × V)} {f C : Addr} {fd : FuncData} {N ps : List Str} {k : Nat}
end
end FP

namespace FP
open PySem PySem.Spec PyProof.Rows L2
section
variable {X : Cx} {W : WX} {T : List (Addr × Str)} {δ : De} {ω : Om} {e : Expr} {es : List Expr} {d : PyData} {ds : List PyData} {pos p p1 apos : Pos} {R : Out → Prop} {ss : List Stmt} {a C : Addr} {fs fs' : Fs} {f x m : Str} {k : Nat}
end
end FP

namespace FP
open PySem PySem.Spec PyProof.Rows L2
mutual
theorem kdIs_ok {K : PySem.W.Frag} : ∀ {d : PyData} {u : Value}, kdIs K d u = true → ∃ v, RelV v u ∧ ∀ H, Dp K H v d
  | .none, .none, _ => ⟨.non, rfl, fun _ => .non⟩
  | .bool b, .bool c, h => by
    have e := of_decide_eq_true (show decide (b = c) = true from by unfold kdIs at h; exact h)
    subst e
    exact ⟨.bl b, rfl, fun _ => .bl b⟩
  | .int i, .int j t, h => by
    have e := of_decide_eq_true (show decide (i = j) = true from by unfold kdIs at h; exact h)
    subst e
    exact ⟨.int i, ⟨t, rfl⟩, fun _ => .int i⟩
  | .str x, .str y t, h => by
    have e := of_decide_eq_true (show decide (x = y) = true from by unfold kdIs at h; exact h)
    subst e
    exact ⟨.str x, ⟨t, rfl⟩, fun _ => .str x⟩
  | .tuple ds, .ref a, h => by
    unfold kdIs at h
    cases q : K.lookup a with
    | none =>
      rw [q] at h
      cases h
    | some o =>
      obtain ⟨oc, od, dt, osl⟩ := o
      rw [q] at h
      cases oc with
      | type c =>
        cases dt with
        | seq its n =>
          obtain ⟨h1, h2⟩ := He.ba (show (decide (c = "tuple") && (decide (its.size ≤ sizeLine) && kdAll K ds its.toList)) = true from h)
          obtain ⟨h3, h4⟩ := He.ba h2
          obtain ⟨vs, g1, g2⟩ := kdAll_ok h4
          exact ⟨.ref a, rfl, fun H => .tup (.inr ⟨_, its, n, q, congrArg Value.type (of_decide_eq_true h1), rfl, of_decide_eq_true h3, g1⟩) (g2 H)⟩
        | _ => cases h
      | _ => cases dt <;> cases h
theorem kdAll_ok {K : PySem.W.Frag} : ∀ {ds : List PyData} {us : List Value}, kdAll K ds us = true → ∃ vs, Vals vs us ∧ ∀ H, DpAll K H vs ds
  | [], [], _ => ⟨[], .nil, fun _ => .nil⟩
  | d :: ds, u :: us, h => by
    unfold kdAll at h
    obtain ⟨h1, h2⟩ := He.ba h
    obtain ⟨v, a1, a2⟩ := kdIs_ok h1
    obtain ⟨vs, b1, b2⟩ := kdAll_ok h2
    exact ⟨v :: vs, .cons a1 b1, fun H => .cons (a2 H) (b2 H)⟩
  | [], _ :: _, h => by
    unfold kdAll at h
    cases h
  | _ :: _, [], h => by
    unfold kdAll at h
    cases h
end
theorem gldB_ok {K : PySem.W.Frag} {mg : Str → Option Value} {h : Heap} (KX : K.In h) (G : h.Ns mainGlobals mg) {x : Str} {d : PyData} (c : gldB K x d = true) : GlD K mg x d := by
  unfold gldB at c
  cases e : PySem.W.nsIn K mainGlobals x with
  | none =>
    rw [e] at c
    cases c
  | some o =>
    rw [e] at c
    cases o with
    | none => cases c
    | some u =>
      obtain ⟨v, h1, h2⟩ := kdIs_ok c
      exact ⟨v, u, PySem.W.mg_of KX G e, h1, h2⟩
end FP

namespace FP
open PySem PySem.Spec PyProof.Rows L2
/-- a dict of the module -/
structure KTab (w : World) (K : PySem.W.Frag) (mg : Str → Option Value) (n : Str) (A : Addr) : Prop where
  ex : ∃ es c, KDict K w A es c
  mg : mg n = some (.ref A)
section
variable {X : Cx} {W : WX} {T : List (Addr × Str)} {δ : De} {ω : Om} {a b e : Expr} {es : List Expr} {d da db : PyData} {ds : List PyData} {pos p p2 : Pos} {k : Bool} {R : Out → Prop} {ss : List Stmt} {n : Str} {A : Addr} {z : Str}
end
theorem wipe_put {σ : L2.St} {v : Nat} {x : Option V} : ∀ r : List Nat, (wipe (σ.set v x) r).set v none = (wipe σ r).set v none
  | [] => by
    show (σ.set v x).set v none = σ.set v none
    rw [List.set_set]
  | u :: r => by
    show ((wipe (σ.set v x) r).set u none).set v none = ((wipe σ r).set u none).set v none
    by_cases e : u = v
    · subst e
      rw [List.set_set, List.set_set, wipe_put r]
    · rw [List.set_comm _ _ e, wipe_put r, List.set_comm _ _ (Ne.symm e)]
theorem wipe_mem {σ : L2.St} {v : Nat} {x : Option V} : ∀ {r : List Nat}, v ∈ r → wipe (σ.set v x) r = wipe σ r
  | u :: r, h => by
    show (wipe (σ.set v x) r).set u none = (wipe σ r).set u none
    by_cases e : u = v
    · subst e
      exact wipe_put r
    · rw [wipe_mem ((List.mem_cons.mp h).resolve_left (fun z => e z.symm))]
theorem wipe_wipe {σ : L2.St} {vs : List Nat} : ∀ {r : List Nat}, (∀ v ∈ r, v ∈ vs) → wipe (wipe σ r) vs = wipe σ vs
  | [], _ => rfl
  | u :: r, h => by
    show wipe ((wipe σ r).set u none) vs = wipe σ vs
    rw [wipe_mem (h u List.mem_cons_self), wipe_wipe fun v hv => h v (List.mem_cons_of_mem _ hv)]
def wipeD (δ : De) : List Nat → De
  | [] => δ
  | v :: vs => (wipeD δ vs).set v none
theorem rl_wipe {K : PySem.W.Frag} {H : Hp} {σ : L2.St} {δ : De} {ω : Om} (rl : Rl K H σ δ ω) : ∀ vs : List Nat, Rl K H (wipe σ vs) (wipeD δ vs) ω
  | [] => rl
  | v :: vs => (rl_wipe rl vs).forget
abbrev gZ (K : PySem.W.Frag) (j1 j2 j3 : Nat) : TG := gTup K 2 (gCons (gName j1) (gCons (gTup K 2 (gCons (gName j2) (gCons (gName j3) gNil))) gNil))
section
variable {X : Cx} {δ : De} {ω : Om} {a b elt : Expr} {pos p : Pos} {xs ys zs : List PyData}
end
end FP

namespace FP
open PySem PySem.Spec PyProof.Rows L2
section
variable {X : Cx} {W : WX} {T : List (Addr × Str)} {δ : De} {ω : Om} {e tg iter b : Expr} {d : PyData} {ds : List PyData} {pos p p1 : Pos} {R : Out → Prop} {ss : List Stmt} {x : Str}
/-- x = [elt for tg in iter], a list of one's own -/
theorem sd_ownLc (i : Nat) {py cpos : Pos} {elt : Expr} {scope : Scope} {y : Str} {j : Nat} {items ys : List PyData} (hc : X.calm = true) (hN : X.N.Nodup) (hw : PWs X δ ω tg iter items) (hl : ys.length = items.length) (ok : BlkOk X.N X.env.scope scope [(y, j)])
    (hg : ∀ (s : Shared) (H : Hp) (C : Addr) (cl : List (Str × Addr)) (fp : List Addr), PG (X.blk s H scope (compEnvC scope cl C X.env) fp) tg (gName j))
    (he : ∀ (i : Nat) (d y : PyData), items[i]? = some d → ys[i]? = some y → ∀ D o (s : Shared) (H : Hp) (C : Addr) (cl : List (Str × Addr)) (fp : List Addr), PD (X.blk s H scope (compEnvC scope cl C X.env) fp) (δ.set j (some (.im d))) (omD ω D o) elt y)
    (hz : items.length ≤ 10000) (hsw : swapsWith (.ListComp elt [⟨tg, iter, [], 0⟩] scope cpos) (some (.Name x py)) pos.line X.env = pure true) (hk : ∀ D, SD X W T ss (δ.set i (some (.ad D))) (omD ω D (.lst (ys.map .im))) R)
    (hy : X.N[i]? = some x := by rfl) (hyl : X.env.scope.names.lookup x = some .local := by rfl) (hs : ∀ x, foldedSetIterable iter X.env x = pure x := by intro _; rfl) : SD X W T (.Assign [.Name x py] (.ListComp elt [⟨tg, iter, [], 0⟩] scope cpos) pos :: ss) δ ω R := by
  obtain ⟨wi, h1, h2⟩ := hw
  refine sd_cons fun σ H D rl t k => ws (ps_setLc (i := i) (own := [(y, j)]) hc hN hy hyl hsw h1 ok hg (fun _ _ _ _ _ => pts_nil) (fun s H0 C cl fp => pe_blk s H0 C cl fp) hs) ?_
  refine lc_data rl (fun R kk => h2 σ H rl R kk) hl hz (fun i d y hd hy D o σ' H' rl' Q' k' s H0 C cl fp => he i d y hd hy D o s H0 C cl fp σ' H' rl' Q' k') (fun q vs H' s n hv dv => ?_)
  have rl2 : Rl X.K H' σ δ (omD ω q (.lst (ys.map .im))) := rl.omD n s hv (dpam (hid_more fun b h => List.mem_cons.mpr (ads_omD.mp h)) dv)
  refine k.nx _ _ _ H' (hk q) ⟨fun b o h _ _ => s b o h, fun a h => ?_, rfl, fun t => t.ext s⟩ (rl2.set (x := .ad q) (v := .ref q) rfl)
  rcases List.mem_cons.mp (show a ∈ q :: ω.os.map (·.1) from h) with z | z
  · exact .inr fun o ho => by
      rw [z, n] at ho
      cases ho
  · exact .inl z
end
end FP

namespace FP
open PySem PySem.Spec PyProof.Rows L2
def rCatQ (K : PySem.W.Frag) : R2 := fun x y H Q => ∃ l b xs zs, x = .ref l ∧ y = .ref b ∧ SqL K H l xs ∧ SqL K H b zs ∧ xs.length + zs.length ≤ sizeLine ∧ ∀ p, H p = none → Q (.ref p) (upd H p (.lst (xs ++ zs)))
theorem op_catQ {X : Cx} : OpR X (binaryOp .Add) (rCatQ X.K) := by
  intro pins s σ H x y v u Q I rx ry h
  obtain ⟨l, b, xs, zs, rfl, rfl, hl, hb, hz, q⟩ := h
  cases rx
  cases ry
  obtain ⟨is1, r1, p1, _⟩ := I.list hl
  obtain ⟨is2, r2, p2, _⟩ := I.list hb
  obtain ⟨⟨c1, dd1, da1, sl1⟩, g1, e1, n1, f1⟩ := p1.isList
  obtain ⟨⟨c2, dd2, da2, sl2⟩, g2, e2, n2, f2⟩ := p2.isList
  simp only at e1 f1 e2 f2
  subst e1 f1 e2 f2
  have le : is1.length + is2.length ≤ sizeLine := by rw [← r1.length, ← r2.length]; exact hz
  have ea : is1.toArray ++ is2.toArray = (is1 ++ is2).toArray := by simp
  refine concat_meets ⟨_, g1, rfl⟩ ⟨_, g2, rfl⟩ noFill_list_add seq_list_add PySem.F.slot_list_add PySem.F.entry_list_add (PySem.F.args_list_add_2 _ _) (list_addW l b is1.toArray is2.toArray n1 n2 dd1 dd2 sl1 sl2 (by simpa using le)) ⟨g1, g2, ?_⟩
  rw [ea]
  exact ⟨.ref _, _, I.lnew (t' := s.toks) (r1.append r2) (by rw [List.length_append]; exact hz), rfl, q _ I.fresh⟩
/-- a + b, lists -/
theorem pn_catL {X : Cx} {δ : De} {ω : Om} {a b : Expr} {ds dt : List PyData} {pos : Pos} (ha : PL X δ ω a ds) (hb : PL X δ ω b dt) (hz : ds.length + dt.length ≤ 10000) : PN X δ ω (.BinOp a .Add b pos) (ds ++ dt) := fun σ H rl Q k =>
  we (pe_op op_catQ pe_w pe_w) (ha σ H rl _ fun q vs H1 s1 h1 d1 => hb σ H1 (rl.mono s1) _ fun r us H2 s2 h2 d2 =>
    ⟨q, r, vs, us, rfl, rfl, s2.seq h1, h2, by rw [dpa_len d1, dpa_len d2, sizeLine_eq]; omega, fun p hp => k p _ _ ((s1.trans s2).trans (same_new hp)) ((s1.trans s2).free hp) upd_same (dpam (hid_new hp (same_new hp)) (dpa_app (dpam (hid_same s2) d1) d2))⟩)
end FP

namespace FP
open PySem PySem.Spec PyProof.Rows L2 HotX L2H
section
variable (as : List Addr) (fa : List He.Fa) (fn : List He.DefD) (ts : List He.Tab) (tf : List He.Defn) (ex : PySem.W.Frag → Bool)
/-- the tables that stand empty -/
def bareL (g : Addr → Option Obj) (K : PySem.W.Frag) : Bool := tf.all fun p => PySem.W.codeHdIn K (He.cT K p).1 (He.cT K p).2 && (g (He.cT K p).2).any He.emptyTab
def seenL (g : Addr → Option Obj) : He.AlX := (fun K => (He.obsT fa fn ts K, ex K && bareL tf g K)) (He.frT g as)
variable {as fa fn ts tf ex}
theorem seenL_says {w : World} {h : Heap} (e : seenL as fa fn ts tf ex h.get? = He.valX fn ts w) : He.SaysX fa fn ts tf ex w h (He.frT h.get? as) := by
  have b : (ex (He.frT h.get? as) && bareL tf h.get? (He.frT h.get? as)) = true := congrArg Prod.snd e
  rw [Bool.and_eq_true] at b
  have all_ : ∀ p ∈ tf, _ := fun p hp => Bool.and_eq_true _ _ ▸ (List.all_eq_true.mp b.2 p hp)
  have bare : ∀ p ∈ tf, ∃ o, h.get? (He.cT (He.frT h.get? as) p).2 = some o ∧ He.emptyTab o = true := fun p hp => by
    have q := (all_ p hp).2
    cases e : h.get? (He.cT (He.frT h.get? as) p).2 with
    | none =>
      rw [e] at q
      cases q
    | some o =>
      rw [e] at q
      exact ⟨o, rfl, q⟩
  refine { t := congrArg Prod.fst e, more := b.1, hd := fun p hp => (all_ p hp).1, out := fun p hp => ?_, empty := fun p hp => ?_ }
  · obtain ⟨o, h1, h2⟩ := bare p hp
    exact He.frT_none h1 h2
  · obtain ⟨o, h1, h2⟩ := bare p hp
    exact h1.trans (congrArg some (He.emptyTab_eq h2))
end
/-- a Hook that looks at these addresses -/
def hookL (as : List Addr) (fa : List He.Fa) (fn : List He.DefD) (ts : List He.Tab) (tf : List He.Defn) (ex : PySem.W.Frag → Bool) : PySem.W.Hook :=
  { He.hookX 0 fa fn ts tf ex with obs := fun s => seenL as fa fn ts tf ex s.heap.get?, of := fun _ _ e => ⟨_, He.frT_in, seenL_says e⟩ }
theorem seenL_eq {as : List Addr} {fa : List He.Fa} {fn : List He.DefD} {ts : List He.Tab} {tf : List He.Defn} {ex : PySem.W.Frag → Bool} {g : Addr → Option Obj} {s : Shared} (h : ∀ a, g a = s.heap.get? a) : seenL as fa fn ts tf ex g = (hookL as fa fn ts tf ex).obs s := by
  rw [show g = s.heap.get? from funext h]
  rfl
end FP

namespace FP
open PySem PySem.Spec PyProof.Rows L2 HotX L2H
def faB : He.Fa → He.Fa → Bool
  | .glo x, .glo y => decide (x = y)
  | .free x, .free y => decide (x = y)
  | .int x i, .int y j => decide (x = y) && decide (i = j)
  | .cls x, .cls y => decide (x = y)
  | .noat x f, .noat y g => decide (x = y) && decide (f = g)
  | .meth x f, .meth y g => decide (x = y) && decide (f = g)
  | .mkr x, .mkr y => decide (x = y)
  | .exc x, .exc y => decide (x = y)
  | _, _ => false
theorem faB_ok {a b : He.Fa} (h : faB a b = true) : a = b := by
  unfold faB at h
  split at h <;> first | (cases h; done) | (rw [Bool.and_eq_true, decide_eq_true_eq, decide_eq_true_eq] at h; rw [h.1, h.2]) | (rw [decide_eq_true_eq] at h; rw [h])
theorem fam {l : List He.Fa} {x : He.Fa} (h : (l.any (faB x)) = true) : x ∈ l := by
  obtain ⟨y, hy, e⟩ := List.any_eq_true.mp h
  rw [faB_ok e]
  exact hy
theorem fnm {α : Type} {l : List α} {x : α} (i : Nat) (h : l[i]? = some x) : x ∈ l := List.mem_of_getElem? h
end FP

namespace K41
open PySem PySem.Spec PyProof.Rows L2 FP
def top (i : Nat) : Stmt := PySem.Challenge.pw_farpanes_k41_whole_least_changes.main.body.getD i (.Pass ⟨0, 0, 0, 0⟩)
abbrev s_is_whole : Stmt := top 9
abbrev s_is_within : Stmt := top 10
abbrev s_is_tuple_of : Stmt := top 11
abbrev s_are_signs : Stmt := top 12
abbrev s_is_sign : Stmt := top 13
abbrev s_need_face : Stmt := top 19
abbrev s_need_rows : Stmt := top 20
abbrev s_is_cell : Stmt := top 21
abbrev s_need_size : Stmt := top 22
abbrev s_need_face_of_size : Stmt := top 23
abbrev s_size_of : Stmt := top 24
abbrev s_need_face_like : Stmt := top 25
abbrev s_blank_cells : Stmt := top 26
abbrev s_pushed : Stmt := top 28
abbrev s_pulled : Stmt := top 29
abbrev s_rolled : Stmt := top 30
abbrev s_need_change : Stmt := top 36
abbrev s_is_part : Stmt := top 37
abbrev s_is_place : Stmt := top 38
abbrev s_changed : Stmt := top 39
abbrev s_parts_done : Stmt := top 40
abbrev s_part_done : Stmt := top 41
abbrev s_need_places : Stmt := top 42
abbrev s_cells_of : Stmt := top 43
abbrev s_with_put : Stmt := top 44
abbrev s_cost : Stmt := top 45
abbrev s_cost_of_parts : Stmt := top 46
abbrev s_part_cost : Stmt := top 47
abbrev s_change_of : Stmt := top 48
abbrev s_change_with_roll : Stmt := top 49
abbrev s_put_of : Stmt := top 50
abbrev s_spans_to_put : Stmt := top 51
abbrev s_is_worth_joining : Stmt := top 52
abbrev s__law_cell : Stmt := top 54
abbrev s__law_drawn : Stmt := top 55
abbrev s__law_word : Stmt := top 56
abbrev s__law_told : Stmt := top 57
abbrev s__law_cell_of : Stmt := top 58
abbrev s__law_face : Stmt := top 59
abbrev s__law_size : Stmt := top 60
abbrev s__law_part : Stmt := top 61
abbrev s__law_rolled : Stmt := top 62
abbrev s__law_changed : Stmt := top 63
abbrev s__law_row_cost : Stmt := top 64
abbrev s__law_least : Stmt := top 65
abbrev s__law_is_kind : Stmt := top 66
abbrev s__law_other : Stmt := top 67
abbrev s_law : Stmt := top 68
abbrev dOf (x : Str) (st : Stmt) : He.DefD := ⟨(x, none), x, x, defArgs st, defBody st, defScope st, [], []⟩
def fn : List He.DefD := [dOf "is_whole" s_is_whole, dOf "is_within" s_is_within, dOf "is_tuple_of" s_is_tuple_of, dOf "are_signs" s_are_signs, dOf "is_sign" s_is_sign, dOf "need_face" s_need_face, dOf "need_rows" s_need_rows, dOf "is_cell" s_is_cell, dOf "need_size" s_need_size, dOf "need_face_of_size" s_need_face_of_size, dOf "size_of" s_size_of, dOf "need_face_like" s_need_face_like, dOf "blank_cells" s_blank_cells, dOf "pushed" s_pushed, dOf "pulled" s_pulled, dOf "rolled" s_rolled, dOf "need_change" s_need_change, dOf "is_part" s_is_part, dOf "is_place" s_is_place, dOf "changed" s_changed, dOf "parts_done" s_parts_done, dOf "part_done" s_part_done, dOf "need_places" s_need_places, dOf "cells_of" s_cells_of, dOf "with_put" s_with_put, dOf "cost" s_cost, dOf "cost_of_parts" s_cost_of_parts, dOf "part_cost" s_part_cost, dOf "change_of" s_change_of, dOf "change_with_roll" s_change_with_roll, dOf "put_of" s_put_of, dOf "spans_to_put" s_spans_to_put, dOf "is_worth_joining" s_is_worth_joining, dOf "_law_cell" s__law_cell, dOf "_law_drawn" s__law_drawn, dOf "_law_word" s__law_word, dOf "_law_told" s__law_told, dOf "_law_cell_of" s__law_cell_of, dOf "_law_face" s__law_face, dOf "_law_size" s__law_size, dOf "_law_part" s__law_part, dOf "_law_rolled" s__law_rolled, dOf "_law_changed" s__law_changed, dOf "_law_row_cost" s__law_row_cost, dOf "_law_least" s__law_least, dOf "_law_is_kind" s__law_is_kind, dOf "_law_other" s__law_other, dOf "law" s_law]
def fa : List He.Fa := [.glo "is_whole", .glo "is_within", .glo "is_tuple_of", .glo "are_signs", .glo "is_sign", .glo "need_face", .glo "need_rows", .glo "is_cell", .glo "need_size", .glo "need_face_of_size", .glo "size_of", .glo "need_face_like", .glo "blank_cells", .glo "pushed", .glo "pulled", .glo "rolled", .glo "need_change", .glo "is_part", .glo "is_place", .glo "changed", .glo "parts_done", .glo "part_done", .glo "need_places", .glo "cells_of", .glo "with_put", .glo "cost", .glo "cost_of_parts", .glo "part_cost", .glo "change_of", .glo "change_with_roll", .glo "put_of", .glo "spans_to_put", .glo "is_worth_joining", .glo "_law_cell", .glo "_law_drawn", .glo "_law_word", .glo "_law_told", .glo "_law_cell_of", .glo "_law_face", .glo "_law_size", .glo "_law_part", .glo "_law_rolled", .glo "_law_changed", .glo "_law_row_cost", .glo "_law_least", .glo "_law_is_kind", .glo "_law_other", .glo "law", .glo "ScreenError", .glo "BadFace", .glo "BadDeed", .glo "BadTalk", .glo "BadChange", .glo "BadPacket", .free "abs", .free "all", .free "bool", .free "enumerate", .free "int", .free "isinstance", .free "len", .free "list", .free "max", .free "min", .free "ord", .free "range", .free "set", .free "sorted", .free "str", .free "sum", .free "tuple", .free "zip", .free "ValueError", .int "PERCENT" 37, .int "MOST_ROWS" 10, .int "MOST_COLUMNS" 20, .int "MOST_INK" 7, .glo "BLANK", .int "MOST_ROLL" 10, .int "ROLL_COST" 4, .int "PUT_COST" 4, .int "CURSOR_COST" 3, .exc "BadFace", .exc "BadChange"]
def ex (K : PySem.W.Frag) : Bool := gldB K "BLANK" (.tuple [.str " ", .int 0]) && (wordB K "BadFace" [("BadChange", false), ("BadDeed", false), ("BadFace", true), ("BadPacket", false), ("BadTalk", false)] && (decide (PySem.W.exmOne K (.ref (He.ga K "BadFace")) (.ref (He.ga K "ScreenError")) = some true) && (wordB K "BadChange" [("BadChange", true), ("BadDeed", false), ("BadFace", false), ("BadPacket", false), ("BadTalk", false)] && (decide (PySem.W.exmOne K (.ref (He.ga K "BadChange")) (.ref (He.ga K "ScreenError")) = some true)))))
def tf : List He.Defn := [("law", none)]
abbrev R : PySem.W.OpenRow := PySem.W.OpenLaw.row PySem.Challenge.rw_farpanes_k41_whole_least_changes
def ts : List He.Tab := []
def AS : List Addr := [0, 3, 6, 23, 36, 48, 60, 72, 84, 92, 94, 99, 101, 106, 108, 111, 113, 118, 120, 126, 128, 131, 133, 138, 140, 145, 147, 152, 154, 159, 161, 166, 168, 173, 175, 180, 182, 187, 189, 194, 196, 201, 203, 206, 208, 213, 215, 220, 222, 227, 229, 232, 234, 239, 241, 244, 246, 251, 253, 258, 260, 263, 265, 270, 272, 275, 277, 280, 282, 285, 287, 290, 292, 295, 297, 302, 304, 309, 311, 314, 316, 321, 323, 328, 330, 333, 335, 340, 342, 345, 347, 352, 354, 357, 359, 364, 366, 369, 371, 374, 376, 379, 381, 386, 388, 25, 89, 93, 96, 100, 103, 107, 110, 112, 115, 119, 123, 127, 130, 132, 135, 139, 142, 146, 149, 153, 156, 160, 163, 167, 170, 174, 177, 181, 184, 188, 191, 195, 198, 202, 205, 207, 210, 214, 217, 221, 224, 228, 231, 233, 236, 240, 243, 245, 248, 252, 255, 259, 262, 264, 267, 271, 274, 276, 279, 281, 284, 286, 289, 291, 294, 296, 299, 303, 306, 310, 313, 315, 318, 322, 325, 329, 332, 334, 337, 341, 344, 346, 349, 353, 356, 358, 361, 365, 368, 370, 373, 375, 378, 380, 383, 387, 4, 24, 37, 49, 61, 73, 85, 22, 35, 47, 59, 71, 83, 88, 90, 91, 95, 97, 98, 102, 104, 105, 109, 114, 116, 117, 121, 122, 124, 125, 129, 134, 136, 137, 141, 143, 144, 148, 150, 151, 155, 157, 158, 162, 164, 165, 169, 171, 172, 176, 178, 179, 183, 185, 186, 190, 192, 193, 197, 199, 200, 204, 209, 211, 212, 216, 218, 219, 223, 225, 226, 230, 235, 237, 238, 242, 247, 249, 250, 254, 256, 257, 261, 266, 268, 269, 273, 278, 283, 288, 293, 298, 300, 301, 305, 307, 308, 312, 317, 319, 320, 324, 326, 327, 331, 336, 338, 339, 343, 348, 350, 351, 355, 360, 362, 363, 367, 372, 377, 382, 384, 385]
abbrev hk : PySem.W.Hook := hookL AS fa fn ts tf ex
def ob (s : PySem.W.SharedT) : He.AlX := seenL AS fa fn ts tf ex (HandSHeadRun.getT s)
theorem ob_eq (s : PySem.W.SharedT) : ob s = hk.obs s.abs := seenL_eq (HandSHeadRun.getT_eq s)
def loose0 : List Str := ["ScreenError", "BadFace", "BadDeed", "BadTalk", "BadChange", "BadPacket", "PERCENT", "is_whole", "is_within", "is_tuple_of", "are_signs", "is_sign", "MOST_ROWS", "MOST_COLUMNS", "MOST_INK", "BLANK", "need_face", "need_rows", "is_cell", "need_size", "need_face_of_size", "size_of", "need_face_like", "blank_cells", "pushed", "pulled", "rolled", "MOST_ROLL", "ROLL_COST", "PUT_COST"]
def loose1 : List Str := ["CURSOR_COST", "need_change", "is_part", "is_place", "changed", "parts_done", "part_done", "need_places", "cells_of", "with_put", "cost", "cost_of_parts", "part_cost", "change_of", "change_with_roll", "put_of", "spans_to_put", "is_worth_joining", "_law_cell", "_law_drawn", "_law_word", "_law_told", "_law_cell_of", "_law_face", "_law_size", "_law_part", "_law_rolled", "_law_changed", "_law_row_cost", "_law_least"]
def loose2 : List Str := ["_law_is_kind", "_law_other"]
def loose : List Str := loose0 ++ loose1 ++ loose2
set_option maxHeartbeats 0 in
theorem runF (w : World) : HandSHeadRun.RunEq R (PySem.W.view R.prog [68]) hk ob 8000 loose (w.withFollow "special-get-raises" false) := by
  intro os
  kernel_rfl
set_option maxHeartbeats 0 in
theorem runT (w : World) : HandSHeadRun.RunEq R (PySem.W.view R.prog [68]) hk ob 8000 loose (w.withFollow "special-get-raises" true) := by
  intro os
  kernel_rfl
theorem run (w : World) : HandSHeadRun.RunEq R (PySem.W.view R.prog [68]) hk ob 8000 loose w :=
  PySem.W.byRow2 "special-get-raises" (P := fun w => HandSHeadRun.RunEq R (PySem.W.view R.prog [68]) hk ob 8000 loose w) runF runT w

end K41

namespace FP
open PySem PySem.Spec PyProof.Rows L2 HotX L2H
def putO (ω : Om) (j : Nat) (p : Addr × Od) : Om := ⟨ω.ps, ω.os.set j p⟩
theorem map_put {os : List (Addr × Od)} {j : Nat} {D : Addr} {o o' : Od} (h : os[j]? = some (D, o)) : (os.set j (D, o')).map (·.1) = os.map (·.1) := by
  rw [List.map_set]
  obtain ⟨hl, e⟩ := List.getElem?_eq_some_iff.mp h
  have e2 : (os.map (·.1))[j]'(by rw [List.length_map]; exact hl) = D := by
    rw [List.getElem_map, e]
  show (os.map (·.1)).set j D = os.map (·.1)
  rw [← e2, List.set_getElem_self]
theorem osA_put {ω : Om} {j : Nat} {D : Addr} {o o' : Od} (h : ω.os[j]? = some (D, o)) : osA (putO ω j (D, o')) = osA ω := map_put h
theorem ads_put {ω : Om} {j : Nat} {D : Addr} {o o' : Od} (h : ω.os[j]? = some (D, o)) : ads (putO ω j (D, o')) = ads ω := by
  show ω.ps ++ (ω.os.set j (D, o')).map (·.1) = ω.ps ++ ω.os.map (·.1)
  rw [map_put h]
/-- an object of one's own was written -/
theorem own_at {T : List (Addr × Str)} {K : PySem.W.Frag} {H H' : Hp} {σ : L2.St} {δ : De} {ω : Om} {D : Addr} {o o' : Od} {u0 : HO} {j : Nat} (rl : Rl K H σ δ ω) (ho : ω.os[j]? = some (D, o)) (e0 : H D = some u0) (nt : ∀ ps, u0 ≠ .tbl ps) (nc : ∀ c q, u0 ≠ LamX.CodeO c q)
    (kept : ∀ b x, b ≠ D → H b = some x → H' b = some x) (new : OdV K (hid (ads ω) H') H' D o') : Stp T ω (putO ω j (D, o')) H H' ∧ Rl K H' σ δ (putO ω j (D, o')) := by
  have am : D ∈ osA ω := List.mem_map.mpr ⟨_, List.mem_of_getElem? ho, rfl⟩
  have aw : ads (putO ω j (D, o')) = ads ω := ads_put ho
  have hh : Same (hid (ads ω) H) (hid (ads ω) H') := fun b x h => by
    obtain ⟨n, e⟩ := hid_out h
    exact hid_of n (kept b x (fun z => n (by rw [z]; exact List.mem_append_right _ am)) e)
  refine ⟨⟨fun b x h n _ => kept b x (fun z => n (by rw [z]; exact am)) h, fun a h => .inl (by rw [osA_put ho] at h; exact h), rfl, fun t => ?_⟩, ⟨rl.len, fun i r h => ?_, fun z x h => ?_, ?_, fun z h hz => ?_⟩⟩
  · intro q hq
    obtain ⟨ps, a1, a2, a3⟩ := t q hq
    refine ⟨ps, kept _ _ (fun z => nt ps (by rw [z, e0] at a1; exact Option.some.inj a1)) a1, a2, fun p' cv hc => ?_⟩
    obtain ⟨c0, b1, b2⟩ := a3 p' cv hc
    exact ⟨c0, b1, kept _ _ (fun z => nc _ _ (by rw [z, e0] at b2; exact Option.some.inj b2)) b2⟩
  · obtain ⟨v, h1, h2⟩ := rl.sl i r h
    rw [aw]
    exact ⟨v, h1, sdv_mono hh h2⟩
  · rw [aw]
    obtain ⟨i, hi⟩ := List.mem_iff_getElem?.mp h
    replace hi : (ω.os.set j (D, o'))[i]? = some (z, x) := hi
    by_cases e : j = i
    · subst e
      rw [List.getElem?_set_self (List.getElem?_eq_some_iff.mp ho).1] at hi
      cases hi
      exact new
    · rw [List.getElem?_set_ne e] at hi
      have na : z ≠ D := fun zz => by
        subst zz
        refine e ((List.getElem?_inj (l := ω.os.map (·.1)) (by rw [List.length_map]; exact (List.getElem?_eq_some_iff.mp ho).1) rl.ro.nd).mp ?_)
        rw [List.getElem?_map, List.getElem?_map, ho, hi]
        rfl
      have g := rl.ro.ob z x (List.mem_of_getElem? hi)
      exact odv_keep (fun w => sdv_mono hh w) (fun u _ g1 => kept _ _ na g1) g
  · show (osA (putO ω j (D, o'))).Nodup
    rw [osA_put ho]
    exact rl.ro.nd
  · have hn := rl.ro.th z h
    by_cases za : z = D
    · have g := odv_some new
      rw [za] at hz
      exact g hz
    · cases e : H z with
      | none => exact hn e
      | some u =>
        rw [kept z u za e] at hz
        cases hz
def YE (X : Cx) (T : List (Addr × Str)) (δ : De) (ω : Om) (e : Expr) (d : PyData) (ω' : Om) : Prop := ∀ σ H, Rl X.K H σ δ ω → LamX.Tabs T H → ∀ Q : VK, (∀ v H', Stp T ω ω' H H' → Rl X.K H' σ δ ω' → Dp X.K (hid (ads ω') H') v d → Q v H') → wpe X e σ H Q
def YT (X : Cx) (T : List (Addr × Str)) (δ : De) (ω : Om) (e : Expr) (k : Bool) (ω' : Om) : Prop := ∀ σ H, Rl X.K H σ δ ω → LamX.Tabs T H → ∀ Q : Bool → Hp → Prop, (∀ H', Stp T ω ω' H H' → Rl X.K H' σ δ ω' → Q k H') → wpt X e σ H Q
def YQ (X : Cx) (W : WX) (T : List (Addr × Str)) (δ : De) (ω ω' : Om) (σ : L2.St) (H : Hp) (Q : VK) : Rs → Prop
  | .ok d => ∀ v H', Stp T ω ω' H H' → Rl X.K H' σ δ ω' → Dp X.K (hid (ads ω') H') v d → Q v H'
  | .er C => ∀ H', Stp T ω ω' H H' → Rl X.K H' σ δ ω' → W (.ref C) none σ H'
def YR (X : Cx) (W : WX) (T : List (Addr × Str)) (δ : De) (ω : Om) (e : Expr) (r : Rs) (ω' : Om) : Prop := ∀ σ H, Rl X.K H σ δ ω → LamX.Tabs T H → ∀ Q : VK,
  YQ X W T δ ω ω' σ H Q r → wpe X e σ H Q
section
variable {X : Cx} {W : WX} {T : List (Addr × Str)} {δ : De} {ω ω1 ω2 : Om} {a b c e : Expr} {es r : List Expr} {d da db dz : PyData} {ds : List PyData} {pos p : Pos} {k x y : Bool} {R : Out → Prop} {ss sa sb : List Stmt}
theorem YE.eq (h : YE X T δ ω e d ω1) (q : d = dz) : YE X T δ ω e dz ω1 := q ▸ h
theorem PD.ye (h : PD X δ ω e d) : YE X T δ ω e d ω := fun σ H rl t Q q => h σ H rl Q fun v H' s dv => q v H' (.of s) (rl.mono s) dv
theorem PX.ye (h : PX X T δ ω e d) : YE X T δ ω e d ω := h
theorem PTd.x2 (h : PTd X δ ω e k) : YT X T δ ω e k ω := fun σ H rl t Q q => h σ H rl Q fun H' s => q H' (.of s) (rl.mono s)
theorem t2_cmp {op : CmpOp} {r : R2} (ho : OpR X (compareOp op) r) (hr : RD X.K r da db (.bool k)) (ha : YE X T δ ω a da ω1) (hb : YE X T δ ω1 b db ω2) (hm : behindInMarks op b = false) : YT X T δ ω (.Compare a [op] [b] pos) k ω2 := fun σ H rl t Q q =>
  wt (pt_cmpR ho pe_w pe_w hm) (ha σ H rl t _ fun x H1 s1 l1 d1 => hb σ H1 l1 (s1.tab t) _ fun y H2 s2 l2 d2 =>
    hr _ x y H2 l2.ro.there (dp_ke s2.seen da x d1) d2 _ fun z H3 s3 d3 => by
      cases d3
      exact ⟨_, rfl, q H3 ((s1.trans s2).trans (.of s3)) (l2.mono s3)⟩)
theorem sd_if2 {kk : Bool} (h : YT X T δ ω c kk ω1) (h1 : kk = true → SD X W T sa δ ω1 (Nxt X W T ss R)) (h2 : kk = false → SD X W T sb δ ω1 (Nxt X W T ss R)) : SD X W T (.If c sa sb pos :: ss) δ ω R :=
  sd_cons fun σ H D rl t k => ws (ps_if pt_w pss_w pss_w) (h σ H rl t _ fun H' s l => by
    cases kk with
    | true => exact iteT (h1 rfl σ H' D l (s.tab t) (k.step s))
    | false => exact iteF (h2 rfl σ H' D l (s.tab t) (k.step s)))
theorem sd_ifF2 (h : YT X T δ ω c false ω1) (h2 : SD X W T ss δ ω1 R) : SD X W T (.If c sa [] pos :: ss) δ ω R := sd_if2 h (fun z => by cases z) fun _ => sd_nil h2
end
section
variable {X : Cx} {CX : CXT} {k : Nat} {f C : Addr} {fd : FuncData} {ps : List Str} {sp : Sp} {E : L2.St → XK} {x m : Str} {p pos apos : Pos} {e o : Expr} {es : List Expr} {ta : TE} {t : TA}
end
section
variable {X : Cx} {W : WX} {T : List (Addr × Str)} {δ : De} {ω : Om} {e : Expr} {es : List Expr} {d : PyData} {ds : List PyData} {pos p p1 apos : Pos} {R : Out → Prop} {ss : List Stmt} {a C : Addr} {fs fs' : Fs} {f x m : Str} {k : Nat}
theorem at_mem {os : List (Addr × Od)} {j : Nat} {q : Addr × Od} (h : os[j]? = some q) : q ∈ os := List.mem_of_getElem? h
/-- where nothing is raised -/
theorem YR.ye {X : Cx} {T : List (Addr × Str)} {δ : De} {ω ω1 : Om} {e : Expr} {d : PyData} (h : YR X (fun _ _ _ _ => False) T δ ω e (.ok d) ω1) : YE X T δ ω e d ω1 := h
/-- a new object -/
def NW (X : Cx) (T : List (Addr × Str)) (δ : De) (ω : Om) (e : Expr) (o : Od) : Prop := ∀ σ H, Rl X.K H σ δ ω → LamX.Tabs T H → ∀ Q : VK, (∀ D H', Stp T ω (omD ω D o) H H' → Rl X.K H' σ δ (omD ω D o) → Q (.ref D) H') → wpe X e σ H Q
theorem stp_new {H H' : Hp} {D : Addr} {o : Od} (s : Same H H') (n : H D = none) : Stp T ω (omD ω D o) H H' := ⟨fun b o h _ _ => s b o h, fun a h => by
  rcases List.mem_cons.mp (show a ∈ D :: ω.os.map (·.1) from h) with z | z
  · exact .inr fun o ho => by
      rw [z, n] at ho
      cases ho
  · exact .inl z, rfl, fun t => t.ext s⟩
theorem PN.nw (he : PN X δ ω e ds) : NW X T δ ω e (.lst (ds.map .im)) := fun σ H rl t Q k => he σ H rl _ fun q vs H' s n hv dv =>
  k q H' (stp_new s n) (rl.omD n s hv (dpam (hid_more fun b h => List.mem_cons.mpr (ads_omD.mp h)) dv))
def AX (X : Cx) (T : List (Addr × Str)) (δ : De) (ω : Om) (es : List Expr) (R : List Sd → Om → Prop) : Prop := ∀ σ H, Rl X.K H σ δ ω → LamX.Tabs T H → ∀ Q : List V → Hp → Prop,
  (∀ rs ω' vs H', R rs ω' → Stp T ω ω' H H' → Rl X.K H' σ δ ω' → Paired (SdV X.K (hid (ads ω') H')) rs vs → Q vs H') → wpa X es σ H Q
theorem stp_sd {H H' : Hp} {ω1 ω2 : Om} {r : Sd} {v : V} (s : Stp T ω1 ω2 H H') (h : SdV X.K (hid (ads ω1) H) r v) : SdV X.K (hid (ads ω2) H') r v := by
  cases r with
  | im d => exact dp_ke s.seen d v h
  | ad a => exact h
theorem paired_len {α β : Type} {R : α → β → Prop} : ∀ {xs : List α} {ys : List β}, Paired R xs ys → ys.length = xs.length
  | _, _, .nil => rfl
  | _, _, .cons _ r => by rw [List.length_cons, List.length_cons, paired_len r]
end
end FP

namespace FP
open PySem PySem.Spec PyProof.Rows L2 HotX L2H
section
variable {X : Cx} {T : List (Addr × Str)} {δ : De} {ω : Om} {d : PyData} {pos p : Pos} {k : Nat}
end
end FP

namespace FP
open PySem PySem.Spec PyProof.Rows L2
section
variable {X : Cx} {δ : De} {ω : Om} {a b e : Expr} {d : PyData} {ds : List PyData} {pos p : Pos} {j k : Bool}
theorem PTd.eq (h : PTd X δ ω e k) (q : k = j) : PTd X δ ω e j := q ▸ h
theorem PWd.eq (h : PWd X δ ω e k) (q : k = j) : PWd X δ ω e j := q ▸ h
end
section
variable {X : Cx} {W : WX} {T : List (Addr × Str)} {δ : De} {ω : Om} {pos : Pos} {R : Out → Prop} {ss : List Stmt}
end
end FP

namespace FP
open PySem PySem.Spec PyProof.Rows L2
section
variable {X : Cx} {δ : De} {ω : Om} {a b e : Expr} {d : PyData} {ds : List PyData} {pos p : Pos} {j k : Bool} {y z : Str}
/-- a sign of a text -/
theorem pd_ixS {i : Int} {c : Nat} (ha : PD X δ ω a (.str z)) (hb : PD X δ ω b (.int i)) (hz : z.length ≤ 100000) (hi : atI z.cps.toList i = some c) (hs : PlainIx b := by exact fun _ _ => rfl) : PD X δ ω (.Subscript a b pos) (.str ⟨#[c]⟩) := fun σ H rl Q k =>
  we (pe_ix ix_str pe_w pe_w hs) (ha σ H rl _ fun x H1 s1 d1 => hb σ H1 (rl.mono s1) _ fun y H2 s2 d2 => by
    cases d1
    cases d2
    exact ⟨z, i, c, rfl, rfl, Nat.le_trans hz (by rw [sizeLine_eq]; decide), hi, k _ H2 (s1.trans s2) (.str _)⟩)
theorem join_ones : ∀ cs : List Nat, Str.join (Str.ofString "") (cs.map fun c => (⟨#[c]⟩ : Str)) = ⟨cs.toArray⟩
  | [] => rfl
  | [c] => rfl
  | c :: e :: r => by
    have ih := join_ones (e :: r)
    show (⟨#[c]⟩ : Str) ++ Str.ofString "" ++ Str.join (Str.ofString "") ((e :: r).map fun c => (⟨#[c]⟩ : Str)) = _
    rw [ih]
    refine TL.ext_tl ?_
    rw [TL.tl_append, TL.tl_append]
    have e0 : TL.tl (Str.ofString "") = [] := by decide +kernel
    rw [e0]
    show [c] ++ [] ++ ((e :: r).toArray).toList = ((c :: e :: r).toArray).toList
    simp
theorem glued_ones (cs : List Nat) : Txt.join (Str.ofString "") (cs.map fun c => (⟨#[c]⟩ : Str)) = ⟨cs.toArray⟩ := by
  rw [TL.join_eq, join_ones]
end
end FP

namespace FP
open PySem PySem.Spec PyProof.Rows L2
def rangeS (lo c : Int) (n : Nat) : List PyData := (List.range n).map fun (i : Nat) => .int (lo + (i : Int) * c)
theorem rangeS_len (lo c : Int) (n : Nat) : (rangeS lo c n).length = n := by
  unfold rangeS
  rw [List.length_map, List.length_range]
theorem rangeS_get {lo c : Int} {n i : Nat} (h : i < n) : (rangeS lo c n)[i]? = some (.int (lo + (i : Int) * c)) := by
  unfold rangeS
  rw [List.getElem?_map, List.getElem?_range h]
  rfl
section
variable {X : Cx} {δ : De} {ω : Om} {a b e tg : Expr} {d : PyData} {ds : List PyData} {pos p : Pos} {j k : Bool} {y z : Str}
theorem wk_range3 {i j c : Int} {n : Nat} (hm : X.mg "range" = none) (ha : PDs X δ ω [a, b, e] [.int i, .int j, .int c]) (h : RgC i j c n) (hg : Gl X "range" := by rfl)
    (hs : starEach [a, b, e] X.env = (false, eval a X.env) :: starEach [b, e] X.env := by rfl) (hpl : (backTo pos (starEach [b, e] X.env)).any (·.1) = false := by rfl) :
    PWk X δ ω tg (.Call (.Name "range" p) [a, b, e] [] pos) (rangeS i c n) := by
  refine ⟨_, pi_range3 hg hm pa_w hs hpl, fun σ H rl R k => ha σ H rl _ fun vs H1 s1 d1 => ?_⟩
  cases d1 with
  | cons x1 d1 =>
    cases d1 with
    | cons x2 d1 =>
      cases d1 with
      | cons x3 d1 =>
        cases d1
        cases x1
        cases x2
        cases x3
        refine ⟨i, j, c, n, rfl, h, k _ H1 s1 fun T H2 g => ⟨fun m hm => ?_, ?_, fun m y H3 hm w => ?_⟩⟩
        · rw [rangeS_len] at hm
          exact hm
        · show n ≤ (rangeS i c n).length
          rw [rangeS_len]
          exact Nat.le_refl _
        · obtain ⟨e1, e2⟩ := w
          subst e2
          rw [rangeS_len] at hm
          exact ⟨e1, _, rangeS_get hm, .int _⟩
theorem PN.eq {dt : List PyData} (h : PN X δ ω e ds) (q : ds = dt) : PN X δ ω e dt := q ▸ h
/-- the last one -/
theorem atI_last {α : Type} {xs : List α} {x : α} : atI (xs ++ [x]) (-1) = some x := by
  unfold atI ixN
  rw [if_neg (by decide), if_pos (by simp; omega)]
  show (xs ++ [x])[(-1 + ((xs ++ [x]).length : Int)).toNat]? = some x
  have e : (-1 + ((xs ++ [x]).length : Int)).toNat = xs.length := by
    simp
    omega
  rw [e]
  simp
end
end FP

namespace FP
open PySem PySem.Spec PyProof.Rows L2
abbrev Os := List (Addr × Od)
inductive Rg where
  | ok (r : Sd)
  | er (C : Addr)
abbrev FrG := Os → List Sd → (Rg → Os → Prop) → Prop
def RgQ (K : PySem.W.Frag) (ps : List Addr) (os' : Os) (H' : Hp) (Q : VK) (E : XK) : Rg → Prop
  | .ok r => ∀ v, SdV K (hid (ads ⟨ps, os'⟩) H') r v → Q v H'
  | .er Z => E (.ref Z) none H'
def spG (K : PySem.W.Frag) (fr : FrG) : Sp := fun vs H Q E => ∃ (ps : List Addr) (os : Os) (as : List Sd) (R : Rg → Os → Prop), Ro K H ⟨ps, os⟩ ∧ Paired (SdV K (hid (ads ⟨ps, os⟩) H)) as vs ∧ fr os as R ∧
  ∀ r os' H', R r os' → (∀ b o, H b = some o → b ∉ os.map (·.1) → H' b = some o) → (∀ a ∈ os'.map (·.1), a ∈ os.map (·.1) ∨ H a = none) → Ro K H' ⟨ps, os'⟩ → RgQ K ps os' H' Q E r
structure GOk (P : Program) (w : World) (K : PySem.W.Frag) (mg : Str → Option Value) (base : Heap) (k : Nat) (x : Str) (fr : FrG) : Prop where
  ex : ∃ f fd ps, FnOk P w K mg base (L2N.CX P w) k f fd ps (spG K fr) ∧ mg x = some (.ref f) ∧ PySem.W.keepIn K (.ref f) = true ∧ L2.Binds K fd ps []
/-- a method -/
structure GMOk (P : Program) (w : World) (K : PySem.W.Frag) (mg : Str → Option Value) (base : Heap) (k : Nat) (C : Addr) (m : Str) (fr : FrG) : Prop where
  ex : ∃ f fd ps, FnOk P w K mg base (L2N.CX P w) k f fd ps (spG K fr) ∧ Meth K C m f ∧ L2.Binds K fd ps []
theorem GOk.mono {P : Program} {w : World} {K : PySem.W.Frag} {mg : Str → Option Value} {base : Heap} {j k : Nat} {x : Str} {fr : FrG} (G : GOk P w K mg base j x fr) (h : j ≤ k) : GOk P w K mg base k x fr := by
  obtain ⟨f, fd, ps, F, m, kp, b⟩ := G.ex
  exact ⟨f, fd, ps, F.mono h, m, kp, b⟩
theorem GMOk.mono {P : Program} {w : World} {K : PySem.W.Frag} {mg : Str → Option Value} {base : Heap} {j k : Nat} {C : Addr} {m : Str} {fr : FrG} (G : GMOk P w K mg base j C m fr) (h : j ≤ k) : GMOk P w K mg base k C m fr := by
  obtain ⟨f, fd, ps, F, m, b⟩ := G.ex
  exact ⟨f, fd, ps, F.mono h, m, b⟩
theorem paired_get {α β : Type} {R : α → β → Prop} : ∀ {xs : List α} {ys : List β} {i : Nat} {x : α}, Paired R xs ys → xs[i]? = some x → ∃ y, ys[i]? = some y ∧ R x y
  | _, _, _, _, .nil, h => by simp at h
  | _, _, 0, _, .cons a r, h => by
    simp at h
    subst h
    exact ⟨_, rfl, a⟩
  | _, _, i + 1, x, .cons a r, h => by
    obtain ⟨y, h1, h2⟩ := paired_get (i := i) (x := x) r (by simpa using h)
    exact ⟨y, by simpa using h1, h2⟩
section
variable {P : Program} {w : World} {K : PySem.W.Frag} {mg : Str → Option Value} {base : Heap} {x qual : Str} {params : Arguments} {body : List Stmt} {scope : Scope} {kws : List (Str × V)} {f C : Addr} {fd : FuncData} {N ps : List Str} {k : Nat} {fr : FrG}
end
def PS1 (X : Cx) (δ : De) (ω : Om) (e : Expr) (r : Sd) : Prop := ∀ σ H, Rl X.K H σ δ ω → ∀ Q : VK, (∀ v H', Same H H' → SdV X.K (hid (ads ω) H') r v → Q v H') → wpe X e σ H Q
def PSs (X : Cx) (δ : De) (ω : Om) (es : List Expr) (rs : List Sd) : Prop := ∀ σ H, Rl X.K H σ δ ω → ∀ Q : List V → Hp → Prop, (∀ vs H', Same H H' → Paired (SdV X.K (hid (ads ω) H')) rs vs → Q vs H') → wpa X es σ H Q
section
variable {X : Cx} {W : WX} {T : List (Addr × Str)} {δ : De} {ω : Om} {e : Expr} {es : List Expr} {d : PyData} {r : Sd} {rs : List Sd} {pos p p1 apos : Pos} {R : Out → Prop} {ss : List Stmt} {a C : Addr} {x m : Str} {k : Nat} {fr : FrG}
theorem ps1_var (i : Nat) {a : Addr} (hd : δ[i]? = some (some (.ad a)) := by rfl) (hN : X.N[i]? = some x := by rfl) (hv : Vis X.env.scope x := by first | exact Or.inl rfl | exact Or.inr (Or.inl rfl) | exact Or.inr (Or.inr rfl))
    (h1 : (x == ("__debug__" : Str)) = false := by decide) (h2 : (x == ("__classdict__" : Str)) = false := by decide) : PS1 X δ ω (.Name x pos) (.ad a) := fun σ H rl Q k => by
  obtain ⟨v, e1, e2⟩ := rl.sl i _ hd
  exact we (pe_var hN hv h1 h2) ⟨v, e1, k v H (Same.refl H) e2⟩
/-- another order of what is one's own -/
theorem sd_perm {ps : List Addr} {os os' : Os} (hp : os.Perm os') (h : SD X W T ss δ ⟨ps, os'⟩ R) : SD X W T ss δ ⟨ps, os⟩ R := fun σ H D rl t k => by
  have hm : ∀ q, q ∈ os ↔ q ∈ os' := fun q => hp.mem_iff
  have hma : ∀ b, b ∈ os.map (·.1) ↔ b ∈ os'.map (·.1) := fun b => (hp.map _).mem_iff
  have hh : hid (ads ⟨ps, os⟩) H = hid (ads ⟨ps, os'⟩) H := by
    funext b
    unfold hid
    have e : b ∈ ads ⟨ps, os⟩ ↔ b ∈ ads ⟨ps, os'⟩ := by
      show b ∈ ps ++ os.map (·.1) ↔ b ∈ ps ++ os'.map (·.1)
      rw [List.mem_append, List.mem_append, hma]
    by_cases h : b ∈ ads ⟨ps, os⟩
    · rw [if_pos h, if_pos (e.mp h)]
    · rw [if_neg h, if_neg (fun z => h (e.mpr z))]
  refine h σ H D ⟨rl.len, fun i r hi => ?_, fun z o hz => ?_, ?_, rl.ro.th⟩ t (k.step ⟨fun b o e _ _ => e, fun a ha => .inl ((hma a).mpr ha), rfl, fun t => t⟩)
  · obtain ⟨v, h1, h2⟩ := rl.sl i r hi
    rw [hh] at h2
    exact ⟨v, h1, h2⟩
  · have g := rl.ro.ob z o ((hm _).mpr hz)
    rw [hh] at g
    exact g
  · exact (hp.map _).nodup rl.ro.nd
end
end FP

namespace FP
open PySem PySem.Spec PyProof.Rows L2
abbrev KvP (K : PySem.W.Frag) (H : Hp) : List (Key × Sd) → List (Key × V) → Prop := Paired (fun (p : Key × Sd) (q : Key × V) => p.1 = q.1 ∧ SdV K H p.2 q.2)
section
variable {K : PySem.W.Frag} {H H' : Hp}
theorem paired_snoc {α β : Type} {R : α → β → Prop} {x : α} {y : β} (h : R x y) : ∀ {xs : List α} {ys : List β}, Paired R xs ys → Paired R (xs ++ [x]) (ys ++ [y])
  | _, _, .nil => .cons h .nil
  | _, _, .cons a b => .cons a (paired_snoc h b)
end
section
variable {X : Cx} {W : WX} {T : List (Addr × Str)} {δ : De} {ω : Om} {b e o : Expr} {es : List Expr} {d : PyData} {ds : List PyData} {r : Sd} {pos p p1 sp : Pos} {R : Out → Prop} {ss : List Stmt} {a c : Addr} {x : Str} {kvs : List (Key × Sd)} {z : Str}
theorem PS1.ex (h : PS1 X δ ω e r) (hR : R (.rt r ω)) : EX X W T e δ ω R := fun σ H rl t Q q _ => h σ H rl Q fun v H' s dv => q _ ω v H' hR (.of s) (rl.mono s) dv
theorem NW.ex {ob : Od} (h : NW X T δ ω e ob) (hR : ∀ D, R (.rt (.ad D) (omD ω D ob))) : EX X W T e δ ω R := fun σ H rl t Q q _ => h σ H rl t Q fun D H' st l => q _ _ _ H' (hR D) st l rfl
/-- a list that stands somewhere -/
theorem PS1.plt {xs : List PyData} (h : PS1 X δ ω e (.ad c)) (hc : (c, Od.lst (xs.map .im)) ∈ ω.os) : PLt X δ ω e xs := fun σ H rl Q k => h σ H rl Q fun v H' s dv => by
  have dv : v = .ref c := dv
  subst dv
  obtain ⟨vs, g1, g2⟩ := (rl.mono s).ro.ob c _ hc
  exact k c vs H' s g1 (dpa_im g2)
theorem paired_set {α β : Type} {R : α → β → Prop} {x : α} {y : β} (h : R x y) : ∀ {xs : List α} {ys : List β} (j : Nat), Paired R xs ys → Paired R (xs.set j x) (ys.set j y)
  | _, _, _, .nil => .nil
  | _, _, 0, .cons _ b => .cons h b
  | _, _, j + 1, .cons a b => .cons a (paired_set h j b)
/-- o[b] = e, o a list of one's own that stands somewhere -/
theorem sd_lset {n : Nat} (he : EX X W T e δ ω (Val1 (fun r ω1 => ∃ j xs, PS1 X δ ω1 o (.ad c) ∧ ω1.os[j]? = some (c, .lst xs) ∧ PD X δ ω1 b (.int (n : Int)) ∧ n < xs.length ∧ SD X W T ss δ (putO ω1 j (c, .lst (xs.set n r))) R) R))
    (ha : ∀ v, assign (.Subscript o b sp) X.env v = (do
      let ov ← holding [v] (eval o X.env)
      let iv ← holding [v, ov] (eval b X.env)
      standAt sp
      holding [v, ov, iv] (setItem ov iv v)
      release [v, ov, iv] []) := by intro _; rfl)
    (hs : swapsWithSole [.Subscript o b sp] e pos.line X.env = pure false := by rfl) (hw : swappedStores [.Subscript o b sp] e X.env = pure none := by rfl) (h3 : (assignEach [.Subscript o b sp] X.env).map (·.2) = [assign (.Subscript o b sp) X.env] := by rfl) :
    SD X W T (.Assign [.Subscript o b sp] e pos :: ss) δ ω R :=
  sd_cons fun σ H Dd rl t kt => ws (ps_asg pe_w (pg_sub pe_w pe_w set_list ha) hs hw h3) (he σ H rl t _ (fun r ω1 y H1 z1 st l dv => by
    obtain ⟨j, xs, hx, ho, hb, hn, z1⟩ := z1
    refine hx σ H1 l _ fun v H2 s2 d2 => hb σ H2 (l.mono s2) _ fun iv H3 s3 d3 => ?_
    have d2 : v = .ref c := d2
    subst d2
    cases d3
    have l3 := l.mono (s2.trans s3)
    obtain ⟨vs, g1, g2⟩ := l3.ro.ob c _ (at_mem ho)
    have lv : vs.length = xs.length := paired_len g2
    refine ⟨c, vs, (n : Int), n, rfl, rfl, g1, ?_, ?_⟩
    · unfold ixN
      rw [lv, if_pos (Int.natCast_nonneg n), if_pos (show (n : Int) < (xs.length : Int) by omega), Int.toNat_natCast]
    · have am : c ∈ ads ω1 := List.mem_append_right _ (List.mem_map.mpr ⟨_, at_mem ho, rfl⟩)
      have hh : Same (hid (ads ω1) H3) (hid (ads ω1) (upd H3 c (.lst (vs.set n y)))) := fun bb o h => by
        obtain ⟨n, e⟩ := hid_out h
        exact hid_of n (by rw [upd_ne (fun q => n (by rw [q]; exact am))]; exact e)
      obtain ⟨st2, l4⟩ := own_at (T := T) (o' := .lst (xs.set n r)) (H' := upd H3 c (.lst (vs.set n y))) l3 ho g1 (fun _ q => by cases q) (fun _ _ q => by unfold LamX.CodeO at q; cases q) (fun bb o nb h => by rw [upd_ne nb]; exact h) ⟨_, upd_same, paired_set (sdv_mono ((hid_same (s2.trans s3)).trans hh) dv) n (L2.Paired.mapP g2 fun _ _ q => sdv_mono hh q)⟩
      exact kt.nx δ _ σ _ z1 ((st.trans (.of (s2.trans s3))).trans st2) l4) (fun C ω' σ' H' z q l => kt.ex C ω' σ' H' z q l))
variable {trs : List (TE × TE)} {Z : List (Key × Sd) → Om → Prop} {jk : Nat} {kp : Pos}
end
end FP

namespace FP
open PySem PySem.Spec PyProof.Rows L2
section
variable {X : Cx} {W : WX} {T : List (Addr × Str)} {δ : De} {ω : Om} {a b e o : Expr} {es : List Expr} {d : PyData} {ds : List PyData} {r : Sd} {pos p p1 sp : Pos} {R : Out → Prop} {ss : List Stmt} {x : Str}
theorem pd_abs {i : Int} (hm : X.mg "abs" = none) (ha : PD X δ ω a (.int i)) (hg : Gl X "abs" := by rfl) (he : starEach [a] X.env = (false, eval a X.env) :: starEach [] X.env := by rfl) : PD X δ ω (.Call (.Name "abs" p) [a] [] pos) (.int (if i < 0 then -i else i)) :=
  pd_callB call_abs (fun ps vs H _ h Q k => by
    cases h with
    | cons h1 h2 =>
      cases h2
      cases h1
      exact ⟨i, rfl, k _ H (Same.refl H) (.int _)⟩) hm (by decide +kernel) (pds_cons ha pds_nil he) hg (by decide) (by decide) he (by rfl)
/-- an object of one's own is left to itself -/
theorem sd_drop (j : Nat) {ps : List Addr} {os : Os} (h : SD X W T ss δ ⟨ps, os.eraseIdx j⟩ R) : SD X W T ss δ ⟨ps, os⟩ R := fun σ H D rl t k => by
  have sub : (os.eraseIdx j).Sublist os := List.eraseIdx_sublist os j
  have sm : Same (hid (ads ⟨ps, os⟩) H) (hid (ads ⟨ps, os.eraseIdx j⟩) H) := hid_more fun b hb => by
    rcases List.mem_append.mp hb with q | q
    · exact List.mem_append_left _ q
    · exact List.mem_append_right _ ((sub.map _).subset q)
  refine h σ H D ⟨rl.len, fun i r hi => ?_, fun z o hz => ?_, (sub.map _).nodup rl.ro.nd, rl.ro.th⟩ t (k.step ⟨fun b o e _ _ => e, fun a ha => .inl ((sub.map _).subset ha), rfl, fun t => t⟩)
  · obtain ⟨v, h1, h2⟩ := rl.sl i r hi
    exact ⟨v, h1, sdv_mono sm h2⟩
  · exact odv_mono sm (Same.refl H) (rl.ro.ob z o (sub.subset hz))
/-- int of a truth -/
theorem PS1.pd (h : PS1 X δ ω e (.im d)) : PD X δ ω e d := h
end
end FP

namespace FP
open PySem PySem.Spec PyProof.Rows L2
section
variable {X : Cx} {W : WX} {T : List (Addr × Str)} {δ : De} {ω : Om} {a b c e o : Expr} {es : List Expr} {d : PyData} {ds : List PyData} {r : Sd} {pos p p1 sp : Pos} {R : Out → Prop} {ss : List Stmt} {x : Str}
theorem EX.ye {d : PyData} {ω' : Om} (h : EX X (fun _ _ _ _ => False) T e δ ω (fun o => o = .rt (.im d) ω')) : YE X T δ ω e d ω' := fun σ H rl t Q q => h σ H rl t Q (fun r ω1 v H' z st l dv => by
  cases z
  exact q v H' st l dv) (fun C ω1 σ' H' z => by cases z)
/-- list of a list -/
theorem pn_listL (hm : X.mg "list" = none) (ha : PL X δ ω a ds) (hg : Gl X "list" := by rfl) (he : starEach [a] X.env = (false, eval a X.env) :: starEach [] X.env := by rfl) : PN X δ ω (.Call (.Name "list" p) [a] [] pos) ds := fun σ H rl Q k =>
  we (pe_callTy call_list_of hg hm (by decide +kernel) (pa_cons pe_w pa_nil he) (he := he)) (ha σ H rl _ fun v vs H1 s1 h1 d1 => ⟨v, vs, rfl, .inl h1, fun l hl => k l _ _ (s1.trans (same_new hl)) (s1.free hl) upd_same (dpam (hid_new hl (same_new hl)) d1)⟩)
/-- a new list of one's own, which the caller doesn't have -/
theorem sd_ownP (i : Nat) {pos' : Pos} (he : PN X δ ω e ds) (hk : ∀ D, D ∉ ω.ps → SD X W T ss (δ.set i (some (.ad D))) (omD ω D (.lst (ds.map .im))) R) (hN : X.N.Nodup) (hi : X.N[i]? = some x := by rfl) (hx : Loc X.env.scope x := by first | exact Or.inl rfl | exact Or.inr rfl) (hs : swapsWith e (some (.Name x pos')) pos.line X.env = pure false := by rfl)
    (hf : X.fn x = true ∨ X.env.scope.names.lookup x = some .local := by first | exact .inl rfl | exact .inr rfl | assumption) : SD X W T (.Assign [.Name x pos'] e pos :: ss) δ ω R :=
  sd_cons fun σ H D rl t k => ws (ps_set hN hi hx pe_w hs hf) (he σ H rl _ fun q vs H' s n hv dv => by
    have rl2 : Rl X.K H' σ δ (omD ω q (.lst (ds.map .im))) := rl.omD n s hv (dpam (hid_more fun b h => List.mem_cons.mpr (ads_omD.mp h)) dv)
    exact k.nx _ _ _ H' (hk q (fun z => rl.ro.th q z n)) (stp_new s n) (rl2.set (x := .ad q) (v := .ref q) rfl))
/-- it is handed back -/
theorem sd_retP (i : Nat) {D : Addr} {xs : List PyData} (hm : (D, Od.lst (xs.map .im)) ∈ ω.os) (hD : D ∉ ω.ps) (hR : R (.rt (.im (.list xs)) ⟨ω.ps, []⟩)) (hd : δ[i]? = some (some (.ad D)) := by rfl) (hN : X.N[i]? = some x := by rfl) (hv : Vis X.env.scope x := by first | exact Or.inl rfl | exact Or.inr (Or.inl rfl) | exact Or.inr (Or.inr rfl))
    (h1 : (x == ("__debug__" : Str)) = false := by decide) (h2 : (x == ("__classdict__" : Str)) = false := by decide) : SD X W T (.Return (some (.Name x p)) pos :: ss) δ ω R :=
  sd_cons fun σ H Dd rl t k => by
    obtain ⟨v, e1, e2⟩ := rl.sl i _ hd
    have e2 : v = .ref D := e2
    subst e2
    obtain ⟨vs, g1, g2⟩ := rl.ro.ob D _ hm
    refine ws (ps_ret (pe_var hN hv h1 h2)) ⟨_, e1, k.rt _ ⟨ω.ps, []⟩ (.ref D) H hR ⟨fun b o h _ _ => h, fun a h => (List.not_mem_nil h).elim, rfl, fun t => t⟩ (Ro.nil rl.ro.th) ?_⟩
    show Dp X.K (hid (ads ⟨ω.ps, []⟩) H) (.ref D) (.list xs)
    rw [ads_nil]
    exact .lst (SqL.of (hid_of hD g1)) (dpam (hid_more fun b h => List.mem_append_left _ h) (dpa_im g2))
end
end FP

namespace FP
open PySem PySem.Spec PyProof.Rows L2 HotX L2H
section
variable {X : Cx} {W : WX} {T : List (Addr × Str)} {δ : De} {ω ω1 ω2 : Om} {a b c e : Expr} {es r : List Expr} {d da db dz : PyData} {ds : List PyData} {pos p : Pos} {k : Nat} {R : Out → Prop} {ss sa sb : List Stmt} {C : Addr} {fs' : Fs}
end
end FP

namespace FP
open PySem PySem.Spec PyProof.Rows L2 HotX L2H
section
variable {X : Cx} {W : WX} {T : List (Addr × Str)} {δ : De} {ω : Om} {a e : Expr} {d : PyData} {pos p : Pos} {R : Out → Prop}
theorem PR.ex {rr : Rs} (h : PR X W δ ω e rr) (h1 : ∀ d, rr = .ok d → R (.rt (.im d) ω)) (h2 : ∀ Z, rr = .er Z → R (.ex Z ω)) : EX X W T e δ ω R := fun σ H rl t Q q q2 => h σ H rl Q (by
  cases rr with
  | ok d => exact fun v H' s dv => q _ ω v H' (h1 d rfl) (.of s) (rl.mono s) dv
  | er Z => exact fun H' s => q2 Z ω σ H' (h2 Z rfl) (.of s) (rl.mono s).ro)
theorem dpa_int {K : PySem.W.Frag} {H : Hp} : ∀ {ns : List Int} {vs : List V}, DpAll K H vs (ns.map .int) → vs = ns.map V.int
  | [], _, .nil => rfl
  | n :: ns, _, .cons h1 h2 => by
    cases h1
    rw [dpa_int h2]
    rfl
/-- sum of whole numbers -/
theorem pd_sumI {ns : List Int} (hc : X.calm = true) (hm : X.mg "sum" = none) (ha : PL X δ ω a (ns.map .int)) (hg : Gl X "sum" := by rfl) (he : starEach [a] X.env = (false, eval a X.env) :: starEach [] X.env := by rfl) : PD X δ ω (.Call (.Name "sum" p) [a] [] pos) (.int ns.sum) := fun σ H rl Q k =>
  we (pe_callB (cr_sum hc) hg hm boot_sum (pa_cons pe_w pa_nil he) (he := he)) (ha σ H rl _ fun q vs H1 s1 h1 d1 => by
    have ev : vs = ns.map V.int := dpa_int d1
    subst ev
    exact ⟨q, ns, rfl, h1, k _ H1 s1 (.int _)⟩)
end
end FP

namespace FP
open PySem PySem.Spec PyProof.Rows L2 HotX L2H
section
variable {X : Cx} {δ : De} {ω : Om} {k f : Expr} {pos dp apos cpos : Pos}
end
end FP

namespace FP
open PySem PySem.Spec PyProof.Rows L2 HotX L2H
def inL (As : List Addr) (rows : List (List PyData)) : Os := List.zipWith (fun a cs => (a, Od.lst (cs.map .im))) As rows
theorem inL_ads : ∀ {As : List Addr} {rows : List (List PyData)}, As.length = rows.length → (inL As rows).map (·.1) = As
  | [], _, _ => rfl
  | a :: As, [], h => by cases h
  | a :: As, r :: rows, h => by
    show a :: (inL As rows).map (·.1) = _
    rw [inL_ads (Nat.succ.inj h)]
theorem pair_ad {K : PySem.W.Frag} {H : Hp} : ∀ {As : List Addr} {vs : List V}, Paired (SdV K H) (As.map .ad) vs → vs = As.map V.ref
  | [], _, .nil => rfl
  | a :: As, v :: vs, .cons h1 h2 => by
    rw [pair_ad h2]
    have h1 : v = .ref a := h1
    rw [h1]
    rfl
theorem dpa_rows {K : PySem.W.Frag} {G : Hp} : ∀ {As : List Addr} {rows : List (List PyData)}, As.length = rows.length → (∀ a cs, (a, Od.lst (cs.map .im)) ∈ inL As rows → ∃ us, G a = some (.lst us) ∧ DpAll K G us cs) → DpAll K G (As.map V.ref) (rows.map .list)
  | [], [], _, _ => .nil
  | [], _ :: _, h, _ => by cases h
  | _ :: _, [], h, _ => by cases h
  | a :: As, r :: rows, h, k => by
    obtain ⟨us, g1, g2⟩ := k a r List.mem_cons_self
    exact .cons (.lst (SqL.of g1) g2) (dpa_rows (Nat.succ.inj h) fun b cs hb => k b cs (List.mem_cons_of_mem _ hb))
section
variable {X : Cx} {W : WX} {T : List (Addr × Str)} {δ : De} {R : Out → Prop} {ss : List Stmt}
/-- a list of lists of one's own becomes data -/
theorem sd_letgo (i : Nat) {D : Addr} {As : List Addr} {rows : List (List PyData)} {ps : List Addr} {rest : Os} (hl : As.length = rows.length) (hD : D ∉ ps) (hA : ∀ a ∈ As, a ∉ ps) (h : SD X W T ss (δ.set i (some (.im (.list (rows.map .list))))) ⟨ps, rest⟩ R) (hd : δ[i]? = some (some (.ad D)) := by rfl) :
    SD X W T ss δ ⟨ps, (D, .lst (As.map .ad)) :: (inL As rows ++ rest)⟩ R := fun σ H Dd rl t k => by
  have nd : (D :: (inL As rows ++ rest).map (·.1)).Nodup := rl.ro.nd
  rw [List.map_append, inL_ads hl] at nd
  obtain ⟨n1, n2⟩ := List.nodup_cons.mp nd
  have n3 := (List.nodup_append.mp n2)
  have nD : D ∉ ads (⟨ps, rest⟩ : Om) := fun z => (List.mem_append.mp z).elim hD fun z => n1 (List.mem_append_right _ z)
  have nA : ∀ a ∈ As, a ∉ ads (⟨ps, rest⟩ : Om) := fun a ha z => (List.mem_append.mp z).elim (hA a ha) fun z => n3.2.2 a ha a z rfl
  have sub : rest.Sublist ((D, .lst (As.map .ad)) :: (inL As rows ++ rest)) := List.Sublist.cons _ (List.sublist_append_right _ _)
  have sm : Same (hid (ads ⟨ps, (D, .lst (As.map .ad)) :: (inL As rows ++ rest)⟩) H) (hid (ads ⟨ps, rest⟩) H) := hid_more fun b hb => by
    rcases List.mem_append.mp hb with q | q
    · exact List.mem_append_left _ q
    · exact List.mem_append_right _ ((sub.map _).subset q)
  have r0 : Rl X.K H σ δ ⟨ps, rest⟩ := ⟨rl.len, fun i r hi => by
    obtain ⟨v, h1, h2⟩ := rl.sl i r hi
    exact ⟨v, h1, sdv_mono sm h2⟩, fun z o hz => odv_mono sm (Same.refl H) (rl.ro.ob z o (sub.subset hz)), (sub.map _).nodup rl.ro.nd, rl.ro.th⟩
  obtain ⟨v, e1, e2⟩ := rl.sl i _ hd
  have e2 : v = .ref D := e2
  subst e2
  obtain ⟨vs, g1, g2⟩ := rl.ro.ob D _ List.mem_cons_self
  have ev := pair_ad g2
  subst ev
  have dd : Dp X.K (hid (ads ⟨ps, rest⟩) H) (.ref D) (.list (rows.map .list)) := by
    refine .lst (SqL.of (hid_of nD g1)) (dpa_rows hl fun a cs ha => ?_)
    have haA : a ∈ As := by
      rw [← inL_ads hl]
      exact List.mem_map.mpr ⟨_, ha, rfl⟩
    obtain ⟨us, q1, q2⟩ := rl.ro.ob a _ (List.mem_cons_of_mem _ (List.mem_append_left _ ha))
    exact ⟨us, hid_of (nA a haA) q1, dpam sm (dpa_im q2)⟩
  have r1 := r0.set (i := i) (x := .im (.list (rows.map .list))) (v := .ref D) dd
  have es : σ.set i (some (.ref D)) = σ := by
    obtain ⟨hlt, e⟩ := List.getElem?_eq_some_iff.mp e1
    rw [← e, List.set_getElem_self]
  rw [es] at r1
  exact h σ H Dd r1 t (k.step ⟨fun b o e _ _ => e, fun a ha => .inl ((sub.map _).subset ha), rfl, fun t => t⟩)
end
end FP

namespace FP
open PySem PySem.Spec PyProof.Rows L2 HotX L2H
def inR (As : List Addr) (rows : List (List PyData)) : Os := (inL As rows).reverse
theorem inR_snoc {As : List Addr} {rows : List (List PyData)} {p : Addr} {r : List PyData} (h : As.length = rows.length) : inR (As ++ [p]) (rows ++ [r]) = (p, .lst (r.map .im)) :: inR As rows := by
  unfold inR inL
  rw [List.zipWith_append h, List.reverse_append]
  rfl
theorem set_mid {α : Type} (q : α) (xs ys : List α) (a b : α) : (q :: (xs ++ a :: ys)).set (xs.length + 1) b = q :: (xs ++ b :: ys) := by
  show q :: (xs ++ a :: ys).set xs.length b = _
  rw [List.set_append_right _ _ (Nat.le_refl _), Nat.sub_self]
  rfl
theorem get_mid {α : Type} (q : α) (xs ys : List α) (a : α) : (q :: (xs ++ a :: ys))[xs.length + 1]? = some a := by
  show (xs ++ a :: ys)[xs.length]? = some a
  rw [List.getElem?_append_right (Nat.le_refl _), Nat.sub_self]
  rfl
theorem ad_pair {K : PySem.W.Frag} {H : Hp} : ∀ As : List Addr, Paired (SdV K H) (As.map .ad) (As.map V.ref)
  | [] => .nil
  | a :: As => .cons rfl (ad_pair As)
section
variable {X : Cx} {δ : De} {ω : Om}
theorem lc_own {σ : L2.St} {H : Hp} {Q : VK} {wi : TI} {j : Nat} {te : TE} {items : List PyData} {rows : List (List PyData)} (rl : Rl X.K H σ δ ω)
    (hw : ∀ R : It → Hp → Prop, (∀ J H', Same H H' → Wk X.K (Same H') (hid (ads ω) H') J items → R J H') → wi σ H R) (hl : rows.length = items.length) (hz : items.length ≤ 10000)
    (he : ∀ (i : Nat) (d : PyData) (ds : List PyData), items[i]? = some d → rows[i]? = some ds → ∀ os' σ' H', Rl X.K H' σ' (δ.set j (some (.im d))) ⟨ω.ps, os' ++ ω.os⟩ → ∀ Q : VK, (∀ p vs H2, Same H' H2 → H' p = none → H2 p = some (.lst vs) → DpAll X.K (hid (p :: ads ⟨ω.ps, os' ++ ω.os⟩) H2) vs ds → Q (.ref p) H2) → te σ' H' Q)
    (k : ∀ D As H', As.length = rows.length → Same H H' → (∀ a ∈ D :: As, H a = none) → Rl X.K H' σ δ ⟨ω.ps, inR As rows ++ (D, .lst (As.map .ad)) :: ω.os⟩ → Q (.ref D) H') :
    tLc wi (gName j) tYes te [j] σ H Q := by
  refine hw _ fun J H1 s1 w => fun D hD => ?_
  have rl1 := rl.mono s1
  have rlD : Rl X.K (upd H1 D (.lst [])) σ δ (omD ω D (.lst (([] : List PyData).map .im))) := rl1.omD hD (same_new hD) upd_same .nil
  refine ⟨fun i m H2 => m = items.length - i ∧ i ≤ items.length ∧ Same H1 H2 ∧ ∃ As : List Addr, As.length = i ∧ (∀ a ∈ As, H1 a = none) ∧ Rl X.K H2 σ δ ⟨ω.ps, inR As (rows.take i) ++ (D, .lst (As.map .ad)) :: ω.os⟩, ⟨items.length, by omega, Nat.zero_le _, same_new hD, [], rfl, fun a h => (List.not_mem_nil h).elim, rlD⟩, ?_⟩
  rintro i m H2 ⟨em, hi, s2, As, lA, fA, r2⟩
  obtain ⟨go, stop, yld⟩ := w H2 s2
  by_cases hlt : i < items.length
  · refine .inr ⟨go i hlt, fun H3 => Same H1 H3 ∧ ∃ As : List Addr, As.length = i + 1 ∧ (∀ a ∈ As, H1 a = none) ∧ Rl X.K H3 σ δ ⟨ω.ps, inR As (rows.take (i + 1)) ++ (D, .lst (As.map .ad)) :: ω.os⟩, fun H3 ⟨s3, h3⟩ => ⟨items.length - (i + 1), by omega, rfl, hlt, s3, h3⟩, fun x H3 hy => ?_⟩
    obtain ⟨e3, d, ed, dx⟩ := yld i x H3 hlt hy
    subst e3
    have hys : i < rows.length := by omega
    have ey : rows[i]? = some rows[i] := List.getElem?_eq_getElem hys
    have lt : As.length = (rows.take i).length := by rw [List.length_take, lA]; omega
    show wipe (((wipe σ [j])).set j (some x)) [j] = wipe σ [j] ∧ _
    have ew : wipe σ [j] = σ.set j none := rfl
    refine ⟨?_, ?_⟩
    · show (((σ.set j none).set j (some x)).set j none) = σ.set j none
      rw [List.set_set, List.set_set]
    show te (((wipe σ [j])).set j (some x)) H3 _
    rw [ew, List.set_set]
    have r2' : Rl X.K H3 σ δ ⟨ω.ps, (inR As (rows.take i) ++ [(D, .lst (As.map .ad))]) ++ ω.os⟩ := by
      rw [List.append_assoc]
      exact r2
    have dx2 : Dp X.K (hid (ads ⟨ω.ps, (inR As (rows.take i) ++ [(D, .lst (As.map .ad))]) ++ ω.os⟩) H3) x d := by
      refine dpm (fun b o hb => ?_) dx
      obtain ⟨nb, eb⟩ := hid_out hb
      refine hid_of (fun z => ?_) (s2 b o eb)
      rcases List.mem_append.mp z with q | q
      · exact nb (List.mem_append_left _ q)
      · replace q : b ∈ ((inR As (rows.take i) ++ [(D, Od.lst (As.map .ad))]) ++ ω.os).map (·.1) := q
        rw [List.map_append, List.map_append] at q
        rcases List.mem_append.mp q with q | q
        · rcases List.mem_append.mp q with q | q
          · have q2 : b ∈ As := by
              rw [← inL_ads lt]
              unfold inR at q
              rw [List.map_reverse] at q
              exact List.mem_reverse.mp q
            rw [fA b q2] at eb
            cases eb
          · rw [List.mem_singleton.mp q, hD] at eb
            cases eb
        · exact nb (List.mem_append_right _ q)
    have r4 := r2'.set (i := j) (x := .im d) (v := x) dx2
    refine he i d rows[i] ed ey _ _ _ r4 _ fun p vs H4 s4 np hv dv => ?_
    obtain ⟨vs0, g1, g2⟩ := r2.ro.ob D (.lst (As.map .ad)) (List.mem_append_right _ List.mem_cons_self)
    have ev := pair_ad g2
    subst ev
    refine ⟨As.map V.ref, s4 D _ g1, ?_, same_upd_new hD (s2.trans s4), As ++ [p], by rw [List.length_append, lA]; rfl, fun a ha => ?_, ?_⟩
    · rw [List.length_map, lA]
      refine Nat.lt_of_lt_of_le hlt (Nat.le_trans hz ?_)
      rw [sizeLine_eq]
      decide
    · rcases List.mem_append.mp ha with q | q
      · exact fA a q
      · rw [List.mem_singleton.mp q]
        exact s2.free np
    · have r5 := r2.omD np s4 hv (xs := rows[i]) (dpam (hid_more fun b hb => by
        rw [List.append_assoc]
        exact List.mem_cons.mpr (ads_omD.mp hb)) dv)
      obtain ⟨st, r6⟩ := own_at (T := []) (j := (inR As (rows.take i)).length + 1) (o' := .lst (As.map .ad ++ [.ad p])) (H' := upd H4 D (.lst (As.map V.ref ++ [V.ref p]))) r5 (get_mid _ _ _ _) (s4 D _ g1) (fun _ q => by cases q) (fun _ _ q => by unfold LamX.CodeO at q; cases q) (fun b o nb h => by rw [upd_ne nb]; exact h) ⟨_, upd_same, paired_snoc (R := SdV X.K _) (x := Sd.ad p) (y := V.ref p) (show V.ref p = V.ref p from rfl) (ad_pair As)⟩
      have ew2 : putO (omD ⟨ω.ps, inR As (rows.take i) ++ (D, .lst (As.map .ad)) :: ω.os⟩ p (.lst (rows[i].map .im))) ((inR As (rows.take i)).length + 1) (D, .lst (As.map .ad ++ [.ad p])) = ⟨ω.ps, inR (As ++ [p]) (rows.take (i + 1)) ++ (D, .lst ((As ++ [p]).map .ad)) :: ω.os⟩ := by
        have et : rows.take (i + 1) = rows.take i ++ [rows[i]] := by rw [List.take_add_one, ey]; rfl
        rw [et, inR_snoc lt, List.map_append]
        show (⟨ω.ps, ((p, _) :: (inR As (rows.take i) ++ (D, .lst (As.map .ad)) :: ω.os)).set _ _⟩ : Om) = _
        rw [set_mid]
        rfl
      rw [ew2] at r6
      exact r6
  · have e : i = items.length := by omega
    subst e
    refine .inl ⟨stop, ?_⟩
    rw [List.take_of_length_le (by omega)] at r2
    refine k D As H2 (lA.trans hl.symm) (s1.trans s2) (fun a ha => ?_) r2
    rcases List.mem_cons.mp ha with q | q
    · rw [q]
      exact s1.free hD
    · exact s1.free (fA a q)
variable {W : WX} {T : List (Addr × Str)} {tg iter : Expr} {pos : Pos} {R : Out → Prop} {ss : List Stmt} {x : Str}
/-- x = [list(..) for tg in iter], a list of lists of one's own -/
theorem sd_ownLL (i : Nat) {py cpos : Pos} {elt : Expr} {scope : Scope} {y : Str} {j : Nat} {items : List PyData} {rows : List (List PyData)} (hc : X.calm = true) (hN : X.N.Nodup) (hw : PWs X δ ω tg iter items) (hl : rows.length = items.length) (ok : BlkOk X.N X.env.scope scope [(y, j)])
    (hg : ∀ (s : Shared) (H : Hp) (C : Addr) (cl : List (Str × Addr)) (fp : List Addr), PG (X.blk s H scope (compEnvC scope cl C X.env) fp) tg (gName j))
    (he : ∀ (i : Nat) (d : PyData) (ds : List PyData), items[i]? = some d → rows[i]? = some ds → ∀ os' (s : Shared) (H : Hp) (C : Addr) (cl : List (Str × Addr)) (fp : List Addr), PN (X.blk s H scope (compEnvC scope cl C X.env) fp) (δ.set j (some (.im d))) ⟨ω.ps, os' ++ ω.os⟩ elt ds)
    (hz : items.length ≤ 10000) (hsw : swapsWith (.ListComp elt [⟨tg, iter, [], 0⟩] scope cpos) (some (.Name x py)) pos.line X.env = pure true)
    (hk : ∀ D As, As.length = rows.length → D ∉ ω.ps → (∀ a ∈ As, a ∉ ω.ps) → SD X W T ss (δ.set i (some (.ad D))) ⟨ω.ps, inR As rows ++ (D, .lst (As.map .ad)) :: ω.os⟩ R)
    (hy : X.N[i]? = some x := by rfl) (hyl : X.env.scope.names.lookup x = some .local := by rfl) (hs : ∀ x, foldedSetIterable iter X.env x = pure x := by intro _; rfl) : SD X W T (.Assign [.Name x py] (.ListComp elt [⟨tg, iter, [], 0⟩] scope cpos) pos :: ss) δ ω R := by
  obtain ⟨wi, h1, h2⟩ := hw
  refine sd_cons fun σ H D rl t k => ws (ps_setLc (i := i) (own := [(y, j)]) hc hN hy hyl hsw h1 ok hg (fun _ _ _ _ _ => pts_nil) (fun s H0 C cl fp => pe_blk s H0 C cl fp) hs) ?_
  refine lc_own rl (fun R kk => h2 σ H rl R kk) hl hz (fun i d ds hd hy os' σ' H' rl' Q' k' s H0 C cl fp => he i d ds hd hy os' s H0 C cl fp σ' H' rl' Q' k') (fun q As H' lA s fr r => ?_)
  refine k.nx _ _ _ H' (hk q As lA (fun z => rl.ro.th q z (fr q List.mem_cons_self)) (fun a ha z => rl.ro.th a z (fr a (List.mem_cons_of_mem _ ha)))) ⟨fun b o h _ _ => s b o h, fun a h => ?_, rfl, fun t => t.ext s⟩ (r.set (x := .ad q) (v := .ref q) rfl)
  have h : a ∈ (inR As rows ++ (q, Od.lst (As.map .ad)) :: ω.os).map (·.1) := h
  rw [List.map_append, List.map_cons] at h
  have new : a ∈ q :: As → ∀ o, H a = some o → ¬ Pt T o := fun z o ho => by
    rw [fr a z] at ho
    cases ho
  rcases List.mem_append.mp h with z | z
  · refine .inr (new (List.mem_cons_of_mem _ ?_))
    unfold inR at z
    rw [List.map_reverse, inL_ads lA] at z
    exact List.mem_reverse.mp z
  · rcases List.mem_cons.mp z with z | z
    · exact .inr (new (by rw [z]; exact List.mem_cons_self))
    · exact .inl z
end
end FP

namespace FP
open PySem PySem.Spec PyProof.Rows L2 HotX L2H
def ItES (x : Str) : It := ⟨fun i _ => i < x.cps.size, fun i H v H' => ∃ T c, v = .ref T ∧ H T = none ∧ H' = upd H T (.tup [.int (i : Nat), .str ⟨#[c]⟩]) ∧ x.cps[i]? = some c, fun i _ => i = x.cps.size⟩
structure EsSt (e it : Addr) (x : Str) (t : Tok) (i : Nat) (h : Heap) : Prop where
  en : ∃ old, IsEnum h e it (i : Int) old
  wk : h.IsStrIter it (strIterType x) x t i
theorem turn_enumS {P : Program} {w : World} {K : PySem.W.Frag} {elts : List Expr} {kk : Nat} {tpos : Pos} {e it : Addr} {x : Str} {t : Tok} (lt : it < e) : Turn P w K (.Tuple elts kk tpos) (ItES x) [e, it] e (EsSt e it x t) where
  mem := List.mem_cons_self
  obj := fun i h st c hc => by
    obtain ⟨⟨_, g1⟩, o, g2, _, d⟩ := st
    rcases List.mem_cons.mp hc with rfl | hc
    · exact ⟨_, g1, nofun⟩
    · exact (List.mem_singleton.mp hc) ▸ ⟨o, g2, fun v q => by rw [d] at q; cases q⟩
  keep := fun i h h' st k => ⟨st.en.imp fun _ q => k e List.mem_cons_self _ q, let ⟨o, g, r⟩ := st.wk; ⟨o, k it (by simp) o g, r⟩⟩
  item := by
    rintro X rfl rfl rfl calm i pins s σ H E I free st lti
    obtain ⟨old, he⟩ := st.en
    have old1 : ∀ c ∈ [e, it], c < s.heap.objs.size := fun c hc => by
      rcases List.mem_cons.mp hc with rfl | hc
      · exact Heap.lt_size he
      · obtain ⟨_, g, _⟩ := st.wk
        exact (List.mem_singleton.mp hc) ▸ Heap.lt_size g
    refine wpAny_pyNext_enum_itemD (Draws.text (prog := X.prog) (w := X.w) (A := X.A.in1) (I.ok.hd calm) it x t) he st.wk lti (Nat.ne_of_gt lt) (by simpa using Nat.ne_of_gt lt) fun v h1 tk ⟨c, u, hcx, ev⟩ out w1 hT sz k1 => ⟨_, rfl, wpAny_letOwnedTupleGo_enum (s := { s with heap := h1, toks := tk + 1 }) out fun h2 he2 sb => ?_⟩
    subst ev
    have up : ∀ c, c ≠ e → h2.get? c = h1.get? c := fun c hc => sb.2 c hc
    have I1 : Inv X pins σ (upd H s.heap.objs.size (.tup [.int (i : Nat), .str ⟨#[c]⟩])) { s with heap := h2, toks := tk + 1 } := I.turnedNew (ch := [e, it]) (fun b ob nb q => by
      have ne : b ≠ e ∧ b ≠ it := by simpa using nb
      exact (up b ne.1).trans (k1 b ob ne.1 ne.2 q)) free (Nat.le_refl _) ⟨by show 2 ≤ sizeLine; decide, [.int i tk, .str ⟨#[c]⟩ u], .cons ⟨_, rfl⟩ (.cons ⟨_, rfl⟩ .nil), _, (up _ (Nat.ne_of_gt (old1 e List.mem_cons_self))).trans hT, rfl, _, rfl⟩
    refine ⟨.ref s.heap.objs.size, _, I1, rfl, ⟨_, c, rfl, I.hok.fresh (Nat.le_refl _), rfl, hcx⟩, ⟨⟨_, by rw [Int.natCast_add]; exact he2⟩, let ⟨o, g, r⟩ := w1; ⟨o, (up it (Nat.ne_of_lt lt)).trans g, r⟩⟩, fun b hb => ?_⟩
    rw [upd_ne (Nat.ne_of_lt (old1 b hb))]
    exact (free b hb).1
  done := by
    rintro X rfl rfl rfl calm i pins s σ H E I free st stop
    obtain rfl : i = x.cps.size := stop
    obtain ⟨old, he⟩ := st.en
    exact wpAny_pyNext_enum_endD (Draws.text (prog := X.prog) (w := X.w) (A := X.A.in1) (I.ok.hd calm) it x t) he st.wk fun h1 ext => ⟨rfl, I.turnedL (t' := s.toks) (ch := [e, it]) (fun b o nb q => ext b o (fun z => nb (by simp [z])) q) free⟩
  self := fun A i s Q E st h => st.en.elim fun _ he => wpAny_pyIter_enum he h
def iEnumS (ta : TA) : TI := fun σ H R => ta σ H fun vs H1 => ∃ x, vs = [.str x] ∧ R (ItES x) H1
theorem pi_enumS {X : Cx} {e : Expr} {ta : TA} {p pos tpos : Pos} {elts : List Expr} {kk : Nat} (hg : Gl X "enumerate") (hm : X.mg "enumerate" = none) (ha : PA X [e] ta) (hs : starEach [e] X.env = [(false, eval e X.env)] := by rfl) :
    PI X (.Tuple elts kk tpos) (.Call (.Name "enumerate" p) [e] [] pos) (iEnumS ta) := ⟨fun pins s σ H R I h => by
  refine Call_ (ld_blt I hg hm boot_enumerate (PyProof.Rows.callWith_type1 (thn (ha.run pos pins s σ H _ I h) fun us s1 ⟨vs, H1, I1, r1, x, ex, q⟩ => ?_) hs rfl))
  subst ex
  rcases r1 with _ | ⟨⟨t, rfl⟩, r1⟩
  cases r1
  refine call_enumerate_str fun h1 he hit hsz hk => wpAny_pyIter_enum he ⟨_, [s1.heap.objs.size + 1, s1.heap.objs.size], _, _, H1, rfl, I1.kept (t' := s1.toks) hk, turn_enumS (t := t) (Nat.lt_succ_self _), ⟨⟨.none, he⟩, hit⟩, fun b hb => ?_, q⟩
  have hle : s1.heap.objs.size ≤ b := by
    rcases List.mem_cons.mp hb with rfl | hb
    · exact Nat.le_succ _
    · exact Nat.le_of_eq (List.mem_singleton.mp hb).symm
  exact I1.fpOk hle (I1.hok.fresh hle)⟩
def WkT (K : PySem.W.Frag) (G : Hp → Prop) (B : Hp) (J : It) (items : List (List PyData)) : Prop :=
  ∀ H', G H' → (∀ i, i < items.length → J.go i H') ∧ J.stop items.length H' ∧ ∀ i x H'', i < items.length → J.yld i H' x H'' → ∃ T vs ds, x = .ref T ∧ H' T = none ∧ H'' = upd H' T (.tup vs) ∧ items[i]? = some ds ∧ DpAll K B vs ds
def PWt (X : Cx) (δ : De) (ω : Om) (tg iter : Expr) (items : List (List PyData)) : Prop :=
  ∃ wi, PI X tg iter wi ∧ ∀ σ H, Rl X.K H σ δ ω → ∀ R : It → Hp → Prop, (∀ J H', Same H H' → (∀ T, WkT X.K (Ke T (hid (ads ω) H')) (hid (ads ω) H') J items) → R J H') → wi σ H R
def enumD (ds : List PyData) : List (List PyData) := ds.mapIdx fun (i : Nat) d => [.int (i : Int), d]
theorem enumD_len (ds : List PyData) : (enumD ds).length = ds.length := by
  unfold enumD
  rw [List.length_mapIdx]
theorem enumD_get {ds : List PyData} {i : Nat} {x : List PyData} (h : (enumD ds)[i]? = some x) : ∃ d, ds[i]? = some d ∧ x = [.int (i : Int), d] := by
  unfold enumD at h
  rw [List.getElem?_mapIdx] at h
  cases e : ds[i]? with
  | none =>
    rw [e] at h
    cases h
  | some d =>
    rw [e] at h
    cases h
    exact ⟨d, rfl, rfl⟩
theorem enumD_two {ds x : List PyData} (h : x ∈ enumD ds) : x.length = 2 := by
  obtain ⟨i, hi⟩ := List.getElem?_of_mem h
  obtain ⟨d, _, rfl⟩ := enumD_get hi
  rfl
section
variable {X : Cx} {W : WX} {T : List (Addr × Str)} {δ : De} {ω : Om} {a b e o iter : Expr} {pos p tpos : Pos} {R : Out → Prop} {ss sa : List Stmt} {elts : List Expr} {kk : Nat} {c : Addr} {r : Sd}
theorem wt_enumS {z : Str} (hm : X.mg "enumerate" = none) (h : PD X δ ω a (.str z)) (hg : Gl X "enumerate" := by rfl) (hs : starEach [a] X.env = [(false, eval a X.env)] := by rfl) (he : starEach [a] X.env = (false, eval a X.env) :: starEach [] X.env := by rfl) :
    PWt X δ ω (.Tuple elts kk tpos) (.Call (.Name "enumerate" p) [a] [] pos) (enumD (signsD z)) := by
  refine ⟨_, pi_enumS hg hm (pa_cons pe_w pa_nil he) hs, fun σ H rl R k => h σ H rl _ fun v H1 s1 d1 => ?_⟩
  cases d1
  have hl : (enumD (signsD z)).length = z.cps.size := by
    rw [enumD_len]
    unfold signsD
    rw [List.length_map, Array.length_toList]
  refine ⟨z, rfl, k _ H1 s1 fun T H2 g => ⟨fun i hi => ?_, ?_, fun i y H3 hi w => ?_⟩⟩
  · show i < z.cps.size
    rw [← hl]
    exact hi
  · exact hl
  · obtain ⟨T', cc, e1, e2, e3, e4⟩ := w
    refine ⟨T', _, [.int (i : Int), .str ⟨#[cc]⟩], e1, e2, e3, ?_, .cons (.int _) (.cons (.str _) .nil)⟩
    unfold enumD
    rw [List.getElem?_mapIdx]
    unfold signsD
    rw [List.getElem?_map, Array.getElem?_toList, e4]
    rfl
theorem sd_forT (is : List Nat) {n : Nat} {ts : List Expr} {p' : Pos} {items : List (List PyData)} (inv : Nat → De → Om → Prop) (hw : PWt X δ ω (.Tuple ts kk p') iter items) (h0 : inv 0 δ ω)
    (hb : ∀ i ds δ' ω', items[i]? = some ds → inv i δ' ω' → SD X W T sa (setAll δ' is ds) ω' (Turn1 inv i (Nxt X W T ss R) R))
    (hd : ∀ δ' ω', inv items.length δ' ω' → SD X W T ss δ' ω' R) (hn : ∀ ds ∈ items, ds.length = n) (hi : is.length = n) (hg : PG X (.Tuple ts kk p') (gTup X.K n (gAll is))) (hp : PassesOwn (model X.prog X.w) X.A X.env X.xe) (hc : X.calm = true) (hs : ∀ x, foldedSetIterable iter X.env x = pure x := by intro _; rfl) : SD X W T (.For (.Tuple ts kk p') iter sa [] pos :: ss) δ ω R := by
  obtain ⟨wi, h1, h2⟩ := hw
  refine sd_cons fun σ H D rl t k => ws (ps_for hp hc h1 hg pss_w hs) (h2 σ H rl _ fun J H1 s1 w => ?_)
  refine ⟨fun i m σ' H' => ∃ δ' ω', m = items.length - i ∧ i ≤ items.length ∧ inv i δ' ω' ∧ Stp T ω ω' H1 H' ∧ Rl X.K H' σ' δ' ω', ⟨items.length, δ, ω, by omega, Nat.zero_le _, h0, .refl, rl.mono s1⟩, ?_⟩
  rintro i m σ' H' ⟨δ', ω', em, hi2, iv, st, rl'⟩
  obtain ⟨go, stop, yld⟩ := w T H' (fun b o z p => (hid_out (st.seen b o z p)).2)
  have k1 := k.step (Stp.of s1 : Stp T ω ω H H1)
  by_cases hlt : i < items.length
  · refine .inr ⟨go i hlt, fun σ2 H2 => ∃ δ2 ω2, inv (i + 1) δ2 ω2 ∧ Stp T ω ω2 H1 H2 ∧ Rl X.K H2 σ2 δ2 ω2, fun σ2 H2 ⟨δ2, ω2, a1, a2, a3⟩ => ⟨items.length - (i + 1), by omega, δ2, ω2, rfl, hlt, a1, a2, a3⟩, fun x H2 hy => ?_⟩
    obtain ⟨T', vs, ds, ex, nT, eH, ed, dvs⟩ := yld i x H2 hlt hy
    subst ex
    subst eH
    have sn : Same H' (upd H' T' (.tup vs)) := same_new nT
    have st2 : Stp T ω ω' H1 (upd H' T' (.tup vs)) := st.trans (.of sn)
    have k2 := k1.step st2
    have dx2 := dpam (hid_same sn) (dpa_ke st.seen ds vs dvs)
    have hds := hn ds (List.mem_of_getElem? ed)
    refine ⟨_, _, rfl, SqT.of upd_same, by rw [dpa_len dvs]; exact hds, gAll_ok (rl'.mono sn) dx2 (hi.trans hds.symm) fun σ3 l3 => ?_⟩
    refine hb i _ δ' ω' ed iv _ _ _ l3 (st2.tab (t.ext s1)) ?_
    exact ⟨fun δ2 ω2 σ2 H2 z q l => ⟨δ2, ω2, z, st2.trans q, l⟩, fun r ω2 v H2 z q l dv => k2.rt r ω2 v H2 z q l dv, fun C ω2 σ2 H2 z q l => k2.ex C ω2 σ2 H2 z q l, fun δ2 ω2 σ2 H2 z q l => k2.nx δ2 ω2 σ2 H2 z q l, fun δ2 ω2 σ2 H2 z q l => ⟨δ2, ω2, z, st2.trans q, l⟩⟩
  · have e : i = items.length := by omega
    subst e
    exact .inl ⟨stop, (k1.step st).nx δ' ω' σ' H' (hd δ' ω' iv) .refl rl'⟩
theorem atI_sd {K : PySem.W.Frag} {H : Hp} {xs : List Sd} {vs : List V} {i : Int} (h : Paired (SdV K H) xs vs) (ha : atI xs i = some r) : ∃ v, atI vs i = some v ∧ SdV K H r v := by
  unfold atI at ha ⊢
  rw [paired_len h]
  cases e : ixN xs.length i with
  | none =>
    rw [e] at ha
    cases ha
  | some j =>
    rw [e] at ha
    exact paired_get h ha
theorem ps1_ixA {i : Int} {xs : List Sd} (ha : PS1 X δ ω a (.ad c)) (hm : (c, Od.lst xs) ∈ ω.os) (hb : PD X δ ω b (.int i)) (hi : atI xs i = some r) (hs : PlainIx b := by exact fun _ _ => rfl) : PS1 X δ ω (.Subscript a b pos) r := fun σ H rl Q k =>
  we (pe_ix ix_list pe_w pe_w hs) (ha σ H rl _ fun x H1 s1 d1 => hb σ H1 (rl.mono s1) _ fun y H2 s2 d2 => by
    cases d2
    have d1 : x = .ref c := d1
    subst d1
    obtain ⟨vs, g1, g2⟩ := (rl.mono (s1.trans s2)).ro.ob c _ hm
    obtain ⟨v, h1, h2⟩ := atI_sd g2 hi
    exact ⟨_, _, _, v, rfl, rfl, SqL.of g1, h1, k v H2 (s1.trans s2) h2⟩)
theorem pd_lenA {xs : List Sd} (hm : X.mg "len" = none) (ha : PS1 X δ ω a (.ad c)) (hc : (c, Od.lst xs) ∈ ω.os) (hg : Gl X "len" := by rfl) (hs : starEach [a] X.env = (false, eval a X.env) :: starEach [] X.env := by rfl) : PD X δ ω (.Call (.Name "len" p) [a] [] pos) (.int xs.length) := fun σ H rl Q k =>
  we (pe_callB call_len_seq hg hm PySem.boot_len (pa_cons pe_w pa_nil hs) (he := hs)) (ha σ H rl _ fun x H1 s1 d1 => by
    have d1 : x = .ref c := d1
    subst d1
    obtain ⟨vs, g1, g2⟩ := (rl.mono s1).ro.ob c _ hc
    refine ⟨_, _, rfl, .inl (SqL.of g1), ?_⟩
    rw [paired_len g2]
    exact k _ H1 s1 (.int _))
/-- x = [list(..) for tg in iter], the rows behind their list -/
theorem sd_ownLL2 (i : Nat) {tg : Expr} {x : Str} {py cpos : Pos} {elt : Expr} {scope : Scope} {y : Str} {j : Nat} {items : List PyData} {rows : List (List PyData)} (hc : X.calm = true) (hN : X.N.Nodup) (hw : PWs X δ ω tg iter items) (hl : rows.length = items.length) (ok : BlkOk X.N X.env.scope scope [(y, j)])
    (hg : ∀ (s : Shared) (H : Hp) (C : Addr) (cl : List (Str × Addr)) (fp : List Addr), PG (X.blk s H scope (compEnvC scope cl C X.env) fp) tg (gName j))
    (he : ∀ (i : Nat) (d : PyData) (ds : List PyData), items[i]? = some d → rows[i]? = some ds → ∀ os' (s : Shared) (H : Hp) (C : Addr) (cl : List (Str × Addr)) (fp : List Addr), PN (X.blk s H scope (compEnvC scope cl C X.env) fp) (δ.set j (some (.im d))) ⟨ω.ps, os' ++ ω.os⟩ elt ds)
    (hz : items.length ≤ 10000) (hk : ∀ D As, As.length = rows.length → D ∉ ω.ps → (∀ a ∈ As, a ∉ ω.ps) → SD X W T ss (δ.set i (some (.ad D))) ⟨ω.ps, (D, .lst (As.map .ad)) :: (inL As rows ++ ω.os)⟩ R)
    (hsw : swapsWith (.ListComp elt [⟨tg, iter, [], 0⟩] scope cpos) (some (.Name x py)) pos.line X.env = pure true := by rfl)
    (hy : X.N[i]? = some x := by rfl) (hyl : X.env.scope.names.lookup x = some .local := by rfl) (hs : ∀ x, foldedSetIterable iter X.env x = pure x := by intro _; rfl) : SD X W T (.Assign [.Name x py] (.ListComp elt [⟨tg, iter, [], 0⟩] scope cpos) pos :: ss) δ ω R :=
  sd_ownLL i hc hN hw hl ok hg he hz hsw (fun D As h1 h2 h3 => sd_perm (List.perm_middle.trans (.cons _ ((List.reverse_perm _).append_right _))) (hk D As h1 h2 h3)) hy hyl hs
theorem inL_get {As : List Addr} {rows : List (List PyData)} {r : Nat} {a : Addr} {cs : List PyData} (h1 : As[r]? = some a) (h2 : rows[r]? = some cs) : (inL As rows)[r]? = some (a, .lst (cs.map .im)) := by
  unfold inL
  rw [List.getElem?_zipWith, h1, h2]
theorem inL_set : ∀ {As : List Addr} {rows : List (List PyData)} {r : Nat} {a : Addr} {cs : List PyData}, As[r]? = some a → (inL As rows).set r (a, .lst (cs.map .im)) = inL As (rows.set r cs)
  | [], rows, r, a, cs, h => by simp at h
  | b :: As, [], r, a, cs, h => rfl
  | b :: As, x :: rows, 0, a, cs, h => by
    simp at h
    subst h
    rfl
  | b :: As, x :: rows, r + 1, a, cs, h => by
    have h2 : As[r]? = some a := by simpa using h
    show _ :: (inL As rows).set r _ = _ :: inL As (rows.set r cs)
    rw [inL_set h2]
end
end FP

namespace FP
open PySem PySem.Spec PyProof.Rows L2 HotX L2H
abbrev Fo := List (Str × Sd)
section
variable {X : Cx} {W : WX} {T : List (Addr × Str)} {δ : De} {ω ω1 : Om} {a b c e o iter tg : Expr} {es : List Expr} {d : PyData} {ds : List PyData} {r : Sd} {rs : List Sd} {pos p p1 apos : Pos} {R : Out → Prop} {ss sa sb : List Stmt} {z C : Addr} {fs : Fo} {f x m : Str} {k : Nat} {fr : FrG}
def YX (X : Cx) (W : WX) (T : List (Addr × Str)) (δ : De) (ω : Om) (e : Expr) (R : Rg → Om → Prop) : Prop := ∀ σ H, Rl X.K H σ δ ω → LamX.Tabs T H → ∀ Q : VK,
  (∀ r ω' v H', R (.ok r) ω' → Stp T ω ω' H H' → Rl X.K H' σ δ ω' → SdV X.K (hid (ads ω') H') r v → Q v H') → (∀ Z ω' H', R (.er Z) ω' → Stp T ω ω' H H' → Rl X.K H' σ δ ω' → W (.ref Z) none σ H') → wpe X e σ H Q
def ZE (X : Cx) (T : List (Addr × Str)) (δ : De) (ω : Om) (e : Expr) (R : PyData → Om → Prop) : Prop := ∀ σ H, Rl X.K H σ δ ω → LamX.Tabs T H → ∀ Q : VK, (∀ d ω' v H', R d ω' → Stp T ω ω' H H' → Rl X.K H' σ δ ω' → Dp X.K (hid (ads ω') H') v d → Q v H') → wpe X e σ H Q
def ZT (X : Cx) (T : List (Addr × Str)) (δ : De) (ω : Om) (e : Expr) (R : Bool → Om → Prop) : Prop := ∀ σ H, Rl X.K H σ δ ω → LamX.Tabs T H → ∀ Q : Bool → Hp → Prop, (∀ k ω' H', R k ω' → Stp T ω ω' H H' → Rl X.K H' σ δ ω' → Q k H') → wpt X e σ H Q
def ZW (X : Cx) (T : List (Addr × Str)) (δ : De) (ω : Om) (e : Expr) (R : Bool → Om → Prop) : Prop := ∀ σ H, Rl X.K H σ δ ω → LamX.Tabs T H → ∀ Q : Bool → Hp → Prop, (∀ k ω' H', R k ω' → Stp T ω ω' H H' → Rl X.K H' σ δ ω' → Q k H') → wpw X e σ H Q
theorem ZE.imp {R1 R2 : PyData → Om → Prop} (h : ZE X T δ ω e R1) (q : ∀ d ω', R1 d ω' → R2 d ω') : ZE X T δ ω e R2 := fun σ H rl t Q k => h σ H rl t Q fun d ω' v H' z => k d ω' v H' (q d ω' z)
theorem YX.ex {Rr : Rg → Om → Prop} (h : YX X W T δ ω e Rr) (q : ∀ r ω', Rr r ω' → match r with | .ok r => R (.rt r ω') | .er Z => R (.ex Z ω')) : EX X W T e δ ω R := fun σ H rl t Q k1 k2 => h σ H rl t Q (fun r ω' v H' z s l dv => k1 r ω' v H' (q _ _ z) s l dv) (fun Z ω' H' z s l => k2 Z ω' σ H' (q _ _ z) s l.ro)
theorem YX.imp {R1 R2 : Rg → Om → Prop} (h : YX X W T δ ω e R1) (q : ∀ r ω', R1 r ω' → R2 r ω') : YX X W T δ ω e R2 := fun σ H rl t Q k1 k2 => h σ H rl t Q (fun r ω' v H' z => k1 r ω' v H' (q _ _ z)) (fun Z ω' H' z => k2 Z ω' H' (q _ _ z))
theorem pt_truA {xs : List Sd} {ad : Addr} (ha : PS1 X δ ω e (.ad ad)) (hm : (ad, Od.lst xs) ∈ ω.os) (he : ∀ whole, isTrue e X.env whole = (do let v ← whole; standAt e.pos; holding [v] (truthy v)) := by intro _; rfl) : PTd X δ ω e (!xs.isEmpty) := fun σ H r Q q =>
  wt (pt_truth pe_w he) (ha σ H r _ fun v H1 s1 d1 => by
    have d1 : v = .ref ad := d1
    subst d1
    obtain ⟨vs, g1, g2⟩ := (r.mono s1).ro.ob ad _ hm
    refine ⟨!xs.isEmpty, .inl ⟨vs, SqL.of g1, ?_⟩, q H1 s1⟩
    cases g2 <;> rfl)
/-- o.append(e), o a list of one's own that stands somewhere -/
theorem sd_appS {ad : Addr} {xs : List Sd} {j : Nat} {apos cpos : Pos} (ho : PS1 X δ ω o (.ad ad)) (hm : ω.os[j]? = some (ad, .lst xs)) (he : PD X δ ω e d) (hk : SD X W T ss δ (putO ω j (ad, .lst (xs ++ [.im d]))) R) (hz : xs.length < 10000)
    (hs : swapsWith (.Call (.Attribute o "append" apos) [e] [] cpos) none pos.line X.env = pure false := by rfl)
    (hbase : attributeBase o "append" X.env (eval o X.env) = eval o X.env := by rfl)
    (hfew : ((backTo cpos (starEach [e] X.env)).all (fun x => !x.1) && (backToKw cpos (keywordEach [] X.env)).all (fun x => x.1.isSome)
      && decide (([e] : List Expr).length + ([] : List Keyword).length + (if ([] : List Keyword).isEmpty then 0 else 1) < 30)) = true := by rfl)
    (hline : (apos.endLine == cpos.line) = true := by rfl) (hst : starEach [e] X.env = (false, eval e X.env) :: starEach [] X.env := by rfl) :
    SD X W T (.Expr (.Call (.Attribute o "append" apos) [e] [] cpos) pos :: ss) δ ω R :=
  sd_cons fun σ H Dd rl t kt => ws (ps_expr (pe_bm PySem.F.plainAttrs_list PySem.F.slot_list_append PySem.F.type_list_append mt_append pe_w (pa_cons pe_w pa_nil hst) hbase hfew hline hst) hs) (ho σ H rl _ fun v H1 s1 d1 => by
    have d1 : v = .ref ad := d1
    subst d1
    obtain ⟨vs, e3, e4⟩ := (rl.mono s1).ro.ob ad _ (at_mem hm)
    refine ⟨.inl ⟨rfl, vs, SqL.of e3⟩, he σ H1 (rl.mono s1) _ fun y H2 s2 d2 => ⟨ad, vs, y, rfl, rfl, s2 ad _ e3, ?_, ?_⟩⟩
    · rw [paired_len e4]
      exact Nat.lt_of_lt_of_le hz (by rw [sizeLine_eq]; decide)
    · have l2 := rl.mono (s1.trans s2)
      have am : ad ∈ ads ω := List.mem_append_right _ (List.mem_map.mpr ⟨_, at_mem hm, rfl⟩)
      have hh : Same (hid (ads ω) H2) (hid (ads ω) (upd H2 ad (.lst (vs ++ [y])))) := fun bb o h => by
        obtain ⟨n, e⟩ := hid_out h
        exact hid_of n (by rw [upd_ne (fun q => n (by rw [q]; exact am))]; exact e)
      obtain ⟨st, l3⟩ := own_at (T := T) (o' := .lst (xs ++ [.im d])) (H' := upd H2 ad (.lst (vs ++ [y]))) l2 hm (s2 ad _ e3) (fun _ q => by cases q) (fun _ _ q => by unfold LamX.CodeO at q; cases q) (fun bb o nb h => by rw [upd_ne nb]; exact h) ⟨_, upd_same, paired_snoc (R := SdV X.K _) (x := Sd.im d) (y := y) (dpm hh d2) (L2.Paired.mapP e4 fun _ _ q => sdv_mono ((hid_same s2).trans hh) q)⟩
      exact kt.nx δ _ σ _ hk ((Stp.of (s1.trans s2)).trans st) l3)
/-- for x in a list of one's own -/
theorem sd_forO (j : Nat) {ad : Addr} {xs : List PyData} (inv : Nat → De → Om → Prop) (he : PS1 X δ ω iter (.ad ad)) (hm : (ad, Od.lst (xs.map .im)) ∈ ω.os) (h0 : inv 0 δ ω) (hin : ∀ i δ' ω', inv i δ' ω' → (ad, Od.lst (xs.map .im)) ∈ ω'.os)
    (hb : ∀ i d δ' ω', xs[i]? = some d → inv i δ' ω' → SD X W T sa (δ'.set j (some (.im d))) ω' (Turn1 inv i (Nxt X W T ss R) R))
    (hd : ∀ δ' ω', inv xs.length δ' ω' → SD X W T ss δ' ω' R) (hg : PG X tg (gName j)) (hp : PassesOwn (model X.prog X.w) X.A X.env X.xe) (hc : X.calm = true) (hs : ∀ x, foldedSetIterable iter X.env x = pure x := by intro _; rfl) : SD X W T (.For tg iter sa [] pos :: ss) δ ω R := by
  refine sd_cons fun σ H D rl t k => ws (ps_for hp hc (pi_list pe_w) hg pss_w hs) (he σ H rl _ fun v H1 s1 d1 => ?_)
  have d1 : v = .ref ad := d1
  subst d1
  obtain ⟨vs0, g0, _⟩ := (rl.mono s1).ro.ob ad _ hm
  refine ⟨ad, rfl, ⟨vs0, SqL.of g0⟩, ?_⟩
  refine ⟨fun i m σ' H' => ∃ δ' ω', m = xs.length - i ∧ i ≤ xs.length ∧ inv i δ' ω' ∧ Stp T ω ω' H1 H' ∧ Rl X.K H' σ' δ' ω', ⟨xs.length, δ, ω, by omega, Nat.zero_le _, h0, .refl, rl.mono s1⟩, ?_⟩
  rintro i m σ' H' ⟨δ', ω', em, hi, iv, st, rl'⟩
  obtain ⟨vs, g1, g2⟩ := rl'.ro.ob ad _ (hin i δ' ω' iv)
  have g3 := dpa_im g2
  have k1 := k.step (Stp.of s1 : Stp T ω ω H H1)
  by_cases hlt : i < xs.length
  · obtain ⟨y, ey, dy⟩ := dpa_get g3 (List.getElem?_eq_getElem hlt)
    refine .inr ⟨⟨vs, y, SqL.of g1, ey⟩, fun σ2 H2 => ∃ δ2 ω2, inv (i + 1) δ2 ω2 ∧ Stp T ω ω2 H1 H2 ∧ Rl X.K H2 σ2 δ2 ω2, fun σ2 H2 ⟨δ2, ω2, a1, a2, a3⟩ => ⟨xs.length - (i + 1), by omega, δ2, ω2, rfl, hlt, a1, a2, a3⟩, fun x H2 hy => ?_⟩
    obtain ⟨e2, e3⟩ := hy
    subst e2
    have e4 := e3 vs (SqL.of g1)
    rw [ey] at e4
    cases e4
    refine hb i _ δ' ω' (List.getElem?_eq_getElem hlt) iv _ _ _ (rl'.set (x := .im _) dy) (st.tab (t.ext s1)) ?_
    have k2 := k1.step st
    exact ⟨fun δ2 ω2 σ2 H2 z q l => ⟨δ2, ω2, z, st.trans q, l⟩, fun r ω2 v H2 z q l dv => k2.rt r ω2 v H2 z q l dv, fun C ω2 σ2 H2 z q l => k2.ex C ω2 σ2 H2 z q l, fun δ2 ω2 σ2 H2 z q l => k2.nx δ2 ω2 σ2 H2 z q l, fun δ2 ω2 σ2 H2 z q l => ⟨δ2, ω2, z, st.trans q, l⟩⟩
  · have e : i = xs.length := by omega
    subst e
    exact .inl ⟨⟨vs, SqL.of g1, Nat.le_of_eq (dpa_len g3)⟩, (k1.step st).nx δ' ω' σ' H' (hd δ' ω' iv) .refl rl'⟩
end
end FP

namespace FP
open PySem PySem.Spec PyProof.Rows L2 HotX L2H
section
variable {X : Cx} {T : List (Addr × Str)} {δ : De} {ω : Om} {d : PyData} {pos p : Pos} {k : Nat}
end
def pick (sel : List (Option PyData)) : List PyData := sel.filterMap id
theorem pick_snoc {sel : List (Option PyData)} {i : Nat} {s : Option PyData} (h : sel[i]? = some s) : pick (sel.take (i + 1)) = pick (sel.take i) ++ s.toList := by
  unfold pick
  rw [List.take_add_one, h, List.filterMap_append]
  cases s <;> rfl
theorem pick_len (sel : List (Option PyData)) : (pick sel).length ≤ sel.length := List.length_filterMap_le _ _
section
variable {X : Cx} {W : WX} {T : List (Addr × Str)} {δ : De} {ω : Om} {a b c e tg iter : Expr} {es : List Expr} {d : PyData} {ds : List PyData} {pos p : Pos} {R : Out → Prop} {ss : List Stmt} {x : Str}
theorem lc_dataIfS {σ : L2.St} {H : Hp} {Q : VK} {wi : TI} {j : Nat} {te : TE} {tt : TT} {items : List PyData} {sel : List (Option PyData)} (rl : Rl X.K H σ δ ω)
    (hw : ∀ R : It → Hp → Prop, (∀ J H', Same H H' → Wk X.K (Same H') (hid (ads ω) H') J items → R J H') → wi σ H R) (hl : sel.length = items.length) (hz : items.length ≤ 10000)
    (ht : ∀ (i : Nat) (d : PyData) (s : Option PyData), items[i]? = some d → sel[i]? = some s → ∀ D o σ' H', Rl X.K H' σ' (δ.set j (some (.im d))) (omD ω D o) → ∀ Q : Bool → Hp → Prop, (∀ H2, Same H' H2 → Q s.isSome H2) → tt σ' H' Q)
    (he : ∀ (i : Nat) (d y : PyData), items[i]? = some d → sel[i]? = some (some y) → ∀ D o σ' H', Same H H' → H D = none → Rl X.K H' σ' (δ.set j (some (.im d))) (omD ω D o) → ∀ Q : VK, (∀ v H2, Same H' H2 → Dp X.K (hid (ads (omD ω D o)) H2) v y → Q v H2) → te σ' H' Q)
    (k : ∀ p vs H', Same H H' → H p = none → H' p = some (.lst vs) → DpAll X.K (hid (p :: ads ω) H') vs (pick sel) → Q (.ref p) H') :
    tLc wi (gName j) tt te [j] σ H Q := by
  refine hw _ fun J H1 s1 w => fun D hD => ?_
  have rl1 := rl.mono s1
  refine ⟨fun i m H2 => m = items.length - i ∧ i ≤ items.length ∧ Same H1 H2 ∧ ∃ vs, H2 D = some (.lst vs) ∧ DpAll X.K (hid (ads (FP.omD ω D (.lst ((pick (sel.take i)).map .im)))) H2) vs (pick (sel.take i)), ⟨items.length, by omega, Nat.zero_le _, same_new hD, [], upd_same, ?_⟩, ?_⟩
  · rw [List.take_zero]
    exact .nil
  rintro i m H2 ⟨em, hi, s2, vs, hv, dv⟩
  obtain ⟨go, stop, yld⟩ := w H2 s2
  by_cases hlt : i < items.length
  · refine .inr ⟨go i hlt, fun H3 => Same H1 H3 ∧ ∃ vs, H3 D = some (.lst vs) ∧ DpAll X.K (hid (ads (FP.omD ω D (.lst ((pick (sel.take (i + 1))).map .im)))) H3) vs (pick (sel.take (i + 1))), fun H3 ⟨s3, h3⟩ => ⟨items.length - (i + 1), by omega, rfl, hlt, s3, h3⟩, fun x H3 hy => ?_⟩
    obtain ⟨e3, d, ed, dx⟩ := yld i x H3 hlt hy
    subst e3
    have hys : i < sel.length := by omega
    have ey : sel[i]? = some sel[i] := List.getElem?_eq_getElem hys
    show wipe (((wipe σ [j])).set j (some x)) [j] = wipe σ [j] ∧ _
    have ew : wipe σ [j] = σ.set j none := rfl
    refine ⟨?_, ?_⟩
    · show (((σ.set j none).set j (some x)).set j none) = σ.set j none
      rw [List.set_set, List.set_set]
    show tt (((wipe σ [j])).set j (some x)) H3 _
    rw [ew, List.set_set]
    have rl3 := (rl1.omD hD s2 hv dv)
    have rl4 := rl3.set (i := j) (x := .im d) (v := x) (dpm (hid_in hD s2) dx)
    generalize hsel : sel[i] = sv at ey
    refine ht i d sv ed ey D _ _ _ rl4 _ fun H4 s4 => ?_
    cases sv with
    | none =>
      refine iteF ⟨s2.trans s4, vs, s4 D _ hv, ?_⟩
      rw [pick_snoc ey]
      show DpAll _ _ vs (pick (sel.take i) ++ [])
      rw [List.append_nil]
      exact dpam (hid_same s4) dv
    | some y =>
      refine iteT (he i d y ed ey D _ _ _ (s1.trans (s2.trans s4)) (s1.free hD) (rl4.mono s4) _ fun v H5 s5 d5 => ⟨vs, s5 D _ (s4 D _ hv), ?_, same_upd_new hD ((s2.trans s4).trans s5), vs ++ [v], upd_same, ?_⟩)
      · rw [dpa_len dv]
        refine Nat.lt_of_le_of_lt (pick_len _) ?_
        rw [List.length_take]
        refine Nat.lt_of_le_of_lt (Nat.min_le_left _ _) (Nat.lt_of_lt_of_le hlt (Nat.le_trans hz ?_))
        rw [sizeLine_eq]
        decide
      · rw [pick_snoc ey]
        exact dpa_app (dpam hid_upd (dpam (hid_same (s4.trans s5)) dv)) (.cons (dpm hid_upd d5) .nil)
  · have e : i = items.length := by omega
    subst e
    refine .inl ⟨stop, ?_⟩
    rw [List.take_of_length_le (by omega)] at dv
    exact k D vs H2 (s1.trans s2) (s1.free hD) hv (dpam (hid_more fun b h => ads_omD.mpr (List.mem_cons.mp h)) dv)
theorem lc_dataIf {σ : L2.St} {H : Hp} {Q : VK} {wi : TI} {j : Nat} {te : TE} {tt : TT} {items : List PyData} {sel : List (Option PyData)} (rl : Rl X.K H σ δ ω)
    (hw : ∀ R : It → Hp → Prop, (∀ J H', Same H H' → Wk X.K (Same H') (hid (ads ω) H') J items → R J H') → wi σ H R) (hl : sel.length = items.length) (hz : items.length ≤ 10000)
    (ht : ∀ (i : Nat) (d : PyData) (s : Option PyData), items[i]? = some d → sel[i]? = some s → ∀ D o σ' H', Rl X.K H' σ' (δ.set j (some (.im d))) (omD ω D o) → ∀ Q : Bool → Hp → Prop, (∀ H2, Same H' H2 → Q s.isSome H2) → tt σ' H' Q)
    (he : ∀ (i : Nat) (d y : PyData), items[i]? = some d → sel[i]? = some (some y) → ∀ D o σ' H', Rl X.K H' σ' (δ.set j (some (.im d))) (omD ω D o) → ∀ Q : VK, (∀ v H2, Same H' H2 → Dp X.K (hid (ads (omD ω D o)) H2) v y → Q v H2) → te σ' H' Q)
    (k : ∀ p vs H', Same H H' → H p = none → H' p = some (.lst vs) → DpAll X.K (hid (p :: ads ω) H') vs (pick sel) → Q (.ref p) H') :
    tLc wi (gName j) tt te [j] σ H Q :=
  lc_dataIfS rl hw hl hz ht (fun i d y hd hy D o σ' H' _ _ => he i d y hd hy D o σ' H') k
def tBlkT (X : Cx) (scope : Scope) (c : Expr) : TT := fun σ H Q => ∀ (s : Shared) (H0 : Hp) (C : Addr) (cl : List (Str × Addr)) (fp : List Addr), wpt (X.blk s H0 scope (compEnvC scope cl C X.env) fp) c σ H Q
theorem pts_blk {scope : Scope} {c : Expr} (s : Shared) (H0 : Hp) (C : Addr) (cl : List (Str × Addr)) (fp : List Addr) : PTs (X.blk s H0 scope (compEnvC scope cl C X.env) fp) [c] (tBlkT X scope c) := pts_one ⟨fun pins s' σ H Q I h => pt_w.run pins s' σ H Q I (h s H0 C cl fp)⟩
/-- x = [elt for tg in iter if c], a list of one's own -/
theorem sd_ownLcIf (i : Nat) {py cpos : Pos} {elt : Expr} {scope : Scope} {y : Str} {j : Nat} {items : List PyData} {sel : List (Option PyData)} (hc : X.calm = true) (hN : X.N.Nodup) (hw : PWs X δ ω tg iter items) (hl : sel.length = items.length) (ok : BlkOk X.N X.env.scope scope [(y, j)])
    (hg : ∀ (s : Shared) (H : Hp) (C : Addr) (cl : List (Str × Addr)) (fp : List Addr), PG (X.blk s H scope (compEnvC scope cl C X.env) fp) tg (gName j))
    (ht : ∀ (i : Nat) (d : PyData) (s : Option PyData), items[i]? = some d → sel[i]? = some s → ∀ D o (sh : Shared) (H : Hp) (C : Addr) (cl : List (Str × Addr)) (fp : List Addr), PTd (X.blk sh H scope (compEnvC scope cl C X.env) fp) (δ.set j (some (.im d))) (omD ω D o) c s.isSome)
    (he : ∀ (i : Nat) (d y : PyData), items[i]? = some d → sel[i]? = some (some y) → ∀ D o (s : Shared) (H : Hp) (C : Addr) (cl : List (Str × Addr)) (fp : List Addr), PD (X.blk s H scope (compEnvC scope cl C X.env) fp) (δ.set j (some (.im d))) (omD ω D o) elt y)
    (hz : items.length ≤ 10000) (hk : ∀ D, SD X W T ss (δ.set i (some (.ad D))) (omD ω D (.lst ((pick sel).map .im))) R) (hsw : swapsWith (.ListComp elt [⟨tg, iter, [c], 0⟩] scope cpos) (some (.Name x py)) pos.line X.env = pure true := by rfl)
    (hy : X.N[i]? = some x := by rfl) (hyl : X.env.scope.names.lookup x = some .local := by rfl) (hs : ∀ x, foldedSetIterable iter X.env x = pure x := by intro _; rfl) : SD X W T (.Assign [.Name x py] (.ListComp elt [⟨tg, iter, [c], 0⟩] scope cpos) pos :: ss) δ ω R := by
  obtain ⟨wi, h1, h2⟩ := hw
  refine sd_cons fun σ H D rl t k => ws (ps_setLc (i := i) (own := [(y, j)]) hc hN hy hyl hsw h1 ok hg (fun s H0 C cl fp => pts_blk s H0 C cl fp) (fun s H0 C cl fp => pe_blk s H0 C cl fp) hs) ?_
  refine lc_dataIf rl (fun R kk => h2 σ H rl R kk) hl hz (fun i d sv hd hy D o σ' H' rl' Q' k' s H0 C cl fp => ht i d sv hd hy D o s H0 C cl fp σ' H' rl' Q' k') (fun i d y hd hy D o σ' H' rl' Q' k' s H0 C cl fp => he i d y hd hy D o s H0 C cl fp σ' H' rl' Q' k') (fun q vs H' s n hv dv => ?_)
  have rl2 : Rl X.K H' σ δ (omD ω q (.lst ((pick sel).map .im))) := rl.omD n s hv (dpam (hid_more fun b h => List.mem_cons.mpr (ads_omD.mp h)) dv)
  exact k.nx _ _ _ H' (hk q) (stp_new s n) (rl2.set (x := .ad q) (v := .ref q) rfl)
end
end FP

namespace FP
open PySem PySem.Spec PyProof.Rows L2 HotX L2H
section
variable {X : Cx} {W : WX} {T : List (Addr × Str)} {δ : De} {ω ω1 : Om} {a b c e o iter tg : Expr} {es : List Expr} {d : PyData} {ds : List PyData} {r : Sd} {rs : List Sd} {pos p p1 apos : Pos} {R : Out → Prop} {ss sa sb : List Stmt} {x m : Str} {k : Nat} {Z : PyData → Om → Prop}
theorem Rl.keep {H H' : Hp} {σ : L2.St} {ω ω' : Om} (rl : Rl X.K H σ δ ω) (st : Stp T ω ω' H H') (ro : Ro X.K H' ω') : Rl X.K H' σ δ ω' := ⟨rl.len, fun i r hi => by
  obtain ⟨v, h1, h2⟩ := rl.sl i r hi
  exact ⟨v, h1, stp_sd (X := X) st h2⟩, ro⟩
theorem Rl.permO {H : Hp} {σ : L2.St} {ps : List Addr} {os os' : Os} (hp : os.Perm os') (rl : Rl X.K H σ δ ⟨ps, os⟩) : Rl X.K H σ δ ⟨ps, os'⟩ := by
  have hma : ∀ a, a ∈ os.map (·.1) ↔ a ∈ os'.map (·.1) := fun a => (hp.map _).mem_iff
  have hh : hid (ads ⟨ps, os⟩) H = hid (ads ⟨ps, os'⟩) H := by
    funext b
    unfold hid
    have e : b ∈ ads ⟨ps, os⟩ ↔ b ∈ ads ⟨ps, os'⟩ := by
      show b ∈ ps ++ os.map (·.1) ↔ b ∈ ps ++ os'.map (·.1)
      rw [List.mem_append, List.mem_append, hma]
    by_cases h : b ∈ ads ⟨ps, os⟩
    · rw [if_pos h, if_pos (e.mp h)]
    · rw [if_neg h, if_neg (fun z => h (e.mpr z))]
  refine ⟨rl.len, fun i r hi => ?_, fun z o hz => ?_, (hp.map _).nodup rl.ro.nd, rl.ro.th⟩
  · obtain ⟨v, h1, h2⟩ := rl.sl i r hi
    rw [hh] at h2
    exact ⟨v, h1, h2⟩
  · have g := rl.ro.ob z o (hp.mem_iff.mpr hz)
    rw [hh] at g
    exact g
end
end FP

namespace FP
open PySem PySem.Spec PyProof.Rows L2 HotX L2H
section
variable {X : Cx} {W : WX} {T : List (Addr × Str)} {δ : De} {ω ω1 : Om} {a b c e o iter tg : Expr} {es : List Expr} {d : PyData} {ds : List PyData} {r : Sd} {rs : List Sd} {pos p p1 apos : Pos} {R : Out → Prop} {ss sa sb : List Stmt} {x m : Str} {k : Nat}
/-- a list of own lists -/
def PLa (X : Cx) (δ : De) (ω : Om) (e : Expr) (As : List Addr) : Prop := ∀ σ H, Rl X.K H σ δ ω → ∀ Q : VK, (∀ p H', Same H H' → SqL X.K H' p (As.map V.ref) → Q (.ref p) H') → wpe X e σ H Q
theorem PLa.eq {As Bs : List Addr} (h : PLa X δ ω e As) (q : As = Bs) : PLa X δ ω e Bs := q ▸ h
theorem stp_permL {H H' : Hp} {ps : List Addr} {os os' : Os} {ω : Om} (hp : os.Perm os') (st : Stp T ⟨ps, os'⟩ ω H H') : Stp T ⟨ps, os⟩ ω H H' := ⟨fun b x h n p => st.keep b x h (fun z => n ((hp.map _).mem_iff.mpr z)) p, fun a ha => (st.new a ha).imp (fun z => (hp.map _).mem_iff.mpr z) id, st.ps, st.tab⟩
theorem ZE.perm {ps : List Addr} {os os' : Os} {Z : PyData → Om → Prop} (hp : os.Perm os') (h : ZE X T δ ⟨ps, os'⟩ e Z) : ZE X T δ ⟨ps, os⟩ e Z := fun σ H rl t Q q => h σ H (rl.permO hp) t Q fun d ω' v H' z s l dv => q d ω' v H' z (stp_permL hp s) l dv
theorem YX.perm {ps : List Addr} {os os' : Os} {Z : Rg → Om → Prop} (hp : os.Perm os') (h : YX X W T δ ⟨ps, os'⟩ e Z) : YX X W T δ ⟨ps, os⟩ e Z := fun σ H rl t Q q q2 => h σ H (rl.permO hp) t Q (fun r ω' v H' z s l dv => q r ω' v H' z (stp_permL hp s) l dv) (fun Z ω' H' z s l => q2 Z ω' H' z (stp_permL hp s) l)
end
end FP

namespace FP
open PySem PySem.Spec PyProof.Rows L2 HotX L2H
section
variable {X : Cx} {W : WX} {T : List (Addr × Str)} {δ : De} {ω ω1 : Om} {a b c e o iter tg : Expr} {es : List Expr} {d da db : PyData} {ds : List PyData} {r : Sd} {rs : List Sd} {pos p p1 apos : Pos} {R : Out → Prop} {ss sa sb : List Stmt} {x m : Str} {k : Nat} {fr : FrG}
end
end FP

namespace FP
open PySem PySem.Spec PyProof.Rows L2 HotX L2H
theorem paired_app {α β : Type} {R : α → β → Prop} : ∀ {xs xs2 : List α} {ys ys2 : List β}, Paired R xs ys → Paired R xs2 ys2 → Paired R (xs ++ xs2) (ys ++ ys2)
  | _, _, _, _, .nil, h => h
  | _, _, _, _, .cons a b, h => .cons a (paired_app b h)
section
variable {X : Cx} {W : WX} {T : List (Addr × Str)} {δ : De} {ω : Om} {a b e o iter : Expr} {pos p tpos : Pos} {R : Out → Prop} {ss sa : List Stmt}
/-- how often a number stands in a list of numbers -/
theorem pd_count {ns : List Int} {k : Int} {apos : Pos} (ha : PL X δ ω a (ns.map .int)) (hb : PD X δ ω b (.int k)) (hbase : attributeBase a "count" X.env (eval a X.env) = eval a X.env := by rfl)
    (hfew : ((backTo pos (starEach [b] X.env)).all (fun x => !x.1) && (backToKw pos (keywordEach [] X.env)).all (fun x => x.1.isSome)
      && decide (([b] : List Expr).length + ([] : List Keyword).length + (if ([] : List Keyword).isEmpty then 0 else 1) < 30)) = true := by rfl)
    (hline : (apos.endLine == pos.line) = true := by rfl) (hst : starEach [b] X.env = (false, eval b X.env) :: starEach [] X.env := by rfl) : PD X δ ω (.Call (.Attribute a "count" apos) [b] [] pos) (.int ((ns.count k : Nat) : Int)) := fun σ H rl Q q =>
  we (pe_bm PySem.F.plainAttrs_list PySem.F.slot_list_count PySem.F.type_list_count mt_lcount pe_w (pa_cons pe_w pa_nil hst) hbase hfew hline hst) (ha σ H rl _ fun l vs H1 s1 h1 d1 => ⟨.inl ⟨rfl, vs, h1⟩, hb σ H1 (rl.mono s1) _ fun v H2 s2 d2 => by
    cases d2
    have e := dpa_int d1
    subst e
    exact ⟨l, ns, k, rfl, rfl, s2.seq h1, q _ H2 (s1.trans s2) (.int _)⟩⟩)
/-- o.extend(e), o a list of one's own, e a new list -/
theorem sd_extS {ad : Addr} {xs : List Sd} {ds : List PyData} {j : Nat} {apos cpos : Pos} (ho : PS1 X δ ω o (.ad ad)) (hm : ω.os[j]? = some (ad, .lst xs)) (he : PN X δ ω e ds) (hk : SD X W T ss δ (putO ω j (ad, .lst (xs ++ ds.map .im))) R) (hz : xs.length + ds.length < 10000)
    (hs : swapsWith (.Call (.Attribute o "extend" apos) [e] [] cpos) none pos.line X.env = pure false := by rfl)
    (hbase : attributeBase o "extend" X.env (eval o X.env) = eval o X.env := by rfl)
    (hfew : ((backTo cpos (starEach [e] X.env)).all (fun x => !x.1) && (backToKw cpos (keywordEach [] X.env)).all (fun x => x.1.isSome)
      && decide (([e] : List Expr).length + ([] : List Keyword).length + (if ([] : List Keyword).isEmpty then 0 else 1) < 30)) = true := by rfl)
    (hline : (apos.endLine == cpos.line) = true := by rfl) (hst : starEach [e] X.env = (false, eval e X.env) :: starEach [] X.env := by rfl) :
    SD X W T (.Expr (.Call (.Attribute o "extend" apos) [e] [] cpos) pos :: ss) δ ω R :=
  sd_cons fun σ H Dd rl t kt => ws (ps_expr (pe_bm PySem.F.plainAttrs_list PySem.F.slot_list_extend PySem.F.type_list_extend mt_extend pe_w (pa_cons pe_w pa_nil hst) hbase hfew hline hst) hs) (ho σ H rl _ fun v H1 s1 d1 => by
    have d1 : v = .ref ad := d1
    subst d1
    obtain ⟨vs, e3, e4⟩ := (rl.mono s1).ro.ob ad _ (at_mem hm)
    refine ⟨.inl ⟨rfl, vs, SqL.of e3⟩, he σ H1 (rl.mono s1) _ fun p ys H2 s2 np h2 d2 => ⟨ad, p, vs, ys, rfl, rfl, s2 ad _ e3, h2, ?_, ?_⟩⟩
    · rw [paired_len e4, dpa_len d2]
      exact Nat.le_of_lt (Nat.lt_of_lt_of_le hz (by rw [sizeLine_eq]; decide))
    · have l2 := rl.mono (s1.trans s2)
      have am : ad ∈ ads ω := List.mem_append_right _ (List.mem_map.mpr ⟨_, at_mem hm, rfl⟩)
      have hh : Same (hid (ads ω) H2) (hid (ads ω) (upd H2 ad (.lst (vs ++ ys)))) := fun bb o h => by
        obtain ⟨n, e⟩ := hid_out h
        exact hid_of n (by rw [upd_ne (fun q => n (by rw [q]; exact am))]; exact e)
      obtain ⟨st, l3⟩ := own_at (T := T) (o' := .lst (xs ++ ds.map .im)) (H' := upd H2 ad (.lst (vs ++ ys))) l2 hm (s2 ad _ e3) (fun _ q => by cases q) (fun _ _ q => by unfold LamX.CodeO at q; cases q) (fun bb o nb h => by rw [upd_ne nb]; exact h) ⟨_, upd_same, paired_app (L2.Paired.mapP e4 fun _ _ q => sdv_mono ((hid_same s2).trans hh) q) (im_dpa (dpam hh (dpam hid_cons d2)))⟩
      exact kt.nx δ _ σ _ hk ((Stp.of (s1.trans s2)).trans st) l3)
/-- o[b] = e, the place told from the end, or from the front -/
theorem sd_lsetK {c : Addr} {sp : Pos} {n : Nat} {k : Int} (he : EX X W T e δ ω (Val1 (fun r ω1 => ∃ j xs, PS1 X δ ω1 o (.ad c) ∧ ω1.os[j]? = some (c, .lst xs) ∧ PD X δ ω1 b (.int k) ∧ ixN xs.length k = some n ∧ SD X W T ss δ (putO ω1 j (c, .lst (xs.set n r))) R) R))
    (ha : ∀ v, assign (.Subscript o b sp) X.env v = (do
      let ov ← holding [v] (eval o X.env)
      let iv ← holding [v, ov] (eval b X.env)
      standAt sp
      holding [v, ov, iv] (setItem ov iv v)
      release [v, ov, iv] []) := by intro _; rfl)
    (hs : swapsWithSole [.Subscript o b sp] e pos.line X.env = pure false := by rfl) (hw : swappedStores [.Subscript o b sp] e X.env = pure none := by rfl) (h3 : (assignEach [.Subscript o b sp] X.env).map (·.2) = [assign (.Subscript o b sp) X.env] := by rfl) :
    SD X W T (.Assign [.Subscript o b sp] e pos :: ss) δ ω R :=
  sd_cons fun σ H Dd rl t kt => ws (ps_asg pe_w (pg_sub pe_w pe_w set_list ha) hs hw h3) (he σ H rl t _ (fun r ω1 y H1 z1 st l dv => by
    obtain ⟨j, xs, hx, ho, hb, hn, z1⟩ := z1
    refine hx σ H1 l _ fun v H2 s2 d2 => hb σ H2 (l.mono s2) _ fun iv H3 s3 d3 => ?_
    have d2 : v = .ref c := d2
    subst d2
    cases d3
    have l3 := l.mono (s2.trans s3)
    obtain ⟨vs, g1, g2⟩ := l3.ro.ob c _ (at_mem ho)
    have lv : vs.length = xs.length := paired_len g2
    refine ⟨c, vs, k, n, rfl, rfl, g1, ?_, ?_⟩
    · rw [lv]
      exact hn
    · have am : c ∈ ads ω1 := List.mem_append_right _ (List.mem_map.mpr ⟨_, at_mem ho, rfl⟩)
      have hh : Same (hid (ads ω1) H3) (hid (ads ω1) (upd H3 c (.lst (vs.set n y)))) := fun bb o h => by
        obtain ⟨n, e⟩ := hid_out h
        exact hid_of n (by rw [upd_ne (fun q => n (by rw [q]; exact am))]; exact e)
      obtain ⟨st2, l4⟩ := own_at (T := T) (o' := .lst (xs.set n r)) (H' := upd H3 c (.lst (vs.set n y))) l3 ho g1 (fun _ q => by cases q) (fun _ _ q => by unfold LamX.CodeO at q; cases q) (fun bb o nb h => by rw [upd_ne nb]; exact h) ⟨_, upd_same, paired_set (sdv_mono ((hid_same (s2.trans s3)).trans hh) dv) n (L2.Paired.mapP g2 fun _ _ q => sdv_mono hh q)⟩
      exact kt.nx δ _ σ _ z1 ((st.trans (.of (s2.trans s3))).trans st2) l4) (fun C ω' σ' H' z q l => kt.ex C ω' σ' H' z q l))
end
end FP

namespace FP
open PySem PySem.Spec PyProof.Rows L2 HotX L2H
section
variable {X : Cx}
theorem run_fn1 {k : Nat} {f : Addr} {fd : FuncData} {ps : List Str} {sp : Sp} {pins : List (Addr × Obj)} {σ : L2.St} {H : Hp} {s : Shared} {Q : VK} {us : List Value} {vs : List V} (F : FnOk X.prog X.w X.K X.mg X.base (L2N.CX X.prog X.w) k f fd ps sp) (hr : Room k X.A.in1) (hb : Binds X.K fd ps [])
    (I : Inv X pins σ H s) (r : Vals vs us) (h : sp vs H Q (fun _ _ _ => False)) : wpAny (model X.prog X.w) X.A.in1 (call (.ref f) us) (EP X pins σ Q) (fun _ _ => False) s := by
  have hl : us.length = ps.length := by rw [← r.length]; exact F.len _ _ _ _ h
  have hb2 := hb s us I.kIn (by rw [List.append_nil]; exact hl)
  rw [List.append_nil] at hb2
  refine wpAny_call (codeAny_mono (F.run X.A.in1 X.stack s H ⟨us, []⟩ us vs Q (fun _ _ _ => False) hr I.env0.in1 hb2 r h) fun r s' hq => ?_)
  cases r with
  | error e =>
    obtain ⟨_, _, _, _, _, _, _, _, _, _, _, _, z⟩ := hq
    exact z
  | ok fl =>
    cases fl with
    | ret u => exact I.after hq
    | next => exact False.elim hq
    | brk => exact False.elim hq
    | cont => exact False.elim hq
/-- the two objects of the loop -/
theorem two_pins {pins : List (Addr × Obj)} {σ : L2.St} {H : Hp} {s : Shared} {S I : Addr} {oS oI : Obj} (J : Inv X pins σ H s) (fS : FpOk X pins H S) (fI : FpOk X pins H I) (gS : s.heap.get? S = some oS) (gI : s.heap.get? I = some oI) (dS : ∀ v, oS.data ≠ .cell v) (dI : ∀ v, oI.data ≠ .cell v) :
    Inv X (pins ++ [(S, oS), (I, oI)]) σ H s := J.pins_of fun p hp => by
  rcases List.mem_append.mp hp with z | z
  · exact J.pin p (List.mem_append_right _ z)
  · rcases List.mem_cons.mp z with rfl | z
    · exact ⟨gS, fS.1, fS.2.1, fS.2.2.1, dS⟩
    · rw [List.mem_singleton.mp z]
      exact ⟨gI, fI.1, fI.2.1, fI.2.2.1, dI⟩
/-- what the loop keeps: nothing yet, or the best so far and its key -/
inductive MinSt (items : List V) (kf : Nat → Int) : Nat → Array Value → Prop
  | nil : MinSt items kf 0 #[]
  | best {j i : Nat} {x : V} {vb : Value} {tb : Tok} (lt : i < j) (at_ : items[i]? = some x) (rel : RelV x vb) (first : ∀ j', j' < j → kf i ≤ kf j' ∧ (j' < i → kf i < kf j')) : MinSt items kf j #[vb, .int (kf i) tb]
theorem MinSt.one {items : List V} {kf : Nat → Int} {x : V} {v : Value} {t : Tok} (h : items[0]? = some x) (r : RelV x v) : MinSt items kf 1 #[v, .int (kf 0) t] :=
  .best Nat.one_pos h r fun j' hj => by
    obtain rfl : j' = 0 := by omega
    exact ⟨Int.le_refl _, fun z => absurd z (Nat.lt_irrefl _)⟩
theorem MinSt.less {items : List V} {kf : Nat → Int} {j i : Nat} {x : V} {v : Value} {t : Tok} (f : ∀ j', j' < j → kf i ≤ kf j' ∧ (j' < i → kf i < kf j')) (hx : items[j]? = some x) (r : RelV x v) (lt : kf j < kf i) : MinSt items kf (j + 1) #[v, .int (kf j) t] :=
  .best (Nat.lt_succ_self j) hx r fun j' hj => by
    rcases Nat.lt_or_ge j' j with z | z
    · have := (f j' z).1
      omega
    · obtain rfl : j' = j := by omega
      omega
theorem MinSt.more {items : List V} {kf : Nat → Int} {j i : Nat} {x : V} {v : Value} {t : Tok} (lt : i < j) (hx : items[i]? = some x) (r : RelV x v) (f : ∀ j', j' < j → kf i ≤ kf j' ∧ (j' < i → kf i < kf j')) (ge : ¬ kf j < kf i) : MinSt items kf (j + 1) #[v, .int (kf i) t] :=
  .best (Nat.lt_succ_of_lt lt) hx r fun j' hj => by
    rcases Nat.lt_or_ge j' j with z | z
    · exact f j' z
    · obtain rfl : j' = j := by omega
      omega
set_option maxHeartbeats 16000000 in
/-- one theorem for all turns: by how many are still to come -/
theorem min_loop {k : Nat} {q l S I : Addr} {fd : FuncData} {ps : List Str} {sp : Sp} (F : FnOk X.prog X.w X.K X.mg X.base (L2N.CX X.prog X.w) k q fd ps sp) (hr : Room k X.A.in1) (hb : Binds X.K fd ps []) (hc : X.calm = true) {items : List V} (kf : Nat → Int) {H0 : Hp} (hl : H0 l = some (.lst items)) (hne : 0 < items.length)
    (turn : ∀ i x H, Same H0 H → items[i]? = some x → ∀ Q : VK, (∀ H', Same H H' → Q (.int (kf i)) H') → sp [x] H Q (fun _ _ _ => False)) {pins : List (Addr × Obj)} {σ : L2.St} {R : Result → Shared → Prop} (hSI : S ≠ I)
    (hR : ∀ i x u H s, Inv X pins σ H s → Same H0 H → items[i]? = some x → RelV x u → (∀ j, j < items.length → kf i ≤ kf j ∧ (j < i → kf i < kf j)) → R (.ok (.ret u)) s) :
    ∀ (n j : Nat) (s : Shared) (H : Hp) (arr : Array Value) (c : Nat), j + n = items.length → MinSt items kf j arr → Inv X pins σ H s → Same H0 H → FpOk X pins H S → FpOk X pins H I → s.heap.get? S = some (seqObj "list" arr c) → s.heap.IsListIter I l j →
      codeAny (model X.prog X.w) X.A (.builtin "min.loop" ⟨[.ref I, .ref q, .ref S], []⟩) R s := by
  have again : "min.loop" = (toString "min" ++ toString ".loop" : String) := by decide
  intro n
  induction n with
  | zero =>
    intro j s H arr c hj st J sm fS fI gS hit
    have hj : j = items.length := hj
    cases st with
    | nil => exact absurd hne (by omega)
    | best lt hx rx first =>
      rename_i i x vb tb
      subst hj
      obtain ⟨us, rv, pl, _⟩ := J.list (SqL.of (sm l _ hl))
      have apart : l ≠ I := fun z => nomatch (z ▸ sm l _ hl).symm.trans fI.1
      have size : us.toArray.size = items.length := by rw [List.size_toArray, ← rv.length]
      refine codeAny_builtin PySem.F.entry_min_loop ?_; rw [Around.under_plainId PySem.F.plain_min_loop _]
      refine wpAny_bind (wpAny_seqItems gS rfl (wpAny_bind (wpAny_tryCatch ((Walks.list (prog := X.prog) (w := X.w) (A := X.A.in1) (J.ok.hd hc) I l apart us.toArray).done _ _ _ ⟨by rw [size]; exact hit, pl.isList⟩ fun h1 t1 k1 => wpAny_bind (wpAny_updateSeq (k1 S _ (by simpa using hSI) gS) rfl (wpAny_bind (wpAny_letGo (wpAny_pure ?_))))))))
      have J1 : Inv X pins σ H { s with heap := h1, toks := t1 } := J.turnedL (ch := [I]) (fun b o hb q => k1 b o hb q) (fun b hb => (List.mem_singleton.mp hb) ▸ fI)
      exact hR i x vb H _ (J1.turnedL (t' := t1) (h' := h1.update S (Obj.mapSeq fun _ => (#[] : Array Value))) (ch := [S]) (fun b o hb q => ((Heap.SameBut.update h1 S _).2 b (fun z => hb (by simp [z]))).trans q) (fun b hb => (List.mem_singleton.mp hb) ▸ fS)) sm hx rx first
  | succ n ih =>
    intro j s H arr c hj st J sm fS fI gS hit
    have hlt : j < items.length := by omega
    obtain ⟨us, rv, pl, _⟩ := J.list (SqL.of (sm l _ hl))
    have apart : l ≠ I := fun z => nomatch (z ▸ sm l _ hl).symm.trans fI.1
    have size : us.toArray.size = items.length := by rw [List.size_toArray, ← rv.length]
    obtain ⟨y, hy⟩ : ∃ y, items[j]? = some y := ⟨_, List.getElem?_eq_getElem hlt⟩
    refine codeAny_builtin PySem.F.entry_min_loop ?_; rw [Around.under_plainId PySem.F.plain_min_loop _]
    refine wpAny_bind (wpAny_seqItems gS rfl (wpAny_bind (wpAny_tryCatch ((Walks.list (prog := X.prog) (w := X.w) (A := X.A.in1) (J.ok.hd hc) I l apart us.toArray).item j _ _ _ (by rw [size]; exact hlt) ⟨hit, pl.isList⟩ fun v h1 t1 hv hst k1 => ?_))))
    obtain ⟨v', hv', ry⟩ := rv.get hy
    obtain rfl : v' = v := by simpa [hv'] using hv
    obtain ⟨oI, hoI, hoc, hod⟩ := hst.1
    have J1 : Inv X pins σ H { s with heap := h1, toks := t1 } := J.turnedL (ch := [I]) (fun b o hb q => k1 b o hb q) (fun b hb => (List.mem_singleton.mp hb) ▸ fI)
    have J2 := two_pins J1 fS fI (k1 S _ (by simpa using hSI) gS) hoI (fun v q => nomatch q) (fun v q => by rw [hod] at q; cases q)
    refine wpAny_bind (wpAny_tryCatch (wpAny_holding (wpAny_mono (run_fn1 F hr hb J2 (.cons ry .nil) (turn j y H sm hy (fun u H2 => u = .int (kf j) ∧ Same H H2) fun H2 s2 => ⟨rfl, s2⟩)) (fun u s'' he => ?_) fun _ _ hF => hF.elim)))
    obtain ⟨u', H2, J3, ru, rfl, s2⟩ := he
    obtain ⟨t2, rfl⟩ := ru
    have pS := J3.pin (S, seqObj "list" arr c) (List.mem_append_right _ (List.mem_append_right _ List.mem_cons_self))
    have pI := J3.pin (I, oI) (List.mem_append_right _ (List.mem_append_right _ (List.mem_cons_of_mem _ List.mem_cons_self)))
    have J4 : Inv X pins σ H2 s'' := J3.pins_of fun p hp => J3.pin p (List.mem_append_right _ (List.mem_append_left _ hp))
    have fS2 : FpOk X pins H2 S := ⟨pS.2.1, fS.2⟩
    have fI2 : FpOk X pins H2 I := ⟨pI.2.1, fI.2⟩
    -- the key is new, and the loop goes on
    have put : MinSt items kf (j + 1) #[v', .int (kf j) t2] → codeAny (model X.prog X.w) X.A (.builtin "min.loop" ⟨[.ref I, .ref q, .ref S], []⟩) R { s'' with heap := s''.heap.update S (Obj.mapSeq fun _ => #[v', .int (kf j) t2]) } := fun st2 =>
      have sb := Heap.SameBut.update s''.heap S (Obj.mapSeq fun _ => #[v', .int (kf j) t2])
      ih (j + 1) _ H2 _ _ (by omega) st2 (J4.turnedL (t' := s''.toks) (ch := [S]) (fun b o hb q => (sb.2 b (fun z => hb (by simp [z]))).trans q) (fun b hb => (List.mem_singleton.mp hb) ▸ fS2)) (sm.trans s2) fS2 fI2 (get?_update_seq pS.1 fun _ => #[v', .int (kf j) t2]) ⟨oI, (sb.2 I hSI.symm).trans pI.1, hoc, hod⟩
    cases st with
    | nil => exact wpAny_bind (wpAny_updateSeq pS.1 rfl (again ▸ wpAny_pure ⟨plainId_quiet PySem.F.plain_min_loop _, put (.one hy ry)⟩))
    | best lt hx rx first =>
      rename_i i x vb tb
      refine wpAny_bind (wpAny_tryCatch (wpAny_holding (wpAny_bind (CmpOf.ints_lt (prog := X.prog) (w := X.w) (A := X.A.in1) (P := fun i v => ∃ t, v = .int (kf i) t) kf (fun i v h => h) j i _ _ _ _ _ ⟨t2, rfl⟩ ⟨tb, rfl⟩ (wpAny_bind (wpAny_holding (wpAny_truthy_bool (wpAny_bind (wpAny_letGo (wpAny_pure ?_))))))))))
      by_cases less : kf j < kf i
      · rw [if_pos (show (fun i j => decide (kf i < kf j)) j i = true from decide_eq_true less)]
        exact wpAny_bind (wpAny_updateSeq pS.1 rfl (wpAny_bind (wpAny_letGo (again ▸ wpAny_pure ⟨plainId_quiet PySem.F.plain_min_loop _, put (.less first hy ry less)⟩))))
      · rw [if_neg (show ¬ (fun i j => decide (kf i < kf j)) j i = true from fun z => less (of_decide_eq_true z))]
        exact wpAny_bind (wpAny_letGo (again ▸ wpAny_pure ⟨plainId_quiet PySem.F.plain_min_loop _, ih (j + 1) _ H2 _ c (by omega) (.more lt hx rx first less) J4 (sm.trans s2) fS2 fI2 pS.1 ⟨oI, pI.1, hoc, hod⟩⟩))
set_option maxHeartbeats 16000000 in
theorem call_minK {k : Nat} {q l : Addr} {fd : FuncData} {ps : List Str} {sp : Sp} (F : FnOk X.prog X.w X.K X.mg X.base (L2N.CX X.prog X.w) k q fd ps sp) (hr : Room k X.A.in1) (hb : Binds X.K fd ps []) (hc : X.calm = true) {items : List V} (kf : Nat → Int) {H0 : Hp} (hl : H0 l = some (.lst items)) (hne : 0 < items.length)
    (turn : ∀ i x H, Same H0 H → items[i]? = some x → ∀ Q : VK, (∀ H', Same H H' → Q (.int (kf i)) H') → sp [x] H Q (fun _ _ _ => False)) {pins : List (Addr × Obj)} {σ : L2.St} {s : Shared} {Q : VK} (J : Inv X pins σ H0 s)
    (hQ : ∀ i x H, Same H0 H → items[i]? = some x → (∀ j, j < items.length → kf i ≤ kf j ∧ (j < i → kf i < kf j)) → Q x H) :
    wpAny (model X.prog X.w) X.A (call (.builtin "min") [.ref l] [(Str.ofString "key", .ref q)]) (EP X pins σ Q) X.xe s := by
  have again : "min.loop" = (toString "min" ++ toString ".loop" : String) := by decide
  obtain ⟨us, rv, pl, _⟩ := J.list (SqL.of hl)
  have one : (s.heap.push { cls := .type "list_iterator", data := .fields #[.ref l, .int 0 0] }).objs.size = s.heap.objs.size + 1 := Heap.size_push ..
  have apart : (s.heap.push { cls := .type "list_iterator", data := .fields #[.ref l, .int 0 0] }).objs.size ≠ s.heap.objs.size := fun z => Nat.succ_ne_self _ (one.symm.trans z)
  have new : ∀ b, s.heap.objs.size ≤ b → FpOk X pins H0 b := fun b h => J.fpOk h (J.hok.fresh h)
  refine kmk_tree PySem.F.kind_min PySem.F.plain_min PySem.F.entry_min (kmk_min_key _ _) (wpAny_bind (wpAny_of_eq (a := [some (.ref q), none]) rfl (wpAny_bind (wpAny_pure (wpAny_bind (wpAny_pyIter_list pl.isList (wpAny_bind (wpAny_newList ?_ (Nat.zero_le _)))))))))
  exact again ▸ wpAny_pure ⟨plainId_quiet PySem.F.plain_min_loop _, min_loop F hr hb hc kf hl hne turn apart (fun i x u H s J sm hx rx first => ⟨x, H, J, rx, hQ i x H sm hx first⟩) items.length 0 _ H0 #[] 0 (Nat.zero_add _) .nil (J.kept (t' := s.toks) fun b o e => Heap.get?_push_of_some _ (Heap.get?_push_of_some _ e)) (Same.refl H0) (new _ (by rw [one]; exact Nat.le_succ _)) (new _ (Nat.le_refl _)) (Heap.get?_push_size _ rfl) ⟨_, Heap.get?_push_of_some _ (Heap.get?_push_size _ rfl), rfl, rfl⟩⟩
def rMinK (f : Addr) (sp : Sp) (kf : Nat → Int) : List V → List V → Hp → VK → Prop := fun vs zs H Q => ∃ (l : Addr) (items : List V), vs = [.ref l] ∧ zs = [.ref f] ∧ H l = some (.lst items) ∧ 0 < items.length ∧
  (∀ i x H', Same H H' → items[i]? = some x → ∀ Q : VK, (∀ H2, Same H' H2 → Q (.int (kf i)) H2) → sp [x] H' Q (fun _ _ _ => False)) ∧ ∀ i x H', Same H H' → items[i]? = some x → (∀ j, j < items.length → kf i ≤ kf j ∧ (j < i → kf i < kf j)) → Q x H'
theorem cr_minKey {k : Nat} {q : Addr} {fd : FuncData} {ps : List Str} {sp : Sp} (F : FnOk X.prog X.w X.K X.mg X.base (L2N.CX X.prog X.w) k q fd ps sp) (hr : Room k X.A.in1) (hb : Binds X.K fd ps []) (hc : X.calm = true) (kf : Nat → Int) : CallRK X (.builtin "min") [Str.ofString "key"] (rMinK q sp kf) := by
  intro pins s σ H xs zs us ws Q I r1 r2 h
  obtain ⟨l, items, rfl, rfl, hl, hne, turn, hQ⟩ := h
  cases r1 with
  | cons a b =>
    cases b
    cases a
    cases r2 with
    | cons a b =>
      cases b
      cases a
      exact call_minK F hr hb hc kf hl hne turn I hQ
variable {δ : De} {ω : Om} {a : Expr} {d : PyData} {ds : List PyData} {pos p : Pos}
theorem pd_minK {k : Nat} {kx : Str} {kp kpos : Pos} {kf : Nat → Int} {fr : List PyData → Rs → Prop} (G : DefOk X.prog X.w X.K X.mg X.base k kx fr) (hr : Room (k + 1) X.A) (hc : X.calm = true) (hm : X.mg "min" = none) (ha : PN X δ ω a ds) (hne : 0 < ds.length) (hf : ∀ i e, ds[i]? = some e → fr [e] (.ok (.int (kf i))))
    (hd : ∀ i e, ds[i]? = some e → (∀ j, j < ds.length → kf i ≤ kf j ∧ (j < i → kf i < kf j)) → e = d) (hg : Gl X "min" := by rfl) (hgk : Gl X kx := by rfl) (hdk : (kx == ("__debug__" : Str)) = false := by decide) (hs : starEach [a] X.env = (false, eval a X.env) :: starEach [] X.env := by rfl)
    (he : backTo pos (starEach [a] X.env) = (false, eval a X.env) :: backTo pos (starEach [] X.env) := by rfl) (hpl : (backTo pos (starEach [a] X.env)).any (·.1) = false := by rfl)
    (hall : (backToKw pos (keywordEach [⟨some "key", .Name kx kp, kpos⟩] X.env)).all (·.1.isSome) = true := by rfl) (hnone : (backToKw pos (keywordEach [⟨some "key", .Name kx kp, kpos⟩] X.env)).any (·.1.isNone) = false := by rfl) (hks : (backToKw pos (keywordEach [⟨some "key", .Name kx kp, kpos⟩] X.env)).filterMap (·.1) = [Str.ofString "key"] := by rfl) :
    PD X δ ω (.Call (.Name "min" p) [a] [⟨some "key", .Name kx kp, kpos⟩] pos) d := fun σ H rl Q q => by
  obtain ⟨f, fd, ps, F, m, kpp, b⟩ := G.ex
  refine we (pe_callBK (cr_minKey F hr.in1 b hc kf) hg hm PyProof.Rows.boot_min (pa_cons pe_w pa_nil hs) (pk_cons (pe_glob (v := .ref f) hgk m rfl hdk) pk_nil) (by decide) (by decide) he hpl hall hnone hks) ?_
  refine ha σ H rl _ fun l vs H1 s1 np h1 d1 => ?_
  have lv : vs.length = ds.length := dpa_len d1
  have get : ∀ i x, vs[i]? = some x → ∃ e, ds[i]? = some e ∧ Dp X.K (hid (l :: ads ω) H1) x e := fun i x hx => dpa_get' d1 hx
  refine ⟨l, vs, rfl, rfl, h1, by rw [lv]; exact hne, fun i x H2 s2 hx Q2 hQ2 => ?_, fun i x H2 s2 hx hbest => ?_⟩
  · obtain ⟨e, h3, h4⟩ := get i x hx
    exact ⟨ads ω, [e], .ok (.int (kf i)), there_mono rl.ro.there (s1.trans s2), .cons (dpm (hid_cons.trans (hid_same s2)) h4) .nil, hf i e h3, fun v H3 s3 d3 => by
      cases d3
      exact hQ2 H3 s3⟩
  · obtain ⟨e, h3, h4⟩ := get i x hx
    have ed := hd i e h3 (by rw [← lv]; exact hbest)
    subst ed
    exact q x H2 (s1.trans s2) (dpm (hid_cons.trans (hid_same s2)) h4)
end
end FP

namespace FP
open PySem PySem.Spec PyProof.Rows L2 HotX L2H
section
variable {X : Cx} {pins : List (Addr × Obj)} {σ : L2.St} {H : Hp} {s : Shared} {h' : Heap}
theorem inv_nsNew {t' : Nat} {T : Addr} {ob : HO} {m : Str → Option Value} (J : Inv X pins σ H s) (hm : s.heap.Ns X.env.locals m) (hm' : h'.Ns X.env.locals m) (k : ∀ b o, b ≠ X.env.locals → s.heap.get? b = some o → h'.get? b = some o) (hT : s.heap.objs.size ≤ T)
    (new : ObjOk X.prog X.w (upd H T ob) h' T ob) : Inv X pins σ (upd H T ob) { s with heap := h', toks := t' } := by
  have hn : H T = none := J.hok.fresh hT
  have nL : ∀ b u, H b = some u → b ≠ X.env.locals := fun b u e z => by
    rw [z, J.free] at e
    cases e
  refine J.step (g' := s.gens) (d' := s.drawn) (ch := []) (fun b hb => (List.not_mem_nil hb).elim) (fun b o nb _ _ e _ => k b o nb e) (fun b o nb _ _ e _ => ⟨o.slots, k b o nb e⟩)
    (fun b o _ e n => ?_) (fun b o _ e => ?_) (fun b xs e => ?_) (fun b o u e => ?_) (fun b ps e => ⟨#[], ?_⟩) (fun m2 h2 => ?_) (fun b u e => ?_) J.bare
  · rw [upd_ne (Nat.ne_of_lt (Nat.lt_of_lt_of_le (Heap.lt_size e) hT))]; exact n
  · by_cases hb : b = X.env.locals
    · obtain ⟨o2, _, _, ho2, _⟩ := hm'
      rw [hb]
      exact ⟨o2, ho2⟩
    · exact ⟨o, k b o hb e⟩
  · rw [upd_ne (ne_of_none e hn)]; exact e
  · rw [upd_ne (ne_of_none e hn)]; exact e
  · rw [upd_ne (ne_of_none e hn), e]; simp
  · have : m2 = m := funext fun x => h2.agree hm x
    rw [this]
    exact hm'
  · by_cases hb : b = T
    · subst hb
      rw [upd_same] at e
      cases e
      exact new
    · rw [upd_ne hb] at e
      refine (J.hok b u e).stay (fun c v hc q => k c v ?_ q) (fun c q => by rw [upd_ne (ne_of_none q hn)]; exact q) fun c xs q => by rw [upd_ne (ne_of_none q hn)]; exact q
      rcases hc with z | z
      · rw [z]; exact nL b u e
      · exact nL c _ z
theorem vals_ints : ∀ {us : List Value} {ns : List Int}, IntsAre us ns → Vals (ns.map V.int) us
  | _, _, .nil => .nil
  | _, _, .cons n t h => .cons ⟨t, rfl⟩ (vals_ints h)
def absI (n : Int) : Int := if n < 0 then -n else n
/-- how the numbers stand then -/
structure AbsSorted (ns' ns : List Int) : Prop where
  perm : ns'.Perm ns
  ord : ns'.Pairwise fun x y => absI x ≤ absI y
  stay : ∀ z, ns'.filter (fun x => absI x == z) = ns.filter (fun x => absI x == z)
def rgI (a b : Int) : List Int := (List.range (b - a).toNat).map fun (i : Nat) => a + (i : Int)
theorem rgV_I (a b : Int) : rgV a b = (rgI a b).map V.int := by
  unfold rgV rgI
  rw [List.map_map]
  rfl
/-- a number with its key -/
def kyd (v : Value) : Int × Value := (absI (numOf v), v)
theorem zip_kyd : ∀ {vs : List Value} {ns : List Int}, IntsAre vs ns → (ns.map absI).zip vs = vs.map kyd ∧ ns = vs.map numOf
  | _, _, .nil => ⟨rfl, rfl⟩
  | _, _, .cons n t h => by
    obtain ⟨e1, e2⟩ := zip_kyd h
    refine ⟨?_, congrArg (List.cons n) e2⟩
    exact congrArg (List.cons (absI n, _)) e1
theorem ints_num : ∀ {vs : List Value}, (∀ v ∈ vs, ∃ n t, v = .int n t) → IntsAre vs (vs.map numOf)
  | [], _ => .nil
  | v :: vs, h => by
    obtain ⟨n, t, rfl⟩ := h v List.mem_cons_self
    exact .cons n t (ints_num fun u hu => h u (List.mem_cons_of_mem _ hu))
theorem ints_all : ∀ {vs : List Value} {ns : List Int}, IntsAre vs ns → ∀ v ∈ vs, ∃ n t, v = Value.int n t
  | _, _, .nil, v, hv => (List.not_mem_nil hv).elim
  | _, _, .cons n t h, v, hv => (List.mem_cons.mp hv).elim (fun e => ⟨n, t, e⟩) fun e => ints_all h v e
theorem out_abs {ns : List Int} {vs out : List Value} (hi : IntsAre vs ns) (ko : KskOutSt false (ns.map absI) vs out) : ∃ ns', IntsAre out ns' ∧ AbsSorted ns' ns := by
  obtain ⟨ez, en⟩ := zip_kyd hi
  obtain ⟨ps, pm, eo, od, st⟩ := ko
  rw [ez] at pm st
  -- each pair is a number with its key
  have eps : ps = out.map kyd := by
    rw [eo, List.map_map]
    conv => lhs; rw [← List.map_id ps]
    refine List.map_congr_left fun p hp => ?_
    obtain ⟨v, _, rfl⟩ := List.mem_map.mp (pm.mem_iff.mp hp)
    rfl
  have po : out.Perm vs := by
    have := pm.map Prod.snd
    rw [← eo, List.map_map] at this
    have e : vs.map (Prod.snd ∘ kyd) = vs := List.map_id'' (fun _ => rfl) vs
    rwa [e] at this
  refine ⟨out.map numOf, ints_num fun v hv => ints_all hi v (po.mem_iff.mp hv), by rw [en]; exact po.map numOf, ?_, fun z => ?_⟩
  · rw [eps, List.pairwise_map] at od
    rw [List.pairwise_map]
    exact od.imp fun h => by simpa [kyd] using h
  · have := congrArg (List.map fun p : Int × Value => numOf p.2) (st z)
    rw [eps, List.filter_map, List.filter_map, List.map_map, List.map_map] at this
    rw [en, List.filter_map, List.filter_map]
    exact this
set_option maxHeartbeats 16000000 in
theorem call_sortedAbs {r : Addr} {a b : Int} {t u v : Tok} {Q : VK} (J : Inv X pins σ H s) (hc : X.calm = true) (hr : IsRange s.heap r a b 1 t u v) (ok : RgOk a b) (hn : (b - a).toNat ≤ 100000)
    (q : ∀ (ns' : List Int) (p : Addr), AbsSorted ns' (rgI a b) → H p = none → Q (.ref p) (upd H p (.lst (ns'.map V.int)))) :
    wpAny (model X.prog X.w) X.A (call (.builtin "sorted") [.ref r] [(Str.ofString "key", .builtin "abs")]) (EP X pins σ Q) X.xe s := by
  obtain ⟨b1, b2, b3, b4, b5⟩ := ok
  refine call_function_entry_kw kind_sorted plain_sorted entry_sorted (ksk_s1 _ _) ?_
  unfold Builtin.«sorted»
  refine wpAny_bind (m := checkCount "sorted" 1 1 _) (wpAny_pure ?_)
  refine wpAny_bind (collect_range (n := (b - a).toNat) (J.ok.hd hc) hr (small_one b1 b2 b3 b4) (rangeSize_nat a b) b5 fun h1 tk1 acc hk1 hi => ?_)
  have V1 := vals_rg hi
  rw [rgV_I] at V1
  have I1 : IntsAre acc.toList (rgI a b) := RZ.intsAre_vals V1
  have la : acc.toList.length = (b - a).toNat := by rw [← V1.length, List.length_map]; unfold rgI; simp
  refine wpAny_bind (wpAny_newList ?_ (by rw [la, sizeLine_eq]; omega))
  have J1 : Inv X pins σ H { s with heap := h1, toks := tk1 } := J.kept hk1
  have J2 : Inv X pins σ H { s with heap := h1.push (seqObj "list" acc.toList.toArray 0), toks := tk1 } := J.kept fun b o e => Heap.get?_push_of_some _ (hk1 b o e)
  have hoL : (h1.push (seqObj "list" acc.toList.toArray 0)).get? h1.objs.size = some (seqObj "list" acc.toList.toArray 0) := Heap.get?_push_size _ rfl
  obtain ⟨m, F⟩ := J2.fr
  have hL1 : X.env.locals < h1.objs.size := J1.lt
  have hDL : h1.objs.size ≠ X.env.locals := Nat.ne_of_gt hL1
  have hD0 : X.base.get? h1.objs.size = none := Heap.get?_none_of_le (Nat.le_trans F.above (Nat.le_of_lt hL1))
  generalize hG : h1.push (seqObj "list" acc.toList.toArray 0) = G at J2 hoL F
  have newsN : ∃ news : List (Addr × Obj), News X.base X.env.locals G news ∧ (∀ p ∈ news, p.1 ≠ h1.objs.size) ∧ ∀ b o, b ≠ X.env.locals → b ≠ h1.objs.size → X.base.get? b = none → G.get? b = some o → (b, o) ∈ news := by
    refine ⟨(List.range G.objs.size).filterMap fun b => if b = X.env.locals ∨ b = h1.objs.size ∨ X.base.get? b ≠ none then none else (G.get? b).map fun o => (b, o), fun p hp => ?_, fun p hp => ?_, fun b o n1 n2 n3 e => ?_⟩
    · obtain ⟨b, _, hb⟩ := List.mem_filterMap.mp hp
      split at hb
      · cases hb
      · rename_i hn'
        cases e : G.get? b with
        | none => rw [e] at hb; cases hb
        | some o =>
          rw [e] at hb
          cases hb
          refine ⟨e, fun z => hn' (.inl z), ?_⟩
          cases z : X.base.get? b with
          | none => rfl
          | some y => exact (hn' (.inr (.inr (by rw [z]; exact fun w => by cases w)))).elim
    · obtain ⟨b, _, hb⟩ := List.mem_filterMap.mp hp
      split at hb
      · cases hb
      · rename_i hn'
        cases e : G.get? b with
        | none => rw [e] at hb; cases hb
        | some o =>
          rw [e] at hb
          cases hb
          exact fun z => hn' (.inr (.inl z))
    · refine List.mem_filterMap.mpr ⟨b, List.mem_range.mpr (Heap.lt_size e), ?_⟩
      rw [if_neg (by
        rintro (z | z | z)
        · exact n1 z
        · exact n2 z
        · exact z n3), e]
      rfl
  obtain ⟨news, N, hna, full⟩ := newsN
  have hlen : ((rgI a b).map absI).length = acc.toList.length := by rw [List.length_map, I1.length]
  refine wpAny_bind (wpAny_holding (wpAny_call_entry_kw slot_list_sort (s := { s with heap := G, toks := tk1 }) ⟨_, hoL, rfl⟩ entry_list_sort ?body (ksk_l1 _ _)))
  case body =>
    show wpAny (model X.prog X.w) X.A.in1.in1 (Builtin.«list.sort» ⟨[.ref h1.objs.size], [(Str.ofString "key", .builtin "abs")]⟩) _ _ _
    rw [ksk_t4]
    refine ksk_sortSt (b := false) (kz := (rgI a b).map absI) (vs := acc.toList) (s := { s with heap := G, toks := tk1 }) F N hoL hDL hD0 hna hlen (by rw [la, sizeLine_eq]; omega) (fun i v k hv hk h tk own F' N' => ?_) fun h2 tk out c F' N' k' => ⟨_, rfl, ?_⟩
    · rw [List.getElem?_map] at hk
      cases qn : (rgI a b)[i]? with
      | none => rw [qn] at hk; cases hk
      | some n =>
        rw [qn] at hk
        cases hk
        obtain ⟨t2, ht2⟩ := I1.get i n qn
        rw [ht2] at hv
        cases hv
        exact call_abs_int fun u2 tk2 => KskEnd.intro F' N' fun p hp => hp
    · refine wpAny_pure ⟨_, rfl, ?_⟩
      obtain ⟨ns', hI', srt⟩ := out_abs I1 k'
      have pD := N' (h1.objs.size, seqObj "list" out c) List.mem_cons_self
      have keep : ∀ b o, b ≠ X.env.locals → h1.get? b = some o → h2.get? b = some o := fun b o n1 e => by
        have nD : b ≠ h1.objs.size := Nat.ne_of_lt (Heap.lt_size e)
        have eG : G.get? b = some o := by rw [← hG]; exact Heap.get?_push_of_some _ e
        cases eb : X.base.get? b with
        | none => exact (N' (b, o) (List.mem_cons_of_mem _ (full b o n1 nD eb eG))).1
        | some o2 =>
          have e2 := F.keep b o2 eb
          rw [eG] at e2
          cases e2
          exact F'.keep b _ eb
      have nsG : h1.Ns X.env.locals m := by
        obtain ⟨o, es, ep, ho, rr⟩ := F.ns
        refine ⟨o, es, ep, ?_, rr⟩
        rw [← hG, Heap.get?_push_ne _ _ _ (Ne.symm hDL)] at ho
        exact ho
      have lo : ns'.length = (b - a).toNat := by rw [srt.perm.length_eq]; unfold rgI; simp
      have new : ObjOk X.prog X.w (upd H h1.objs.size (.lst (ns'.map V.int))) h2 h1.objs.size (.lst (ns'.map V.int)) := ⟨by rw [List.length_map, lo, sizeLine_eq]; omega, out.toList, c, vals_ints hI', by rw [Array.toArray_toList]; exact pD.1⟩
      have J3 := inv_nsNew (t' := tk) J1 nsG F'.ns keep (Nat.le_refl _) new
      exact ⟨.ref h1.objs.size, _, J3, rfl, q ns' _ srt (J1.hok.fresh (Nat.le_refl _))⟩
theorem abs_unique : ∀ (l1 l2 : List Int), l1.Pairwise (fun x y => absI x ≤ absI y) → l2.Pairwise (fun x y => absI x ≤ absI y) → (∀ z, l1.filter (fun x => absI x == z) = l2.filter (fun x => absI x == z)) → l1 = l2
  | [], [], _, _, _ => rfl
  | [], y :: t, _, _, h => by
    have := h (absI y)
    rw [List.filter_cons, if_pos (by simp)] at this
    cases this
  | x :: t, [], _, _, h => by
    have := h (absI x)
    rw [List.filter_cons, if_pos (by simp)] at this
    cases this
  | x :: t1, y :: t2, h1, h2, h => by
    obtain ⟨a1, b1⟩ := List.pairwise_cons.mp h1
    obtain ⟨a2, b2⟩ := List.pairwise_cons.mp h2
    have le1 : absI y ≤ absI x := by
      have m : x ∈ (y :: t2).filter (fun w => absI w == absI x) := by
        rw [← h (absI x)]
        exact List.mem_filter.mpr ⟨List.mem_cons_self, by simp⟩
      rcases List.mem_cons.mp (List.mem_filter.mp m).1 with e | e
      · rw [e]; exact Int.le_refl _
      · exact a2 x e
    have le2 : absI x ≤ absI y := by
      have m : y ∈ (x :: t1).filter (fun w => absI w == absI y) := by
        rw [h (absI y)]
        exact List.mem_filter.mpr ⟨List.mem_cons_self, by simp⟩
      rcases List.mem_cons.mp (List.mem_filter.mp m).1 with e | e
      · rw [e]; exact Int.le_refl _
      · exact a1 y e
    have ek : absI x = absI y := by omega
    have hh := h (absI x)
    rw [List.filter_cons, if_pos (by simp), List.filter_cons, if_pos (by simp [ek])] at hh
    injection hh with e1 e2
    subst e1
    have rest : t1 = t2 := abs_unique t1 t2 b1 b2 fun z => by
      by_cases hz : absI x = z
      · subst hz
        exact e2
      · have := h z
        rw [List.filter_cons, if_neg (by simpa using hz), List.filter_cons, if_neg (by simpa using hz)] at this
        exact this
    rw [rest]
open Classical in
noncomputable def rollsOf (ns : List Int) : List Int := if h : ∃ l, AbsSorted l ns then Classical.choose h else []
theorem rolls_is {l ns : List Int} (h : AbsSorted l ns) : l = rollsOf ns ∧ AbsSorted (rollsOf ns) ns := by
  have hex : ∃ l, AbsSorted l ns := ⟨l, h⟩
  have hs : AbsSorted (rollsOf ns) ns := by
    unfold rollsOf
    rw [dif_pos hex]
    exact Classical.choose_spec hex
  exact ⟨abs_unique _ _ h.ord hs.ord fun z => (h.stay z).trans (hs.stay z).symm, hs⟩
variable {δ : De} {ω : Om} {a b : Expr} {d : PyData} {ds : List PyData} {pos p : Pos}
def tSortRg (te : L2.St → Hp → (Int → Int → Hp → Prop) → Prop) : TE := fun σ H Q => te σ H fun i j H1 => RgOk i j ∧ (j - i).toNat ≤ 100000 ∧ ∀ ns' q, AbsSorted ns' (rgI i j) → H1 q = none → Q (.ref q) (upd H1 q (.lst (ns'.map V.int)))
theorem pe_sortedAbs {te : L2.St → Hp → (Int → Int → Hp → Prop) → Prop} {e : Expr} {kp kpos : Pos} (hc : X.calm = true) (hg : Gl X "sorted") (hm : X.mg "sorted" = none) (hga : Gl X "abs") (hma : X.mg "abs" = none) (he : PRg X e te) (na : starEach [e] X.env = (false, eval e X.env) :: starEach [] X.env := by rfl)
    (hb : backTo pos (starEach [e] X.env) = (false, eval e X.env) :: backTo pos (starEach [] X.env) := by rfl) (hpl : (backTo pos (starEach [e] X.env)).any (·.1) = false := by rfl) : PE X (.Call (.Name "sorted" p) [e] [⟨some "key", .Name "abs" kp, kpos⟩] pos) (tSortRg te) := by
  refine ⟨fun pins s σ H Q I h => ?_⟩
  refine wpAny_Call_Name_kw (ld_blt I hg hm PyProof.Rows.boot_sorted ?_)
  refine PyProof.Rows.callWith_kw (args_cons (thn (he pins s σ H _ I h) fun x s1 ⟨r, i, j, t, u, v, H1, ex, hr, I1, ok, hn, q⟩ => args_nil ?_) na) hb hpl (by rfl) (by rfl)
  subst ex
  show wpAny _ _ (evalAll ((do let v ← eval (.Name "abs" kp) X.env; standAt pos; pure v) :: [])) _ _ s1
  refine wpAny_evalAll_cons (wpAny_bind (ld_blt I1 hga hma PyProof.Rows.boot_abs (wpAny_bind (wpAny_standAt (wpAny_pure (wpAny_evalAll_nil ?_))))))
  exact call_sortedAbs I1 hc hr ok hn q
theorem pn_sortedAbs {i j : Int} {p2 q2 kp kpos : Pos} (hc : X.calm = true) (hm : X.mg "sorted" = none) (hmr : X.mg "range" = none) (hma : X.mg "abs" = none) (ha : PD X δ ω a (.int i)) (hb : PD X δ ω b (.int j)) (ok : RgOk i j) (hn : (j - i).toNat ≤ 100000)
    (hg : Gl X "sorted" := by rfl) (hgr : Gl X "range" := by rfl) (hga : Gl X "abs" := by rfl) (na : starEach [a, b] X.env = (false, eval a X.env) :: starEach [b] X.env := by rfl)
    (nb : starEach [b] X.env = (false, eval b X.env) :: starEach [] X.env := by rfl) (hp : (backTo q2 (starEach [b] X.env)).any (·.1) = false := by rfl) (ne : starEach [.Call (.Name "range" p2) [a, b] [] q2] X.env = (false, eval (.Call (.Name "range" p2) [a, b] [] q2) X.env) :: starEach [] X.env := by rfl)
    (hb2 : backTo pos (starEach [.Call (.Name "range" p2) [a, b] [] q2] X.env) = (false, eval (.Call (.Name "range" p2) [a, b] [] q2) X.env) :: backTo pos (starEach [] X.env) := by rfl) (hpl : (backTo pos (starEach [.Call (.Name "range" p2) [a, b] [] q2] X.env)).any (·.1) = false := by rfl) :
    PN X δ ω (.Call (.Name "sorted" p) [.Call (.Name "range" p2) [a, b] [] q2] [⟨some "key", .Name "abs" kp, kpos⟩] pos) ((rollsOf (rgI i j)).map .int) := fun σ H rl Q k => by
  refine we (pe_sortedAbs hc hg hm hga hma (prg_2 hgr hmr pe_w pe_w na nb hp) ne hb2 hpl) ?_
  refine ha σ H rl _ fun x H1 s1 d1 => hb σ H1 (rl.mono s1) _ fun y H2 s2 d2 => ?_
  cases d1
  cases d2
  refine ⟨i, j, rfl, rfl, ok, hn, fun ns' q srt nq => ?_⟩
  obtain ⟨e, _⟩ := rolls_is srt
  subst e
  have sq : Same H2 (upd H2 q (.lst ((rollsOf (rgI i j)).map V.int))) := fun b o h => by
    rw [upd_ne (fun z => by rw [z, nq] at h; cases h)]
    exact h
  refine k q _ _ ((s1.trans s2).trans sq) ?_ upd_same (dpa_ints _)
  cases e0 : H q with
  | none => rfl
  | some o =>
    have := (s1.trans s2) q o e0
    rw [nq] at this
    cases this
end
end FP

namespace FP
open PySem PySem.Spec PyProof.Rows L2 HotX L2H
section
variable {X : Cx} {δ : De} {ω : Om} {iter elt : Expr} {pos : Pos}
theorem pn_lc2 {scope : Scope} {n1 n2 : Str} {j1 j2 : Nat} {es : List Expr} {kk : Nat} {tp : Pos} (ls : List (PyData × PyData)) {zs : List PyData} (hc : X.calm = true) (hN : X.N.Nodup) (hw : PWs X δ ω (.Tuple es kk tp) iter (ls.map fun q => .tuple [q.1, q.2])) (hl : zs.length = ls.length) (hz : ls.length ≤ 10000)
    (ok : BlkOk X.N X.env.scope scope [(n1, j1), (n2, j2)]) (hg : ∀ (s : Shared) (H : Hp) (C : Addr) (cl : List (Str × Addr)) (fp : List Addr), PG (X.blk s H scope (compEnvC scope cl C X.env) fp) (.Tuple es kk tp) (gTup X.K 2 (gAll [j1, j2])))
    (he : ∀ (i : Nat) (l m z : PyData), ls[i]? = some (l, m) → zs[i]? = some z → ∀ D o (s : Shared) (H : Hp) (C : Addr) (cl : List (Str × Addr)) (fp : List Addr), PD (X.blk s H scope (compEnvC scope cl C X.env) fp) (((wipeD δ [j1, j2]).set j1 (some (.im l))).set j2 (some (.im m))) (omD ω D o) elt z)
    (hs : ∀ x, foldedSetIterable iter X.env x = pure x := by intro _; rfl) : PN X δ ω (.ListComp elt [⟨.Tuple es kk tp, iter, [], 0⟩] scope pos) zs := fun σ H rl Q k => by
  obtain ⟨wi, h1, h2⟩ := hw
  refine we (pe_lc (own := [(n1, j1), (n2, j2)]) hc hN h1 ok hg (fun _ _ _ _ _ => pts_nil) (fun s H0 C cl fp => pe_blk s H0 C cl fp) hs) ?_
  refine h2 σ H rl _ fun J H1 s1 w => fun D hD => ?_
  have rl1 := rl.mono s1
  refine ⟨fun i m H2 => m = ls.length - i ∧ i ≤ ls.length ∧ Same H1 H2 ∧ ∃ vs, H2 D = some (.lst vs) ∧ DpAll X.K (hid (ads (omD ω D (.lst ((zs.take i).map .im)))) H2) vs (zs.take i), ⟨ls.length, by omega, Nat.zero_le _, same_new hD, [], upd_same, by rw [List.take_zero]; exact .nil⟩, ?_⟩
  rintro i m H2 ⟨em, hi, s2, vs, hv, dv⟩
  obtain ⟨go, stop, yld⟩ := w H2 s2
  rw [List.length_map] at go stop yld
  by_cases hlt : i < ls.length
  · have el : ls[i]? = some ls[i] := List.getElem?_eq_getElem hlt
    have ez : zs[i]? = some zs[i] := List.getElem?_eq_getElem (by omega)
    refine .inr ⟨go i hlt, fun H3 => Same H1 H3 ∧ ∃ vs, H3 D = some (.lst vs) ∧ DpAll X.K (hid (ads (omD ω D (.lst ((zs.take (i + 1)).map .im)))) H3) vs (zs.take (i + 1)), fun H3 ⟨s3, h3⟩ => ⟨ls.length - (i + 1), by omega, rfl, hlt, s3, h3⟩, fun x H3 hy => ?_⟩
    obtain ⟨e3, d, ed, dx⟩ := yld i x H3 hlt hy
    subst e3
    rw [List.getElem?_map, el] at ed
    cases ed
    cases dx with
    | tup c1 c2 =>
      cases c2 with
      | cons c3 c4 =>
        cases c4 with
        | cons c5 c6 =>
          cases c6
          rename_i qw w1 w2
          refine ⟨qw, [w1, w2], rfl, same_sqt s2 (same_sqt hid_sub c1), rfl, ?_⟩
          refine ⟨w1, _, rfl, ?_⟩
          refine ⟨w2, [], rfl, ?_⟩
          refine ⟨rfl, ?_, ?_⟩
          · rw [wipe_mem (by simp), wipe_mem (by simp), wipe_wipe (fun v h => h)]
          · have rl3 := rl1.omD hD s2 hv dv
            have rl4 := rl_wipe rl3 [j1, j2]
            have up := hid_in (ω := ω) (o := .lst ((zs.take i).map .im)) hD s2
            have rl5 := (rl4.set (i := j1) (x := .im ls[i].1) (v := w1) (dpm up c3)).set (i := j2) (x := .im ls[i].2) (v := w2) (dpm up c5)
            intro s H0 C cl fp
            refine he i ls[i].1 ls[i].2 zs[i] el ez D _ s H0 C cl fp _ _ rl5 _ fun v H4 s4 d4 => ⟨vs, s4 D _ hv, ?_, same_upd_new hD (s2.trans s4), vs ++ [v], upd_same, ?_⟩
            · rw [dpa_len dv, List.length_take]
              refine Nat.lt_of_le_of_lt (Nat.min_le_left _ _) (Nat.lt_of_lt_of_le hlt (Nat.le_trans hz ?_))
              rw [sizeLine_eq]
              decide
            · rw [List.take_add_one, ez]
              exact dpa_app (dpam hid_upd (dpam (hid_same s4) dv)) (.cons (dpm hid_upd d4) .nil)
  · have e : i = ls.length := by omega
    subst e
    refine .inl ⟨stop, ?_⟩
    rw [List.take_of_length_le (by omega)] at dv
    exact k D vs H2 (s1.trans s2) (s1.free hD) hv (dpam (hid_more fun b h => ads_omD.mpr (List.mem_cons.mp h)) dv)
end
end FP

namespace FP
open PySem
abbrev zr (f0 : Value) (f : Bool) (TI TO : Addr) : Obj := { cls := .type "zip", dict := none, data := .fields #[f0, .bool f, .bool false, .ref TI, .ref TO], slots := #[] }
def Lent (v : Value) : Prop := v = .none ∨ ∃ T : Addr, v = rawInt T
/-- within a turn: base is the heap at its start -/
structure Zm (S1 S2 : Nat → Heap → Prop) (z TI TO i1 i2 : Addr) (base : Heap) (j1 j2 : Nat) (f0 : Value) (f : Bool) (a b : Value) (h : Heap) : Prop where
  sz : h.objs.size = base.objs.size
  kp : ∀ c o, c ∉ [z, TO, i1, i2] → base.get? c = some o → h.get? c = some o
  rz : h.get? z = some (zr f0 f TI TO)
  ri : IsPair h TI (.ref i1) (.ref i2)
  ro : IsPair h TO a b
  s1 : S1 j1 h
  s2 : S2 j2 h
/-- behind a turn: the new pair stands at the end -/
structure Zf (S1 S2 : Nat → Heap → Prop) (z TI TO i1 i2 : Addr) (base : Heap) (j : Nat) (f0 : Value) (x y : Value) (h : Heap) : Prop where
  sz : h.objs.size = base.objs.size + 1
  kp : ∀ c o, c ∉ [z, TO, i1, i2] → base.get? c = some o → h.get? c = some o
  rz : ∃ f, h.get? z = some (zr f0 f TI TO)
  ri : IsPair h TI (.ref i1) (.ref i2)
  ro : ∃ a b, IsPair h TO a b
  s1 : S1 j h
  s2 : S2 j h
  new : IsPair h base.objs.size x y
section
variable {prog : Program} {w : World} {A : Around} {E : Value → Shared → Prop} {s : Shared} {z TI TO i1 i2 : Addr} {fp1 fp2 : List Addr} {n1 n2 i j1 j2 : Nat} {P1 P2 : Nat → Value → Prop} {S1 S2 : Nat → Heap → Prop} {a b a' b' f0 f0' : Value} {f f' : Bool} {base h h' : Heap}
theorem Zm.setz (m : Zm S1 S2 z TI TO i1 i2 base j1 j2 f0 f a b h) (S : ZipSep2 z TI TO i1 i2 fp1 fp2) (D1 : Draws prog w A i1 fp1 n1 P1 S1) (D2 : Draws prog w A i2 fp2 n2 P2 S2) (sb : Heap.SameBut z h h') (e : h'.get? z = some (zr f0' f' TI TO)) : Zm S1 S2 z TI TO i1 i2 base j1 j2 f0' f' a b h' :=
  ⟨sb.1.trans m.sz, fun c o hc q => (sb.2 c fun y => hc (by simp [y])).trans (m.kp c o hc q), e, (sb.2 _ S.TIz).trans m.ri, (sb.2 _ S.TOz).trans m.ro, D1.over m.s1 sb S.zf1, D2.over m.s2 sb S.zf2⟩
theorem Zm.seto (m : Zm S1 S2 z TI TO i1 i2 base j1 j2 f0 f a b h) (S : ZipSep2 z TI TO i1 i2 fp1 fp2) (D1 : Draws prog w A i1 fp1 n1 P1 S1) (D2 : Draws prog w A i2 fp2 n2 P2 S2) (sb : Heap.SameBut TO h h') (e : IsPair h' TO a' b') : Zm S1 S2 z TI TO i1 i2 base j1 j2 f0 f a' b' h' :=
  ⟨sb.1.trans m.sz, fun c o hc q => (sb.2 c fun y => hc (by simp [y])).trans (m.kp c o hc q), (sb.2 _ S.TOz.symm).trans m.rz, (sb.2 _ S.TITO).trans m.ri, e, D1.over m.s1 sb S.Tf1, D2.over m.s2 sb S.Tf2⟩
theorem Zm.one (m : Zm S1 S2 z TI TO i1 i2 base j1 j2 f0 f a b h) (S : ZipSep2 z TI TO i1 i2 fp1 fp2) (D2 : Draws prog w A i2 fp2 n2 P2 S2) (sb : Heap.SameBut i1 h h') (e : S1 (j1 + 1) h') : Zm S1 S2 z TI TO i1 i2 base (j1 + 1) j2 f0 f a b h' :=
  ⟨sb.1.trans m.sz, fun c o hc q => (sb.2 c fun y => hc (by simp [y])).trans (m.kp c o hc q), (sb.2 _ S.zi1).trans m.rz, (sb.2 _ S.TIi1).trans m.ri, (sb.2 _ S.Ti1).trans m.ro, e, D2.over m.s2 sb S.sep1_2⟩
theorem Zm.two (m : Zm S1 S2 z TI TO i1 i2 base j1 j2 f0 f a b h) (S : ZipSep2 z TI TO i1 i2 fp1 fp2) (D1 : Draws prog w A i1 fp1 n1 P1 S1) (sb : Heap.SameBut i2 h h') (e : S2 (j2 + 1) h') : Zm S1 S2 z TI TO i1 i2 base j1 (j2 + 1) f0 f a b h' :=
  ⟨sb.1.trans m.sz, fun c o hc q => (sb.2 c fun y => hc (by simp [y])).trans (m.kp c o hc q), (sb.2 _ S.zi2).trans m.rz, (sb.2 _ S.TIi2).trans m.ri, (sb.2 _ S.Ti2).trans m.ro, D1.over m.s1 sb S.sep2_1, e⟩
theorem Zm.push {x y : Value} (m : Zm S1 S2 z TI TO i1 i2 base i i f0 f a b h) (D1 : Draws prog w A i1 fp1 n1 P1 S1) (D2 : Draws prog w A i2 fp2 n2 P2 S2) : Zf S1 S2 z TI TO i1 i2 base i f0 x y (h.push { cls := .type "tuple", data := .seq #[x, y] }) :=
  have up : ∀ c o, h.get? c = some o → (h.push { cls := .type "tuple", data := .seq #[x, y] }).get? c = some o := fun c o q => Heap.get?_push_of_some _ q
  ⟨by rw [Heap.size_push, m.sz], fun c o hc q => up c o (m.kp c o hc q), ⟨f, up _ _ m.rz⟩, up _ _ m.ri, ⟨a, b, up _ _ m.ro⟩, D1.frame _ _ _ m.s1 fun c _ o q => up c o q, D2.frame _ _ _ m.s2 fun c _ o q => up c o q, by rw [← m.sz]; exact Heap.get?_push_size _ rfl⟩
theorem Zf.setz {x y : Value} (m : Zf S1 S2 z TI TO i1 i2 base i f0 x y h) (S : ZipSep2 z TI TO i1 i2 fp1 fp2) (D1 : Draws prog w A i1 fp1 n1 P1 S1) (D2 : Draws prog w A i2 fp2 n2 P2 S2) (hl : z < base.objs.size) (sb : Heap.SameBut z h h') (e : h'.get? z = some (zr f0' f' TI TO)) : Zf S1 S2 z TI TO i1 i2 base i f0' x y h' :=
  ⟨sb.1.trans m.sz, fun c o hc q => (sb.2 c fun y => hc (by simp [y])).trans (m.kp c o hc q), ⟨f', e⟩, (sb.2 _ S.TIz).trans m.ri, m.ro.imp fun _ q => q.imp fun _ q => (sb.2 _ S.TOz).trans q, D1.over m.s1 sb S.zf1, D2.over m.s2 sb S.zf2, (sb.2 _ (Nat.ne_of_gt hl)).trans m.new⟩
theorem seen_obj {c : Addr} {Q : Option Obj → Shared → Prop} (q : Q (s.heap.get? c) s) : wpAny (model prog w) A (loadIfAlive c) Q E s := fun _ _ _ => q
/-- is the last pair still out? Either answer, and only a mark may change -/
theorem zr_free {Q : Bool → Shared → Prop} (hz : s.heap.get? z = some (zr f0 f TI TO)) (h0 : Lent f0) (k : ∀ t h' f', h'.get? z = some (zr f0 f' TI TO) → Heap.SameBut z s.heap h' → Q t { s with heap := h' }) : wpAny (model prog w) A (Builtin.SmallTypes.ownedTupleIsFree (.ref z)) Q E s := by
  have same := fun t => k t s.heap f hz (.refl _ _)
  rcases h0 with rfl | ⟨T, rfl⟩
  all_goals unfold Builtin.SmallTypes.ownedTupleIsFree
  · exact wpAny_bind (wpAny_field hz rfl rfl (wpAny_pure (same true)))
  · refine wpAny_bind (wpAny_field hz rfl rfl (wpAny_bind (seen_obj ?_)))
    cases s.heap.get? (T : Int).toNat with
    | none => exact wpAny_pure (same true)
    | some o =>
      refine wpAny_bind (wpAny_field hz rfl rfl ?_)
      cases f with
      | true => exact wpAny_pure (same false)
      | false => exact wpAny_bind (wpAny_setField_rec hz (by simp) fun h1 z1 sb => wpAny_pure (k false h1 true z1 sb))
/-- one turn that tells a pair -/
theorem zr_core {Q : Value → Shared → Prop} (S : ZipSep2 z TI TO i1 i2 fp1 fp2) (D1 : Draws prog w A i1 fp1 n1 P1 S1) (D2 : Draws prog w A i2 fp2 n2 P2 S2) (m : Zm S1 S2 z TI TO i1 i2 s.heap i i f0 f a b s.heap) (h0 : Lent f0) (l1 : i < n1) (l2 : i < n2)
    (k : ∀ x1 x2 h' tk g0, P1 i x1 → P2 i x2 → Lent g0 → Zf S1 S2 z TI TO i1 i2 s.heap (i + 1) g0 x1 x2 h' → Q (.ref s.heap.objs.size) { s with heap := h', toks := tk }) :
    wpAny (model prog w) A (Builtin.«zip.__next__» ⟨[.ref z], []⟩) (fun fin s' => ∃ v, fin = .done (.ret v) ∧ Q v s') E s := by
  obtain ⟨hp, g, d, tk0, os⟩ := s
  have zl := Heap.lt_size m.rz
  refine wpAny_bind (wpAny_of_eq (a := (.ref z, [])) rfl (wpAny_bind (wpAny_field m.rz rfl rfl (wpAny_bind (wpAny_field m.rz rfl rfl (wpAny_bind (wpAny_seqItems m.ri rfl (wpAny_bind (zr_free m.rz h0 fun t h1 f1 q1 b1 => ?_)))))))))
  have m1 := m.setz S D1 D2 b1 q1
  clear b1 q1 m
  cases t with
  | true =>
    refine wpAny_bind (wpAny_rule (wpAny_bind (wpAny_field m1.rz rfl rfl (wpAny_bind (wpAny_setField_rec m1.rz (by simp) fun h2 q2 b2 => wpAny_bind ?_)))))
    have m2 := m1.setz S D1 D2 b2 (f0' := .ellipsis) (f' := f1) q2
    simp only [List.zipIdx_cons, List.zipIdx_nil, List.forIn_cons, List.forIn_nil]
    refine wpAny_bind (wpAny_bind (wpAny_onRaise (wpAny_bind (D1.item i _ _ _ l1 m2.s1 fun x1 h3 t3 p1 e3 b3 => wpAny_pure ?_))))
    have m3 := m2.one S D2 b3 e3
    refine wpAny_bind (wpAny_seqItems m3.ro rfl (wpAny_bind (wpAny_updateSeq_pair m3.ro fun h4 q4 b4 => wpAny_bind (wpAny_letGo (wpAny_pure ?_)))))
    have m4 := m3.seto S D1 D2 b4 (a' := x1) (b' := b) q4
    refine wpAny_bind (wpAny_bind (wpAny_onRaise (wpAny_bind (D2.item i _ _ _ l2 m4.s2 fun x2 h5 t5 p2 e5 b5 => wpAny_pure ?_))))
    have m5 := m4.two S D1 b5 e5
    refine wpAny_bind (wpAny_seqItems m5.ro rfl (wpAny_bind (wpAny_updateSeq_pair m5.ro fun h6 q6 b6 => wpAny_bind (wpAny_letGo (wpAny_pure (wpAny_pure ?_))))))
    have m6 := m5.seto S D1 D2 b6 (a' := x1) (b' := x2) q6
    refine wpAny_bind (wpAny_seqItems m6.ro rfl (wpAny_bind (wpAny_newTuple (wpAny_bind ?_) (hsz := by show 2 ≤ sizeLine; decide))))
    have m7 : Zf S1 S2 z TI TO i1 i2 hp (i + 1) .ellipsis x1 x2 _ := m6.push (x := x1) (y := x2) D1 D2
    obtain ⟨f7, z7⟩ := m7.rz
    refine wpAny_bind (wpAny_setField_rec z7 (by simp) fun h8 q8 b8 => wpAny_setField_rec q8 (by simp) fun h9 q9 b9 => wpAny_pure ⟨_, rfl, ?_⟩)
    have m8 := m7.setz S D1 D2 zl b8 (f0' := rawInt h6.objs.size) (f' := f7) q8
    have m9 := m8.setz S D1 D2 zl b9 (f0' := rawInt h6.objs.size) (f' := false) q9
    have e := k x1 x2 h9 t5 _ p1 p2 (.inr ⟨_, rfl⟩) m9
    rw [← m6.sz] at e
    exact e
  | false =>
    refine wpAny_bind ?_
    rw [← Array.forIn_toList]
    simp only [List.forIn_cons, List.forIn_nil]
    refine wpAny_bind (wpAny_bind (wpAny_holding (wpAny_bind (D1.item i _ _ _ l1 m1.s1 fun x1 h3 t3 p1 e3 b3 => wpAny_pure (wpAny_pure ?_)))))
    have m3 := m1.one S D2 b3 e3
    refine wpAny_bind (wpAny_bind (wpAny_holding (wpAny_bind (D2.item i _ _ _ l2 m3.s2 fun x2 h5 t5 p2 e5 b5 => wpAny_pure (wpAny_pure (wpAny_pure ?_))))))
    have m5 := m3.two S D1 b5 e5
    refine wpAny_bind (wpAny_newTuple (wpAny_pure ⟨_, rfl, ?_⟩) (hsz := by show 2 ≤ sizeLine; decide))
    have e := k x1 x2 _ t5 _ p1 p2 h0 (m5.push (x := x1) (y := x2) D1 D2)
    rw [← m5.sz] at e
    exact e
/-- one turn that tells a pair -/
theorem zr_item {Q : Value → Shared → Prop} (S : ZipSep2 z TI TO i1 i2 fp1 fp2) (D1 : Draws prog w A.in1 i1 fp1 n1 P1 S1) (D2 : Draws prog w A.in1 i2 fp2 n2 P2 S2) (m : Zm S1 S2 z TI TO i1 i2 s.heap i i f0 f a b s.heap) (h0 : Lent f0) (l1 : i < n1) (l2 : i < n2)
    (k : ∀ x1 x2 h' tk g0, P1 i x1 → P2 i x2 → Lent g0 → Zf S1 S2 z TI TO i1 i2 s.heap (i + 1) g0 x1 x2 h' → Q (.ref s.heap.objs.size) { s with heap := h', toks := tk }) :
    wpAny (model prog w) A (Builtin.SmallTypes.nextOf (.ref z)) Q E s := by
  have ty : s.TypeIs (.ref z) "zip" := ⟨_, m.rz, rfl⟩
  unfold Builtin.SmallTypes.nextOf
  exact wpAny_bind (wpAny_callSpecial?_slot ty F.slot_zip_next (wpAny_call_entry F.slot_zip_next ty F.entry_zip_next (zr_core S D1 D2 m h0 l1 l2 fun x1 x2 h' tk g0 q1 q2 lg zf => wpAny_pure (k x1 x2 h' tk g0 q1 q2 lg zf)) (F.args_zip_next_1 _)))
theorem zr_next {Q : Option Value → Shared → Prop} (S : ZipSep2 z TI TO i1 i2 fp1 fp2) (D1 : Draws prog w A.in1 i1 fp1 n1 P1 S1) (D2 : Draws prog w A.in1 i2 fp2 n2 P2 S2) (m : Zm S1 S2 z TI TO i1 i2 s.heap i i f0 f a b s.heap) (h0 : Lent f0) (l1 : i < n1) (l2 : i < n2)
    (k : ∀ x1 x2 h' tk g0, P1 i x1 → P2 i x2 → Lent g0 → Zf S1 S2 z TI TO i1 i2 s.heap (i + 1) g0 x1 x2 h' → Q (some (.ref s.heap.objs.size)) { s with heap := h', toks := tk }) :
    wpAny (model prog w) A (pyNext (.ref z)) Q E s := by
  have ty : s.TypeIs (.ref z) "zip" := ⟨_, m.rz, rfl⟩
  unfold pyNext
  exact wpAny_bind (wpAny_attempt (wpAny_callSpecial?_slot ty F.slot_zip_next (wpAny_call_entry F.slot_zip_next ty F.entry_zip_next (zr_core S D1 D2 m h0 l1 l2 fun x1 x2 h' tk g0 q1 q2 lg zf => wpAny_pure (k x1 x2 h' tk g0 q1 q2 lg zf)) (F.args_zip_next_1 _))))
/-- the first row is at its end -/
theorem zr_over {Q : PySem.Fin → Shared → Prop} (S : ZipSep2 z TI TO i1 i2 fp1 fp2) (D1 : Draws prog w A i1 fp1 n1 P1 S1) (D2 : Draws prog w A i2 fp2 n2 P2 S2) (m : Zm S1 S2 z TI TO i1 i2 s.heap n1 i f0 f a b s.heap) (h0 : Lent f0)
    (k : ∀ h' e, (∀ c o, c ∉ [z, TO, i1, i2] → s.heap.get? c = some o → h'.get? c = some o) → (∃ o, h'.get? e = some o ∧ o.cls = .type "StopIteration") → E (.ref e) { s with heap := h' }) :
    wpAny (model prog w) A (Builtin.«zip.__next__» ⟨[.ref z], []⟩) Q E s := by
  obtain ⟨hp, g, d, tk0, os⟩ := s
  refine wpAny_bind (wpAny_of_eq (a := (.ref z, [])) rfl (wpAny_bind (wpAny_field m.rz rfl rfl (wpAny_bind (wpAny_field m.rz rfl rfl (wpAny_bind (wpAny_seqItems m.ri rfl (wpAny_bind (zr_free m.rz h0 fun t h1 f1 q1 b1 => ?_)))))))))
  have m1 := m.setz S D1 D2 b1 q1
  clear b1 q1 m
  cases t with
  | true =>
    refine wpAny_bind (wpAny_rule (wpAny_bind (wpAny_field m1.rz rfl rfl (wpAny_bind (wpAny_setField_rec m1.rz (by simp) fun h2 q2 b2 => wpAny_bind ?_)))))
    have m2 := m1.setz S D1 D2 b2 (f0' := .ellipsis) (f' := f1) q2
    simp only [List.zipIdx_cons, List.zipIdx_nil, List.forIn_cons, List.forIn_nil]
    refine wpAny_bind (wpAny_bind (wpAny_onRaise (wpAny_bind (D1.done _ _ _ m2.s1 fun h3 e b3 ⟨oe, he, ce⟩ => ?_))))
    have hz : h3.get? z = some _ := b3 _ _ S.zi1 m2.rz
    have ne : e ≠ z := fun q => by
      rw [q, hz] at he
      cases he
      simp at ce
    exact wpAny_setField_rec hz (by simp) fun h4 _ b4 => k h4 e (fun c o hc q => (b4.2 c fun y => hc (by simp [y])).trans (b3 c o (fun y => hc (by simp [y])) (m2.kp c o hc q))) ⟨oe, (b4.2 _ ne).trans he, ce⟩
  | false =>
    refine wpAny_bind ?_
    rw [← Array.forIn_toList]
    simp only [List.forIn_cons, List.forIn_nil]
    exact wpAny_bind (wpAny_bind (wpAny_holding (wpAny_bind (D1.done _ _ _ m1.s1 fun h3 e b3 he => k h3 e (fun c o hc q => b3 c o (fun y => hc (by simp [y])) (m1.kp c o hc q)) he))))
/-- the first row is at its end -/
theorem zr_end {Q : Value → Shared → Prop} (S : ZipSep2 z TI TO i1 i2 fp1 fp2) (D1 : Draws prog w A.in1 i1 fp1 n1 P1 S1) (D2 : Draws prog w A.in1 i2 fp2 n2 P2 S2) (m : Zm S1 S2 z TI TO i1 i2 s.heap n1 i f0 f a b s.heap) (h0 : Lent f0)
    (k : ∀ h' e, (∀ c o, c ∉ [z, TO, i1, i2] → s.heap.get? c = some o → h'.get? c = some o) → (∃ o, h'.get? e = some o ∧ o.cls = .type "StopIteration") → E (.ref e) { s with heap := h' }) :
    wpAny (model prog w) A (Builtin.SmallTypes.nextOf (.ref z)) Q E s := by
  have ty : s.TypeIs (.ref z) "zip" := ⟨_, m.rz, rfl⟩
  unfold Builtin.SmallTypes.nextOf
  exact wpAny_bind (wpAny_callSpecial?_slot ty F.slot_zip_next (wpAny_call_entry F.slot_zip_next ty F.entry_zip_next (zr_over S D1 D2 m h0 k) (F.args_zip_next_1 _)))
theorem zr_stop {Q : Option Value → Shared → Prop} (S : ZipSep2 z TI TO i1 i2 fp1 fp2) (D1 : Draws prog w A.in1 i1 fp1 n1 P1 S1) (D2 : Draws prog w A.in1 i2 fp2 n2 P2 S2) (m : Zm S1 S2 z TI TO i1 i2 s.heap n1 i f0 f a b s.heap) (h0 : Lent f0)
    (k : ∀ h', (∀ c o, c ∉ [z, TO, i1, i2] → s.heap.get? c = some o → h'.get? c = some o) → Q none { s with heap := h' }) :
    wpAny (model prog w) A (pyNext (.ref z)) Q E s := by
  have ty : s.TypeIs (.ref z) "zip" := ⟨_, m.rz, rfl⟩
  unfold pyNext
  exact wpAny_bind (wpAny_attempt (wpAny_callSpecial?_slot ty F.slot_zip_next (wpAny_call_entry F.slot_zip_next ty F.entry_zip_next (zr_over S D1 D2 m h0 fun h' x r ⟨o, ho, hc⟩ => wpAny_bind (wpAny_isInstance (T := "StopIteration") (b := true) ⟨o, ho, hc⟩ isSubtype_stop (wpAny_pure (k h' r)))) (F.args_zip_next_1 _))))
/-- e's record, and nothing but e was touched since base -/
structure Em (base : Heap) (e : Addr) (r : Obj) (h : Heap) : Prop where
  sz : h.objs.size = base.objs.size
  kp : ∀ c o, c ≠ e → base.get? c = some o → h.get? c = some o
  re : h.get? e = some r
theorem Em.set {e : Addr} {r r' : Obj} (m : Em base e r h) (sb : Heap.SameBut e h h') (q : h'.get? e = some r') : Em base e r' h' :=
  ⟨sb.1.trans m.sz, fun c o hc q => (sb.2 c hc).trans (m.kp c o hc q), q⟩
abbrev er (f0 : Value) (it : Addr) (i : Int) (old : Value) : Obj := { cls := .type "enumerate", dict := none, data := .fields #[f0, .bool false, .ref it, rawInt i, .none, old], slots := #[] }
theorem en_item {e it : Addr} {n : Int} {old : Value} {Q : Option Value → Shared → Prop} (R : Value → Heap → Tok → Prop) (he : IsEnum s.heap e it n old)
    (inner : ∀ (Q' : Value → Shared → Prop) (E' : Value → Shared → Prop), (∀ x h1 tk, R x h1 tk → Q' x { s with heap := h1, toks := tk }) → wpAny (model prog w) A.in1 (Builtin.SmallTypes.nextOf (.ref it)) Q' E' s)
    (hR : ∀ x h1 tk, R x h1 tk → IsEnum h1 e it n old)
    (k : ∀ x h1 tk h', R x h1 tk → IsEnumOut h' e it (n + 1) x h1.objs.size → IsPair h' h1.objs.size (.int n tk) x → h'.objs.size = h1.objs.size + 1 → (∀ c o, c ≠ e → h1.get? c = some o → h'.get? c = some o) → Q (some (.ref h1.objs.size)) { s with heap := h', toks := tk + 1 }) :
    wpAny (model prog w) A (pyNext (.ref e)) Q E s := by
  obtain ⟨hp, g, d, tk0, os⟩ := s
  have ty : (Shared.mk hp g d tk0 os).TypeIs (.ref e) "enumerate" := ⟨_, he, rfl⟩
  unfold pyNext
  refine wpAny_bind (wpAny_attempt (wpAny_callSpecial?_slot ty F.slot_enumerate_next (wpAny_call_entry F.slot_enumerate_next ty F.entry_enumerate_next ?_ (F.args_enumerate_next_1 _))))
  refine wpAny_bind (wpAny_of_eq (a := (.ref e, [])) rfl (wpAny_bind (wpAny_field he rfl rfl (wpAny_bind (inner _ _ fun x h1 tk r => ?_)))))
  have m1 : Em h1 e (er .none it n old) h1 := ⟨rfl, fun _ _ _ q => q, hR x h1 tk r⟩
  refine wpAny_bind (wpAny_field m1.re rfl rfl (wpAny_bind (wpAny_field m1.re rfl rfl ?_)))
  refine wpAny_bind (wpAny_mkInt (wpAny_bind (wpAny_setField_rec m1.re (by simp) fun h2 q2 b2 => ?_)))
  have m2 := m1.set (r' := er .none it (n + 1) old) b2 q2
  refine wpAny_bind (wpAny_setField_rec m2.re (by simp) fun h3 q3 b3 => wpAny_bind (wpAny_newTuple (wpAny_bind ?_)))
  have m3 := m2.set (r' := er .none it (n + 1) old) b3 q3
  have z3 : (h3.push { cls := .type "tuple", data := .seq #[.int n tk, x] }).get? e = some (er .none it (n + 1) old) := Heap.get?_push_of_some _ m3.re
  have el : h3.objs.size ≠ e := Nat.ne_of_gt (Heap.lt_size m3.re)
  unfold Builtin.SmallTypes.ownedTupleIsFree
  refine wpAny_bind (wpAny_field z3 rfl rfl (wpAny_pure (wpAny_bind (wpAny_rule (wpAny_bind (wpAny_field z3 rfl rfl (wpAny_bind (wpAny_setField_rec z3 (by simp) fun h4 q4 b4 => wpAny_bind (wpAny_bind (wpAny_setField_rec q4 (by simp) fun h5 q5 b5 => wpAny_setField_rec q5 (by simp) fun h6 q6 b6 => wpAny_bind (wpAny_letGo (wpAny_pure ⟨_, rfl, wpAny_pure ?_⟩))))))))))))
  have up : ∀ c, c ≠ e → h6.get? c = (h3.push { cls := .type "tuple", data := .seq #[.int n tk, x] }).get? c := fun c hc => (b6.2 c hc).trans ((b5.2 c hc).trans (b4.2 c hc))
  have r6 := k x h1 tk h6 r
  rw [← m3.sz] at r6
  exact r6 q6 ((up _ el).trans (Heap.get?_push_size _ rfl)) (by rw [b6.1, b5.1, b4.1]; exact Heap.size_push ..) fun c o hc q => (up c hc).trans (Heap.get?_push_of_some _ (m3.kp c o hc q))
theorem en_end {e it : Addr} {n : Int} {old : Value} {Q : Option Value → Shared → Prop} (R : Heap → Prop) (he : IsEnum s.heap e it n old)
    (inner : ∀ (Q' : Value → Shared → Prop) (E' : Value → Shared → Prop), (∀ h' x, R h' → (∃ o, h'.get? x = some o ∧ o.cls = .type "StopIteration") → E' (.ref x) { s with heap := h' }) → wpAny (model prog w) A.in1 (Builtin.SmallTypes.nextOf (.ref it)) Q' E' s)
    (k : ∀ h', R h' → Q none { s with heap := h' }) : wpAny (model prog w) A (pyNext (.ref e)) Q E s := by
  have ty : s.TypeIs (.ref e) "enumerate" := ⟨_, he, rfl⟩
  unfold pyNext
  refine wpAny_bind (wpAny_attempt (wpAny_callSpecial?_slot ty F.slot_enumerate_next (wpAny_call_entry F.slot_enumerate_next ty F.entry_enumerate_next ?_ (F.args_enumerate_next_1 _))))
  exact wpAny_bind (wpAny_of_eq (a := (.ref e, [])) rfl (wpAny_bind (wpAny_field he rfl rfl (wpAny_bind (inner _ _ fun h' x r ⟨o, ho, hc⟩ => wpAny_bind (wpAny_isInstance (T := "StopIteration") (b := true) ⟨o, ho, hc⟩ isSubtype_stop (wpAny_pure (k h' r))))))))
end
/-- enumerate of a zip begins: the zip is its own iterator -/
theorem en_new (z TI TO : Addr) : Meets (Builtin.«enumerate.__new__» ⟨[.type "enumerate", .ref z], []⟩) fun _ R s => IsZip s.heap z TI TO .none ∧ R (.ok (.ret (.ref s.heap.objs.size))) { s with heap := s.heap.push (er .none z 0 .none) } :=
  .of_wp fun prog w A R s h => by
    obtain ⟨hp, g, d, tk, os⟩ := s
    obtain ⟨hz, hr⟩ := h
    have e0 := sub_enumerate
    have own : ∀ {A' : Around} {E : Value → Shared → Prop} {Q : Value → Shared → Prop}, Q (.ref z) ⟨hp, g, d, tk, os⟩ → wpAny (model prog w) A' (pyIter (.ref z)) Q E ⟨hp, g, d, tk, os⟩ := fun q => wpAny_pyIter_zip (s := ⟨hp, g, d, tk, os⟩) hz q
    wp_walk using own
    refine wpAny_stack_any fun st => wpAny_pure ?_
    split
    · rename_i c _ _ _ _ _
      cases (c == Value.type "enumerate") <;> (wp_walk using own; exact ⟨_, rfl, hr⟩)
    · wp_walk using own
      exact ⟨_, rfl, hr⟩
section
variable {prog : Program} {w : World} {A : Around} {E : Value → Shared → Prop} {s : Shared}
theorem en_call {z TI TO : Addr} {Q : Value → Shared → Prop} (hz : IsZip s.heap z TI TO .none) (k : ∀ h', IsEnum h' s.heap.objs.size z 0 .none → h'.objs.size = s.heap.objs.size + 1 → (∀ c o, s.heap.get? c = some o → h'.get? c = some o) → Q (.ref s.heap.objs.size) { s with heap := h' }) :
    wpAny (model prog w) A (call (.type "enumerate") [.ref z]) Q E s := by
  have new : IsEnum (s.heap.push (er .none z 0 .none)) s.heap.objs.size z 0 .none := Heap.get?_push_size _ rfl
  exact callType_new F.called_enumerate (by decide) (F.typeCall_enumerate_1 _) (F.newCall_enumerate_1 _) (fun obj => F.args_object_init_2 obj _) F.entry_enumerate_new (en_new z TI TO) ⟨hz, ⟨_, new, rfl⟩, k _ new (Heap.size_push ..) fun c o q => Heap.get?_push_of_some _ q⟩
end
end FP

namespace FP
open PySem PySem.Spec PyProof.Rows L2 HotX L2H
def ItEZ (K : PySem.W.Frag) (a b : Addr) : It :=
  ⟨fun i H => ∃ xs ys : List V, SqT K H a xs ∧ SqT K H b ys ∧ i < xs.length ∧ i < ys.length,
    fun i H v H' => ∃ T T' x y, v = .ref T' ∧ H T = none ∧ (upd H T (.tup [x, y])) T' = none ∧ H' = upd (upd H T (.tup [x, y])) T' (.tup [.int (i : Nat), .ref T]) ∧ (∀ xs, SqT K H a xs → xs[i]? = some x) ∧ ∀ ys, SqT K H b ys → ys[i]? = some y,
    fun i H => ∃ xs ys : List V, SqT K H a xs ∧ SqT K H b ys ∧ xs.length = i⟩
structure EzSt (e z TI TO i1 i2 a b : Addr) (i : Nat) (h : Heap) : Prop where
  en : ∃ old, IsEnum h e z (i : Int) old
  zp : ∃ f0 f, Lent f0 ∧ h.get? z = some (zr f0 f TI TO)
  ti : IsPair h TI (.ref i1) (.ref i2)
  to : ∃ x y, IsPair h TO x y
  w1 : h.IsTupleIter i1 a i
  w2 : h.IsTupleIter i2 b i
section
variable {P : Program} {w : World} {K : PySem.W.Frag} {elts : List Expr} {kk : Nat} {tpos : Pos} {e z TI TO i1 i2 a b : Addr}
theorem EzSt.obj {i : Nat} {h : Heap} (st : EzSt e z TI TO i1 i2 a b i h) {c : Addr} (hc : c ∈ [e, z, TI, TO, i1, i2]) : ∃ o, h.get? c = some o ∧ ∀ v, o.data ≠ .cell v := by
  obtain ⟨⟨old, g1⟩, ⟨f0, f, _, g2⟩, g3, ⟨x, y, g4⟩, ⟨o1, g5, _, d1⟩, ⟨o2, g6, _, d2⟩⟩ := st
  simp only [List.mem_cons, List.not_mem_nil, or_false] at hc
  rcases hc with rfl | rfl | rfl | rfl | rfl | rfl
  · exact ⟨_, g1, nofun⟩
  · exact ⟨_, g2, nofun⟩
  · exact ⟨_, g3, nofun⟩
  · exact ⟨_, g4, nofun⟩
  · exact ⟨o1, g5, fun v q => by rw [d1] at q; cases q⟩
  · exact ⟨o2, g6, fun v q => by rw [d2] at q; cases q⟩
theorem EzSt.keep {i : Nat} {h h' : Heap} (st : EzSt e z TI TO i1 i2 a b i h) (k : ∀ c ∈ [e, z, TI, TO, i1, i2], ∀ o, h.get? c = some o → h'.get? c = some o) : EzSt e z TI TO i1 i2 a b i h' :=
  ⟨st.en.imp fun _ q => k e (by simp) _ q, st.zp.imp fun _ q => q.imp fun _ q => ⟨q.1, k z (by simp) _ q.2⟩, k TI (by simp) _ st.ti, st.to.imp fun _ q => q.imp fun _ q => k TO (by simp) _ q, st.w1.at fun o q => k i1 (by simp) o q, st.w2.at fun o q => k i2 (by simp) o q⟩
theorem turn_ez (S : ZipSep2 z TI TO i1 i2 [i1, a] [i2, b]) (ha : a ≠ i1) (hb : b ≠ i2) (hlt : ∀ c ∈ [z, TI, TO, i1, i2, a, b], c < e) :
    Turn P w K (.Tuple elts kk tpos) (ItEZ K a b) [e, z, TI, TO, i1, i2] e (EzSt e z TI TO i1 i2 a b) where
  mem := by simp
  obj := fun i h st c hc => st.obj hc
  keep := fun i h h' st k => st.keep k
  item := by
    intro X hP hw hK hc i pins s σ H E I hf st hg
    subst hP hw hK
    obtain ⟨xs, ys, hqx, hqy, lx, ly⟩ := hg
    obtain ⟨its, rv, p, _⟩ := I.tuple hqx
    obtain ⟨its2, rv2, p2, _⟩ := I.tuple hqy
    obtain ⟨x, hx⟩ : ∃ x, xs[i]? = some x := ⟨_, List.getElem?_eq_getElem lx⟩
    obtain ⟨y, hy⟩ : ∃ y, ys[i]? = some y := ⟨_, List.getElem?_eq_getElem ly⟩
    obtain ⟨u, hu, ru⟩ := rv.get hx
    obtain ⟨u2, hu2, ru2⟩ := rv2.get hy
    have D1 := Draws.tuple (prog := X.prog) (w := X.w) (A := X.A.in1.in1) (I.ok.hd hc) i1 a ha its.toArray
    have D2 := Draws.tuple (prog := X.prog) (w := X.w) (A := X.A.in1.in1) (I.ok.hd hc) i2 b hb its2.toArray
    obtain ⟨old, he⟩ := st.en
    obtain ⟨f0, f, l0, hz⟩ := st.zp
    obtain ⟨x0, y0, ho⟩ := st.to
    have ne : e ∉ [z, TO, i1, i2] := fun q => by
      have := hlt e (by simp only [List.mem_cons, List.not_mem_nil, or_false] at q ⊢; rcases q with q | q | q | q <;> simp [q])
      exact Nat.lt_irrefl _ this
    have sizes : i < its.toArray.size ∧ i < its2.toArray.size := ⟨by simpa using (List.getElem?_eq_some_iff.mp hu).1, by simpa using (List.getElem?_eq_some_iff.mp hu2).1⟩
    refine en_item (fun v h1 tk => ∃ x1 x2 g0, v = .ref s.heap.objs.size ∧ its.toArray[i]? = some x1 ∧ its2.toArray[i]? = some x2 ∧ Lent g0 ∧ Zf _ _ z TI TO i1 i2 s.heap (i + 1) g0 x1 x2 h1) he
      (fun Q' E' q => zr_item S D1 D2 ⟨rfl, fun _ _ _ q => q, hz, st.ti, ho, ⟨st.w1, p⟩, ⟨st.w2, p2⟩⟩ l0 sizes.1 sizes.2 fun x1 x2 h' tk g0 q1 q2 lg zf => q _ h' tk ⟨x1, x2, g0, rfl, q1, q2, lg, zf⟩)
      (fun v h1 tk ⟨_, _, _, _, _, _, _, zf⟩ => zf.kp _ _ ne he) ?_
    rintro v h1 tk h' ⟨x1, x2, g0, rfl, q1, q2, lg, zf⟩ heo hpr hsz hkp
    obtain rfl : x1 = u := by simpa [hu] using q1.symm
    obtain rfl : x2 = u2 := by simpa [hu2] using q2.symm
    refine ⟨_, rfl, wpAny_letOwnedTupleGo_enum (s := { s with heap := h', toks := tk + 1 }) heo fun h2 he2 sb => ?_⟩
    have old1 : ∀ c ∈ [e, z, TI, TO, i1, i2], c < s.heap.objs.size := fun c hc => let ⟨_, q, _⟩ := st.obj hc; Heap.lt_size q
    have up : ∀ c o, c ≠ e → h1.get? c = some o → h2.get? c = some o := fun c o hc q => (sb.2 c hc).trans (hkp c o hc q)
    have el : e < s.heap.objs.size := old1 e (by simp)
    have I1 : Inv X pins σ (upd H s.heap.objs.size (.tup [x, y])) { s with heap := h1, toks := tk } :=
      I.turnedNew (ch := [e, z, TI, TO, i1, i2]) (fun c o hc q => zf.kp c o (fun r => hc (by simp only [List.mem_cons, List.not_mem_nil, or_false] at r ⊢; rcases r with r | r | r | r <;> simp [r])) q) hf (Nat.le_refl _) ⟨by show 2 ≤ sizeLine; decide, [x1, x2], .cons ru (.cons ru2 .nil), ⟨_, zf.new, rfl, _, rfl⟩⟩
    have hN : h1.objs.size ≠ e := by rw [zf.sz]; exact Nat.ne_of_gt (Nat.lt_succ_of_lt el)
    have I2 : Inv X pins σ (upd (upd H s.heap.objs.size (.tup [x, y])) h1.objs.size (.tup [.int (i : Nat), .ref s.heap.objs.size])) { s with heap := h2, toks := tk + 1 } :=
      I1.turnedNew (ch := [e]) (fun c o hc q => up c o (by simpa using hc) q) (fun c hc => by
        obtain rfl : c = e := by simpa using hc
        obtain ⟨r0, r⟩ := hf c (by simp)
        exact ⟨by rw [upd_ne (Nat.ne_of_lt el)]; exact r0, r⟩) (Nat.le_refl _) ⟨by show 2 ≤ sizeLine; decide, [.int i tk, .ref s.heap.objs.size], .cons ⟨_, rfl⟩ (.cons rfl .nil), ⟨_, (sb.2 _ hN).trans hpr, rfl, _, rfl⟩⟩
    refine ⟨.ref h1.objs.size, _, I2, rfl, ⟨_, _, x, y, rfl, I.hok.fresh (Nat.le_refl _), I1.hok.fresh (Nat.le_refl _), rfl, fun l hl => by rw [I.tuple_inj hl hqx]; exact hx, fun l hl => by rw [I.tuple_inj hl hqy]; exact hy⟩, ?_, fun c hcm => ?_⟩
    · have off : ∀ c ∈ [z, TI, TO, i1, i2], c ≠ e := fun c hc q => by
        have := hlt c (by simp only [List.mem_cons, List.not_mem_nil, or_false] at hc ⊢; rcases hc with r | r | r | r | r <;> simp [r])
        exact Nat.ne_of_lt this q
      obtain ⟨fz, ez⟩ := zf.rz
      obtain ⟨a3, b3, eo⟩ := zf.ro
      refine ⟨⟨_, by have e1 : ((i + 1 : Nat) : Int) = (i : Int) + 1 := by omega
                     rw [e1]; exact he2⟩, ⟨g0, fz, lg, up _ _ (off z (by simp)) ez⟩, up _ _ (off TI (by simp)) zf.ri, ⟨a3, b3, up _ _ (off TO (by simp)) eo⟩, zf.s1.1.at fun o q => up _ o (off i1 (by simp)) q, zf.s2.1.at fun o q => up _ o (off i2 (by simp)) q⟩
    · have := old1 c hcm
      rw [upd_ne (by rw [zf.sz]; exact Nat.ne_of_lt (Nat.lt_succ_of_lt this)), upd_ne (Nat.ne_of_lt this)]
      exact (hf c hcm).1
  done := by
    intro X hP hw hK hc i pins s σ H E I hf st hg
    subst hP hw hK
    obtain ⟨xs, ys, hqx, hqy, lx⟩ := hg
    obtain ⟨its, rv, p, _⟩ := I.tuple hqx
    obtain ⟨its2, rv2, p2, _⟩ := I.tuple hqy
    have D1 := Draws.tuple (prog := X.prog) (w := X.w) (A := X.A.in1.in1) (I.ok.hd hc) i1 a ha its.toArray
    have D2 := Draws.tuple (prog := X.prog) (w := X.w) (A := X.A.in1.in1) (I.ok.hd hc) i2 b hb its2.toArray
    obtain ⟨old, he⟩ := st.en
    obtain ⟨f0, f, l0, hz⟩ := st.zp
    obtain ⟨x0, y0, ho⟩ := st.to
    have sz : i = its.toArray.size := by rw [List.size_toArray, ← rv.length, lx]
    have w1 := st.w1
    rw [sz] at w1
    exact en_end (fun h' => ∀ c o, c ∉ [z, TO, i1, i2] → s.heap.get? c = some o → h'.get? c = some o) he (fun Q' E' q => zr_end S D1 D2 ⟨rfl, fun _ _ _ q => q, hz, st.ti, ho, ⟨w1, p⟩, ⟨st.w2, p2⟩⟩ l0 q) fun h' r => ⟨rfl, I.turnedL (t' := s.toks) (ch := [e, z, TI, TO, i1, i2]) (fun c o hc q => r c o (fun r => hc (by simp only [List.mem_cons, List.not_mem_nil, or_false] at r ⊢; rcases r with r | r | r | r <;> simp [r])) q) hf⟩
  self := fun A i s Q E st h => let ⟨_, he⟩ := st.en; wpAny_pyIter_enum he h
end
theorem six_lt {N a b : Nat} (ha : a < N) (hb : b < N) : ∀ c ∈ [N + 4, N + 2, N + 3, N, N + 1, a, b], c < N + 5 := fun c hc => by
  simp only [List.mem_cons, List.not_mem_nil, or_false] at hc
  omega
theorem six_le {N : Nat} : ∀ c ∈ [N + 5, N + 4, N + 2, N + 3, N, N + 1], N ≤ c := fun c hc => by
  simp only [List.mem_cons, List.not_mem_nil, or_false] at hc
  omega
def iEZ (K : PySem.W.Frag) (ta : TA) : TI := fun σ H R => ta σ H fun vs H1 => ∃ a b xs ys, vs = [.ref a, .ref b] ∧ SqT K H1 a xs ∧ SqT K H1 b ys ∧ R (ItEZ K a b) H1
theorem pi_ez {X : Cx} {e1 e2 : Expr} {ta : TA} {p p2 zp pos tpos : Pos} {elts : List Expr} {kk : Nat} (hg : Gl X "enumerate") (hm : X.mg "enumerate" = none) (hgz : Gl X "zip") (hmz : X.mg "zip" = none) (ha : PA X [e1, e2] ta) (hs : starEach [Expr.Call (.Name "zip" p2) [e1, e2] [] zp] X.env = [(false, eval (.Call (.Name "zip" p2) [e1, e2] [] zp) X.env)] := by rfl)
    (hsz : starEach [e1, e2] X.env = (false, eval e1 X.env) :: starEach [e2] X.env := by rfl) (hpl : (backTo zp (starEach [e2] X.env)).any (·.1) = false := by rfl) :
    PI X (.Tuple elts kk tpos) (.Call (.Name "enumerate" p) [.Call (.Name "zip" p2) [e1, e2] [] zp] [] pos) (iEZ X.K ta) := by
  refine ⟨fun pins s σ H R I h => ?_⟩
  refine Call_ (ld_blt I hg hm boot_enumerate (PyProof.Rows.callWith_type1 (PyProof.Rows.args_cons ?_ hs) hs rfl))
  refine Call_ (ld_blt I hgz hmz PyProof.Rows.boot_zip (PyProof.Rows.callWith_type1 (thn (ha.run zp pins s σ H _ I h) fun us s1 ⟨vs, H1, I1, r1, q1⟩ => ?_) hsz hpl))
  obtain ⟨a, b, xs, ys, rfl, hqx, hqy, q⟩ := q1
  rcases r1 with _ | ⟨r, r1⟩
  rcases r1 with _ | ⟨r', r1⟩
  cases r1
  cases r
  cases r'
  obtain ⟨its, rv, p1, _⟩ := I1.tuple hqx
  obtain ⟨its2, rv2, p2, _⟩ := I1.tuple hqy
  obtain ⟨la, lb⟩ : a < s1.heap.objs.size ∧ b < s1.heap.objs.size := ⟨let ⟨_, q, _⟩ := p1; Heap.lt_size q, let ⟨_, q, _⟩ := p2; Heap.lt_size q⟩
  refine RZ.call_zipT p1 p2 fun h1 hz hTI hTO w1 w2 sz1 k1 => PyProof.Rows.args_nil (en_call hz fun h2 he sz2 k2 => wpAny_pyIter_enum he ?_)
  have I2 : Inv X pins σ H1 { s1 with heap := h2 } := I1.kept (t' := s1.toks) fun c o q => k2 c o (k1 c o q)
  have sz1' : ({ s1 with heap := h1 } : Shared).heap.objs.size = s1.heap.objs.size + 5 := sz1
  have S : ZipSep2 (s1.heap.objs.size + 4) (s1.heap.objs.size + 2) (s1.heap.objs.size + 3) s1.heap.objs.size (s1.heap.objs.size + 1) [s1.heap.objs.size, a] [s1.heap.objs.size + 1, b] := zip_sep2 (fp1 := [a]) (fp2 := [b]) (fun c hc => by simpa using (show c = a by simpa using hc) ▸ la) (fun c hc => by simpa using (show c = b by simpa using hc) ▸ lb)
  refine ⟨h1.objs.size, [h1.objs.size, s1.heap.objs.size + 4, s1.heap.objs.size + 2, s1.heap.objs.size + 3, s1.heap.objs.size, s1.heap.objs.size + 1], _, _, H1, rfl, I2, turn_ez S (Nat.ne_of_lt la) (Nat.ne_of_lt (Nat.lt_succ_of_lt lb)) (by rw [sz1']; exact six_lt la lb), ⟨⟨_, he⟩, ⟨.none, false, .inl rfl, k2 _ _ hz⟩, k2 _ _ hTI, ⟨_, _, k2 _ _ hTO⟩, w1.at fun o q => k2 _ o q, w2.at fun o q => k2 _ o q⟩, ?_, q⟩
  rw [sz1']
  exact fun c hc => I1.fpOk (six_le c hc) (I1.hok.fresh (six_le c hc))
section
variable {X : Cx} {W : WX} {T : List (Addr × Str)} {δ : De} {ω : Om} {a b : Expr} {pos p p2 zp ep : Pos} {R : Out → Prop} {ss sa : List Stmt} {kk : Nat}
/-- for j1, (j2, j3) in enumerate(zip(a, b)) -/
theorem sd_forEZ (j1 j2 j3 : Nat) {ts : List Expr} {p' : Pos} {xs ys : List PyData} (inv : Nat → De → Om → Prop) (hme : X.mg "enumerate" = none) (hmz : X.mg "zip" = none) (ha : PD X δ ω a (.tuple xs)) (hb : PD X δ ω b (.tuple ys)) (hl : ys.length = xs.length) (h0 : inv 0 δ ω)
    (hbd : ∀ (i : Nat) x y δ' ω', xs[i]? = some x → ys[i]? = some y → inv i δ' ω' → SD X W T sa (((δ'.set j1 (some (.im (.int (i : Int))))).set j2 (some (.im x))).set j3 (some (.im y))) ω' (Turn1 inv i (Nxt X W T ss R) R))
    (hd : ∀ δ' ω', inv xs.length δ' ω' → SD X W T ss δ' ω' R) (hg : PG X (.Tuple ts kk p') (gZ X.K j1 j2 j3)) (hp : PassesOwn (model X.prog X.w) X.A X.env X.xe) (hc : X.calm = true)
    (hge : Gl X "enumerate" := by rfl) (hgz : Gl X "zip" := by rfl) (hs0 : starEach [Expr.Call (.Name "zip" p2) [a, b] [] zp] X.env = [(false, eval (.Call (.Name "zip" p2) [a, b] [] zp) X.env)] := by rfl)
    (hs1 : starEach [a, b] X.env = (false, eval a X.env) :: starEach [b] X.env := by rfl) (hs2 : starEach [b] X.env = (false, eval b X.env) :: starEach [] X.env := by rfl) (hpl : (backTo zp (starEach [b] X.env)).any (·.1) = false := by rfl)
    (hs : ∀ x, foldedSetIterable (.Call (.Name "enumerate" p) [.Call (.Name "zip" p2) [a, b] [] zp] [] ep) X.env x = pure x := by intro _; rfl) :
    SD X W T (.For (.Tuple ts kk p') (.Call (.Name "enumerate" p) [.Call (.Name "zip" p2) [a, b] [] zp] [] ep) sa [] pos :: ss) δ ω R := by
  refine sd_cons fun σ H D rl t k => ws (ps_for hp hc (pi_ez hge hme hgz hmz (pa_cons pe_w (pa_cons pe_w pa_nil hs2) hs1) hs0 hs1 hpl) hg pss_w hs) ?_
  refine ha σ H rl _ fun va H0 s0 da => hb σ H0 (rl.mono s0) _ fun vb H1 s1 db => ?_
  have sH : Same H H1 := s0.trans s1
  have da1 := dpm (hid_same s1) da
  clear da
  cases da1
  cases db
  rename_i qa us a1 a2 qb ws b1 b2
  have la := dpa_len a2
  have lb := dpa_len b2
  refine ⟨qa, qb, us, ws, rfl, same_sqt hid_sub a1, same_sqt hid_sub b1, ?_⟩
  refine ⟨fun i m σ' H' => ∃ δ' ω', m = xs.length - i ∧ i ≤ xs.length ∧ inv i δ' ω' ∧ Stp T ω ω' H1 H' ∧ Rl X.K H' σ' δ' ω', ⟨xs.length, δ, ω, by omega, Nat.zero_le _, h0, .refl, rl.mono sH⟩, ?_⟩
  rintro i m σ' H' ⟨δ', ω', em, hi2, iv, st, rl'⟩
  have ke : Ke T (hid (ads ω) H1) H' := fun b o z p => (hid_out (st.seen b o z p)).2
  have k1 := k.step (Stp.of sH : Stp T ω ω H H1)
  by_cases hlt : i < xs.length
  · refine .inr ⟨⟨us, ws, ke_sqt ke a1, ke_sqt ke b1, by omega, by omega⟩, fun σ2 H2 => ∃ δ2 ω2, inv (i + 1) δ2 ω2 ∧ Stp T ω ω2 H1 H2 ∧ Rl X.K H2 σ2 δ2 ω2, fun σ2 H2 ⟨δ2, ω2, c1, c2, c3⟩ => ⟨xs.length - (i + 1), by omega, δ2, ω2, rfl, hlt, c1, c2, c3⟩, fun v H2 hy => ?_⟩
    obtain ⟨T1, T2, u, v', rfl, n1, n2, rfl, f1, f2⟩ := hy
    obtain ⟨x, ex, dx⟩ := dpa_get' a2 (f1 us (ke_sqt ke a1))
    obtain ⟨y, ey, dy⟩ := dpa_get' b2 (f2 ws (ke_sqt ke b1))
    have sa1 : Same H' (upd H' T1 (.tup [u, v'])) := same_new n1
    have sn : Same H' (upd (upd H' T1 (.tup [u, v'])) T2 (.tup [.int (i : Nat), .ref T1])) := sa1.trans (same_new n2)
    have st2 : Stp T ω ω' H1 (upd (upd H' T1 (.tup [u, v'])) T2 (.tup [.int (i : Nat), .ref T1])) := st.trans (.of sn)
    have k2 := k1.step st2
    have rl2 := rl'.mono sn
    have du := dpm (hid_same sn) (dp_ke st.seen x u dx)
    have dv := dpm (hid_same sn) (dp_ke st.seen y v' dy)
    refine ⟨T2, _, rfl, SqT.of upd_same, rfl, _, _, rfl, _, _, rfl, T1, _, rfl, same_sqt (same_new n2) (SqT.of upd_same), rfl, _, _, rfl, _, _, rfl, rfl, rfl, ?_⟩
    refine hbd i x y δ' ω' ex ey iv _ _ _ (((rl2.set (x := .im (.int (i : Int))) (.int _)).set (x := .im x) du).set (x := .im y) dv) (st2.tab (t.ext sH)) ?_
    exact ⟨fun δ2 ω2 σ2 H2 z q l => ⟨δ2, ω2, z, st2.trans q, l⟩, fun r ω2 v H2 z q l dv => k2.rt r ω2 v H2 z q l dv, fun C ω2 σ2 H2 z q l => k2.ex C ω2 σ2 H2 z q l, fun δ2 ω2 σ2 H2 z q l => k2.nx δ2 ω2 σ2 H2 z q l, fun δ2 ω2 σ2 H2 z q l => ⟨δ2, ω2, z, st2.trans q, l⟩⟩
  · have e : i = xs.length := by omega
    subst e
    exact .inl ⟨⟨us, ws, ke_sqt ke a1, ke_sqt ke b1, la⟩, (k1.step st).nx δ' ω' σ' H' (hd δ' ω' iv) .refl rl'⟩
theorem pn_ifE {c : Expr} {kb : Bool} {ds : List PyData} (h : PTd X δ ω c kb) (h1 : kb = true → PN X δ ω a ds) (h2 : kb = false → PN X δ ω b ds) : PN X δ ω (.IfExp c a b pos) ds := fun σ H rl Q q =>
  we (pe_ifExp pt_w pe_w pe_w) (h σ H rl _ fun H1 s1 => by
    have new : ∀ {p : Addr}, H1 p = none → H p = none := fun {p} n => by
      cases e : H p with
      | none => rfl
      | some o =>
        rw [s1 p o e] at n
        cases n
    cases kb with
    | true => exact iteT (h1 rfl σ H1 (rl.mono s1) Q fun p vs H2 s2 n => q p vs H2 (s1.trans s2) (new n))
    | false => exact iteF (h2 rfl σ H1 (rl.mono s1) Q fun p vs H2 s2 n => q p vs H2 (s1.trans s2) (new n)))
end
end FP

namespace FP
open PySem PySem.Spec PyProof.Rows L2 HotX L2H
structure ZnSt (z TI TO i1 i2 a b : Addr) (i : Nat) (h : Heap) : Prop where
  zp : ∃ f0 f, Lent f0 ∧ h.get? z = some (zr f0 f TI TO)
  ti : IsPair h TI (.ref i1) (.ref i2)
  to : ∃ x y, IsPair h TO x y
  w1 : h.IsTupleIter i1 a i
  w2 : h.IsTupleIter i2 b i
theorem zr_iter {prog : Program} {w : World} {A : Around} {E : Value → Shared → Prop} {s : Shared} {z TI TO : Addr} {f0 : Value} {f : Bool} {Q : Value → Shared → Prop} (hz : s.heap.get? z = some (zr f0 f TI TO)) (h : Q (.ref z) s) : wpAny (model prog w) A (pyIter (.ref z)) Q E s :=
  have ty : s.TypeIs (.ref z) "zip" := ⟨_, hz, rfl⟩
  wpAny_pyIter_slot ty PySem.F.slot_zip_iter (wpAny_call_entry PySem.F.slot_zip_iter ty PySem.F.entry_zip_iter (wpAny_pure ⟨_, rfl, "zip", _, ty, PySem.F.slot_zip_next.lookup, h⟩) (PySem.F.args_zip_iter_1 _))
section
variable {P : Program} {w : World} {K : PySem.W.Frag} {n : Str} {tpos : Pos} {z TI TO i1 i2 a b : Addr}
theorem ZnSt.obj {i : Nat} {h : Heap} (st : ZnSt z TI TO i1 i2 a b i h) {c : Addr} (hc : c ∈ [z, TI, TO, i1, i2]) : ∃ o, h.get? c = some o ∧ ∀ v, o.data ≠ .cell v := by
  obtain ⟨⟨f0, f, _, g2⟩, g3, ⟨x, y, g4⟩, ⟨o1, g5, _, d1⟩, ⟨o2, g6, _, d2⟩⟩ := st
  simp only [List.mem_cons, List.not_mem_nil, or_false] at hc
  rcases hc with rfl | rfl | rfl | rfl | rfl
  · exact ⟨_, g2, nofun⟩
  · exact ⟨_, g3, nofun⟩
  · exact ⟨_, g4, nofun⟩
  · exact ⟨o1, g5, fun v q => by rw [d1] at q; cases q⟩
  · exact ⟨o2, g6, fun v q => by rw [d2] at q; cases q⟩
theorem ZnSt.keep {i : Nat} {h h' : Heap} (st : ZnSt z TI TO i1 i2 a b i h) (k : ∀ c ∈ [z, TI, TO, i1, i2], ∀ o, h.get? c = some o → h'.get? c = some o) : ZnSt z TI TO i1 i2 a b i h' :=
  ⟨st.zp.imp fun _ q => q.imp fun _ q => ⟨q.1, k z (by simp) _ q.2⟩, k TI (by simp) _ st.ti, st.to.imp fun _ q => q.imp fun _ q => k TO (by simp) _ q, st.w1.at fun o q => k i1 (by simp) o q, st.w2.at fun o q => k i2 (by simp) o q⟩
end
theorem five_le {N : Nat} : ∀ c ∈ [N + 4, N + 2, N + 3, N, N + 1], N ≤ c := fun c hc => by
  simp only [List.mem_cons, List.not_mem_nil, or_false] at hc
  omega
section
variable {X : Cx} {W : WX} {T : List (Addr × Str)} {δ : De} {ω : Om} {a b c elt : Expr} {pos p : Pos} {R : Out → Prop} {ss : List Stmt} {xs ys : List PyData}
end
end FP

namespace FP
open PySem PySem.Spec PyProof.Rows L2 HotX L2H
section
variable {X : Cx} {W : WX} {T : List (Addr × Str)} {δ : De} {ω : Om} {a b c e elt iter : Expr} {pos p : Pos} {R : Out → Prop} {ss body : List Stmt} {d : PyData}
theorem wk_range2 {tg : Expr} {i j : Int} (hm : X.mg "range" = none) (ha : PD X δ ω a (.int i)) (hb : PD X δ ω b (.int j)) (hz : -100000 ≤ i ∧ i ≤ 100000 ∧ -100000 ≤ j ∧ j ≤ 100000) (hg : Gl X "range" := by rfl) (hs : starEach [a, b] X.env = [(false, eval a X.env), (false, eval b X.env)] := by rfl) (hs2 : starEach [b] X.env = [(false, eval b X.env)] := by rfl)
    (he : starEach [a, b] X.env = (false, eval a X.env) :: starEach [b] X.env := by rfl) (he2 : starEach [b] X.env = (false, eval b X.env) :: starEach [] X.env := by rfl) :
    PWk X δ ω tg (.Call (.Name "range" p) [a, b] [] pos) (rangeD i (j - i).toNat) := by
  refine ⟨_, pi_range2 hg hm (pa_cons pe_w (pa_cons pe_w pa_nil he2) he) hs hs2, fun σ H rl R k => ha σ H rl _ fun v H0 s0 d0 => hb σ H0 (rl.mono s0) _ fun v1 H1 s1 d1 => ?_⟩
  cases d0
  cases d1
  refine ⟨i, j, rfl, ⟨by omega, by omega, by omega, by omega⟩, k _ H1 (s0.trans s1) fun T H2 g => ⟨fun n hn => ?_, ?_, fun n y H3 hn w => ?_⟩⟩
  · rw [rangeD_len] at hn
    exact hn
  · show (j - i).toNat ≤ (rangeD i (j - i).toNat).length
    rw [rangeD_len]
    exact Nat.le_refl _
  · obtain ⟨e1, e2⟩ := w
    subst e2
    rw [rangeD_len] at hn
    exact ⟨e1, _, rangeD_get hn, .int _⟩
end
end FP

namespace FP
open PySem PySem.Spec PyProof.Rows L2 HotX L2H
section
variable {X : Cx} {W : WX} {T : List (Addr × Str)} {δ : De} {ω : Om} {a b c e o elt iter : Expr} {pos p : Pos} {R : Out → Prop} {ss body : List Stmt} {d : PyData}
end
end FP

namespace FP
open PySem PySem.Spec PyProof.Rows L2
def spT (K : PySem.W.Frag) (T : List (Addr × Str)) (fr : List PyData → Bool → Prop) : Sp := fun vs H Q _ => ∃ ds b, DpAll K H vs ds ∧ fr ds b ∧ LamX.Tabs T H ∧ ∀ H', Stp T ⟨[], []⟩ ⟨[], []⟩ H H' → Q (.bl b) H'
structure DefT (P : Program) (w : World) (K : PySem.W.Frag) (mg : Str → Option Value) (base : Heap) (T : List (Addr × Str)) (k : Nat) (x : Str) (fr : List PyData → Bool → Prop) : Prop where
  ex : ∃ f fd ps, FnOk P w K mg base (L2N.CX P w) k f fd ps (spT K T fr) ∧ mg x = some (.ref f) ∧ PySem.W.keepIn K (.ref f) = true ∧ L2.Binds K fd ps []
section
variable {X : Cx} {W : WX} {T : List (Addr × Str)} {δ : De} {ω : Om} {a b c e : Expr} {es : List Expr} {d : PyData} {ds : List PyData} {pos p : Pos} {k : Nat} {x : Str} {R : Out → Prop} {ss : List Stmt} {Z : PyData → Om → Prop} {fr : List PyData → Bool → Prop} {v : Bool}
theorem ZE.ex (h : ZE X T δ ω e Z) (q : ∀ d ω', Z d ω' → R (.rt (.im d) ω')) : EX X W T e δ ω R := fun σ H rl t Q k1 _ => h σ H rl t Q fun d ω' v H' z s l dv => k1 (.im d) ω' v H' (q d ω' z) s l dv
end
structure LamY (K : PySem.W.Frag) (mg : Str → Option Value) (base : Heap) (T : List (Addr × Str)) (y : Str) : Prop where
  ex : ∃ P, LamX.TabB base mg (He.codeOf K (y, none)) P ∧ (P, (y ++ ".<locals>.") ++ "<lambda>") ∈ T ∧ ∀ p ∈ T, p.1 = P → p.2 = (y ++ ".<locals>.") ++ "<lambda>"
end FP

namespace FP
open PySem PySem.Spec PyProof.Rows L2 HotX L2H
inductive Sk where
  | l
  | t
def SqS (K : PySem.W.Frag) (H : Hp) : Sk → Addr → List V → Prop
  | .l => SqL K H
  | .t => SqT K H
def IsS (h : Heap) : Sk → Addr → Array Value → Prop
  | .l => h.IsList
  | .t => h.IsTuple
def ItS (h : Heap) : Sk → Addr → Addr → Nat → Prop
  | .l => h.IsListIter
  | .t => h.IsTupleIter
abbrev itO : Sk → Addr → Obj
  | .l, a => { cls := .type "list_iterator", data := .fields #[.ref a, .int 0 0] }
  | .t, a => { cls := .type "tuple_iterator", data := .fields #[.ref a, .int 0 0] }
theorem itO_there (k : Sk) (a : Addr) : (itO k a).isFreed = false := by cases k <;> rfl
theorem IsS.at {k : Sk} {h h' : Heap} {a : Addr} {vs : Array Value} (q : IsS h k a vs) (e : ∀ o, h.get? a = some o → h'.get? a = some o) : IsS h' k a vs := by
  cases k with
  | l => exact let ⟨o, ho, r⟩ := q; ⟨o, e o ho, r⟩
  | t => exact let ⟨o, ho, r⟩ := q; ⟨o, e o ho, r⟩
theorem ItS.at {k : Sk} {h h' : Heap} {a b : Addr} {i : Nat} (q : ItS h k a b i) (e : ∀ o, h.get? a = some o → h'.get? a = some o) : ItS h' k a b i := by
  cases k with
  | l => exact let ⟨o, ho, r⟩ := q; ⟨o, e o ho, r⟩
  | t => exact let ⟨o, ho, r⟩ := q; ⟨o, e o ho, r⟩
theorem IsS.lt {k : Sk} {h : Heap} {a : Addr} {vs : Array Value} (q : IsS h k a vs) : a < h.objs.size := by
  cases k with
  | l => exact let ⟨o, ho, _⟩ := q; Heap.lt_size ho
  | t => exact let ⟨o, ho, _⟩ := q; Heap.lt_size ho
theorem ItS.ob {k : Sk} {h : Heap} {a b : Addr} {i : Nat} (q : ItS h k a b i) : ∃ o, h.get? a = some o ∧ ∀ v, o.data ≠ .cell v := by
  cases k with
  | l => exact let ⟨o, ho, _, d⟩ := q; ⟨o, ho, fun v z => by rw [d] at z; cases z⟩
  | t => exact let ⟨o, ho, _, d⟩ := q; ⟨o, ho, fun v z => by rw [d] at z; cases z⟩
theorem ItS.new {k : Sk} {h : Heap} {a b : Addr} (q : h.get? a = some (itO k b)) : ItS h k a b 0 := by
  cases k with
  | l => exact ⟨_, q, rfl, rfl⟩
  | t => exact ⟨_, q, rfl, rfl⟩
section
variable {prog : Program} {w : World} {A : Around} {E : Value → Shared → Prop} {s : Shared}
theorem iter_S {k : Sk} {a : Addr} {vs : Array Value} {Q : Value → Shared → Prop} (h : IsS s.heap k a vs) (q : Q (.ref s.heap.objs.size) { s with heap := s.heap.push (itO k a) }) : wpAny (model prog w) A (pyIter (.ref a)) Q E s := by
  cases k with
  | l => exact wpAny_pyIter_list (items := vs) h q
  | t => exact wpAny_pyIter_tuple (items := vs) h q
theorem draws_S {k : Sk} (hh : A.handled = none) (it a : Addr) (hne : a ≠ it) (vs : Array Value) : Draws prog w A it [it, a] vs.size (fun i v => vs[i]? = some v) (fun i h => ItS h k it a i ∧ IsS h k a vs) := by
  cases k with
  | l => exact Draws.list hh it a hne vs
  | t => exact Draws.tuple hh it a hne vs
/-- the five things that a zip of two is made of -/
structure ZpNew (k1 k2 : Sk) (a b : Addr) (h h' : Heap) : Prop where
  z : h'.get? (h.objs.size + 4) = some (zr .none false (h.objs.size + 2) (h.objs.size + 3))
  ti : IsPair h' (h.objs.size + 2) (.ref h.objs.size) (.ref (h.objs.size + 1))
  to : IsPair h' (h.objs.size + 3) .none .none
  w1 : ItS h' k1 h.objs.size a 0
  w2 : ItS h' k2 (h.objs.size + 1) b 0
  kp : ∀ c o, h.get? c = some o → h'.get? c = some o
abbrev tupO (x y : Value) : Obj := { cls := .type "tuple", data := .seq #[x, y] }
abbrev zp2 (k1 k2 : Sk) (a b : Addr) (h : Heap) : Heap := (h.push (itO k1 a)).push (itO k2 b)
abbrev zp4 (k1 k2 : Sk) (a b : Addr) (h : Heap) : Heap := ((zp2 k1 k2 a b h).push (tupO (.ref h.objs.size) (.ref (h.push (itO k1 a)).objs.size))).push (tupO .none .none)
abbrev zp5 (k1 k2 : Sk) (a b : Addr) (h : Heap) : Heap := (zp4 k1 k2 a b h).push (zr .none false (zp2 k1 k2 a b h).objs.size ((zp2 k1 k2 a b h).push (tupO (.ref h.objs.size) (.ref (h.push (itO k1 a)).objs.size))).objs.size)
theorem zp_is (k1 k2 : Sk) (a b : Addr) (h : Heap) : (zp4 k1 k2 a b h).objs.size = h.objs.size + 4 ∧ ZpNew k1 k2 a b h (zp5 k1 k2 a b h) := by
  have up : ∀ {h : Heap} {c : Addr} {o o' : Obj}, h.get? c = some o → (h.push o').get? c = some o := fun q => Heap.get?_push_of_some _ q
  have nw : ∀ (h : Heap) (o : Obj) (n : Nat), h.objs.size = n → o.isFreed = false → (h.push o).get? n = some o := fun h o n e f => by
    rw [← e]
    exact Heap.get?_push_size _ f
  have sz : ∀ (h : Heap) (o : Obj) (n : Nat), h.objs.size = n → (h.push o).objs.size = n + 1 := fun h o n e => by rw [Heap.size_push, e]
  have s1 := sz h (itO k1 a) _ rfl
  have s2 := sz _ (itO k2 b) _ s1
  have s3 := sz _ (tupO (.ref h.objs.size) (.ref (h.push (itO k1 a)).objs.size)) _ s2
  have s4 := sz _ (tupO .none .none) _ s3
  have g5 := nw _ (zr .none false (zp2 k1 k2 a b h).objs.size ((zp2 k1 k2 a b h).push (tupO (.ref h.objs.size) (.ref (h.push (itO k1 a)).objs.size))).objs.size) _ s4 rfl
  have g3 := nw _ (tupO (.ref h.objs.size) (.ref (h.push (itO k1 a)).objs.size)) _ s2 rfl
  have g1 := nw h (itO k1 a) _ rfl (itO_there k1 a)
  have g2 := nw _ (itO k2 b) _ s1 (itO_there k2 b)
  have g4 := nw _ (tupO .none .none) _ s3 rfl
  refine ⟨s4, ⟨?_, ?_, up g4, .new (up (up (up (up g1)))), .new (up (up (up g2))), fun c o q => up (up (up (up (up q))))⟩⟩
  · refine g5.trans (congrArg some ?_)
    rw [show (zp2 k1 k2 a b h).objs.size = _ from s2, s3]
  · have g6 := up (o' := zr .none false (zp2 k1 k2 a b h).objs.size ((zp2 k1 k2 a b h).push (tupO (.ref h.objs.size) (.ref (h.push (itO k1 a)).objs.size))).objs.size) (up (o' := tupO .none .none) g3)
    refine g6.trans (congrArg some ?_)
    rw [s1]
theorem zp_new (k1 k2 : Sk) (a b : Addr) (us vs : Array Value) : Meets (Builtin.«zip.__new__» ⟨[.type "zip", .ref a, .ref b], []⟩) fun _ R s => IsS s.heap k1 a us ∧ IsS s.heap k2 b vs ∧ R (.ok (.ret (.ref (zp4 k1 k2 a b s.heap).objs.size))) { s with heap := zp5 k1 k2 a b s.heap } :=
  .of_wp fun prog w A R s q => by
    obtain ⟨h, g, d, tk, os⟩ := s
    obtain ⟨q1, q2, r⟩ := q
    have e0 := sub_zip
    have q3 : IsS (h.push (itO k1 a)) k2 b vs := IsS.at q2 fun o e => Heap.get?_push_of_some _ e
    have t1 : ∀ {A' : Around} {E' : Value → Shared → Prop} {Q' : Value → Shared → Prop}, Q' (.ref h.objs.size) ⟨h.push (itO k1 a), g, d, tk, os⟩ → wpAny (model prog w) A' (pyIter (.ref a)) Q' E' ⟨h, g, d, tk, os⟩ := fun z => iter_S (s := ⟨h, g, d, tk, os⟩) q1 z
    have t2 : ∀ {A' : Around} {E' : Value → Shared → Prop} {Q' : Value → Shared → Prop}, Q' (.ref (h.push (itO k1 a)).objs.size) ⟨(h.push (itO k1 a)).push (itO k2 b), g, d, tk, os⟩ → wpAny (model prog w) A' (pyIter (.ref b)) Q' E' ⟨h.push (itO k1 a), g, d, tk, os⟩ := fun z => iter_S (s := ⟨h.push (itO k1 a), g, d, tk, os⟩) q3 z
    wp_walk using t1, t2
    exact ⟨_, rfl, r⟩
theorem zp_call {k1 k2 : Sk} {a b : Addr} {us vs : Array Value} {Q : Value → Shared → Prop} (q1 : IsS s.heap k1 a us) (q2 : IsS s.heap k2 b vs) (r : ∀ h', ZpNew k1 k2 a b s.heap h' → Q (.ref (s.heap.objs.size + 4)) { s with heap := h' }) :
    wpAny (model prog w) A (call (.type "zip") [.ref a, .ref b]) Q E s := by
  obtain ⟨e4, n⟩ := zp_is k1 k2 a b s.heap
  have r1 := r _ n
  rw [← e4] at r1
  exact callType_new F.called_zip (by decide) (F.typeCall_zip_2 _ _) (F.newCall_zip_2 _ _) (fun obj => F.args_object_init_3 obj _ _) F.entry_zip_new (zp_new k1 k2 a b us vs) ⟨q1, q2, ⟨_, by rw [e4]; exact n.z, rfl⟩, r1⟩
end
section
variable {prog : Program} {w : World} {A : Around} {E : Value → Shared → Prop} {s : Shared} {z TI TO i1 i2 : Addr} {fp1 fp2 : List Addr} {n1 n2 i : Nat} {P1 P2 : Nat → Value → Prop} {S1 S2 : Nat → Heap → Prop} {a b f0 : Value} {f : Bool}
/-- the second row is at its end, the first one is not -/
theorem zr_over2 {Q : PySem.Fin → Shared → Prop} (S : ZipSep2 z TI TO i1 i2 fp1 fp2) (D1 : Draws prog w A i1 fp1 n1 P1 S1) (D2 : Draws prog w A i2 fp2 n2 P2 S2) (m : Zm S1 S2 z TI TO i1 i2 s.heap i n2 f0 f a b s.heap) (h0 : Lent f0) (l1 : i < n1)
    (k : ∀ h' t' e, (∀ c o, c ∉ [z, TO, i1, i2] → s.heap.get? c = some o → h'.get? c = some o) → (∃ o, h'.get? e = some o ∧ o.cls = .type "StopIteration") → E (.ref e) { s with heap := h', toks := t' }) :
    wpAny (model prog w) A (Builtin.«zip.__next__» ⟨[.ref z], []⟩) Q E s := by
  obtain ⟨hp, g, d, tk0, os⟩ := s
  refine wpAny_bind (wpAny_of_eq (a := (.ref z, [])) rfl (wpAny_bind (wpAny_field m.rz rfl rfl (wpAny_bind (wpAny_field m.rz rfl rfl (wpAny_bind (wpAny_seqItems m.ri rfl (wpAny_bind (zr_free m.rz h0 fun t h1 f1 q1 b1 => ?_)))))))))
  have m1 := m.setz S D1 D2 b1 q1
  clear b1 q1 m
  cases t with
  | true =>
    refine wpAny_bind (wpAny_rule (wpAny_bind (wpAny_field m1.rz rfl rfl (wpAny_bind (wpAny_setField_rec m1.rz (by simp) fun h2 q2 b2 => wpAny_bind ?_)))))
    have m2 := m1.setz S D1 D2 b2 (f0' := .ellipsis) (f' := f1) q2
    simp only [List.zipIdx_cons, List.zipIdx_nil, List.forIn_cons, List.forIn_nil]
    refine wpAny_bind (wpAny_bind (wpAny_onRaise (wpAny_bind (D1.item i _ _ _ l1 m2.s1 fun x1 h3 t3 p1 e3 b3 => wpAny_pure ?_))))
    have m3 := m2.one S D2 b3 e3
    refine wpAny_bind (wpAny_seqItems m3.ro rfl (wpAny_bind (wpAny_updateSeq_pair m3.ro fun h4 q4 b4 => wpAny_bind (wpAny_letGo (wpAny_pure ?_)))))
    have m4 := m3.seto S D1 D2 b4 (a' := x1) (b' := b) q4
    refine wpAny_bind (wpAny_bind (wpAny_onRaise (wpAny_bind (D2.done _ _ _ m4.s2 fun h5 e b5 ⟨oe, he, ce⟩ => ?_))))
    have hz : h5.get? z = some _ := b5 _ _ S.zi2 m4.rz
    have ne : e ≠ z := fun q => by
      rw [q, hz] at he
      cases he
      simp at ce
    exact wpAny_setField_rec hz (by simp) fun h6 _ b6 => k h6 t3 e (fun c o hc q => (b6.2 c fun y => hc (by simp [y])).trans (b5 c o (fun y => hc (by simp [y])) (m4.kp c o hc q))) ⟨oe, (b6.2 _ ne).trans he, ce⟩
  | false =>
    refine wpAny_bind ?_
    rw [← Array.forIn_toList]
    simp only [List.forIn_cons, List.forIn_nil]
    refine wpAny_bind (wpAny_bind (wpAny_holding (wpAny_bind (D1.item i _ _ _ l1 m1.s1 fun x1 h3 t3 p1 e3 b3 => wpAny_pure (wpAny_pure ?_)))))
    have m3 := m1.one S D2 b3 e3
    exact wpAny_bind (wpAny_bind (wpAny_holding (wpAny_bind (D2.done _ _ _ m3.s2 fun h5 e b5 he => k h5 t3 e (fun c o hc q => b5 c o (fun y => hc (by simp [y])) (m3.kp c o hc q)) he))))
theorem zr_stop2 {Q : Option Value → Shared → Prop} (S : ZipSep2 z TI TO i1 i2 fp1 fp2) (D1 : Draws prog w A.in1 i1 fp1 n1 P1 S1) (D2 : Draws prog w A.in1 i2 fp2 n2 P2 S2) (m : Zm S1 S2 z TI TO i1 i2 s.heap i n2 f0 f a b s.heap) (h0 : Lent f0) (l1 : i < n1)
    (k : ∀ h' t', (∀ c o, c ∉ [z, TO, i1, i2] → s.heap.get? c = some o → h'.get? c = some o) → Q none { s with heap := h', toks := t' }) :
    wpAny (model prog w) A (pyNext (.ref z)) Q E s := by
  have ty : s.TypeIs (.ref z) "zip" := ⟨_, m.rz, rfl⟩
  unfold pyNext
  exact wpAny_bind (wpAny_attempt (wpAny_callSpecial?_slot ty F.slot_zip_next (wpAny_call_entry F.slot_zip_next ty F.entry_zip_next (zr_over2 S D1 D2 m h0 l1 fun h' t' x r ⟨o, ho, hc⟩ => wpAny_bind (wpAny_isInstance (T := "StopIteration") (b := true) ⟨o, ho, hc⟩ isSubtype_stop (wpAny_pure (k h' t' r)))) (F.args_zip_next_1 _))))
end
section
variable {prog : Program} {w : World} {A : Around} {E : Value → Shared → Prop} {s : Shared} {z TI TO : Addr} {f0 : Value} {f : Bool}
/-- the pair goes to any target: the zip has it no more, or still has it -/
theorem zr_let {tg : Expr} {T : Addr} {Q : Unit → Shared → Prop} (hz : s.heap.get? z = some (zr f0 f TI TO)) (h0 : Lent f0) (k : ∀ h' g0, Lent g0 → h'.get? z = some (zr g0 f TI TO) → Heap.SameBut z s.heap h' → Q () { s with heap := h' }) :
    wpAny (model prog w) A (letOwnedTupleGo tg (.ref z) (.ref T)) Q E s := by
  have stay : Q () s := k s.heap f0 h0 hz (.refl _ _)
  unfold letOwnedTupleGo
  cases tg <;> first
    | exact wpAny_pure stay
    | (refine wpAny_bind (wpAny_load hz ?_)
       dsimp only
       split
       · exact wpAny_bind (wpAny_rule (wpAny_setField_rec hz (by simp) fun h' e sb => k h' .none (.inl rfl) e sb))
       · exact wpAny_pure stay)
end
def ItZS (K : PySem.W.Frag) (k1 k2 : Sk) (a b : Addr) : It :=
  ⟨fun i H => ∃ xs ys : List V, SqS K H k1 a xs ∧ SqS K H k2 b ys ∧ i < xs.length ∧ i < ys.length,
    fun i H v H' => ∃ T x y, v = .ref T ∧ H T = none ∧ H' = upd H T (.tup [x, y]) ∧ (∀ xs, SqS K H k1 a xs → xs[i]? = some x) ∧ ∀ ys, SqS K H k2 b ys → ys[i]? = some y,
    fun i H => ∃ xs ys : List V, SqS K H k1 a xs ∧ SqS K H k2 b ys ∧ (xs.length = i ∨ i < xs.length ∧ ys.length = i)⟩
structure ZsSt (k1 k2 : Sk) (z TI TO i1 i2 a b : Addr) (i : Nat) (h : Heap) : Prop where
  zp : ∃ f0 f, Lent f0 ∧ h.get? z = some (zr f0 f TI TO)
  ti : IsPair h TI (.ref i1) (.ref i2)
  to : ∃ x y, IsPair h TO x y
  w1 : ItS h k1 i1 a i
  w2 : ItS h k2 i2 b i
section
variable {X : Cx} {pins : List (Addr × Obj)} {σ : L2.St} {H : Hp} {s : Shared} {k : Sk} {a : Addr} {xs ys : List V}
theorem inv_seqS (I : Inv X pins σ H s) (h : SqS X.K H k a xs) : ∃ us : List Value, Vals xs us ∧ IsS s.heap k a us.toArray := by
  cases k with
  | l =>
    obtain ⟨us, r, p, _⟩ := I.list h
    exact ⟨us, r, p.isList⟩
  | t =>
    obtain ⟨us, r, p, _⟩ := I.tuple h
    exact ⟨us, r, p⟩
theorem inv_oneS (I : Inv X pins σ H s) (h : SqS X.K H k a xs) (h' : SqS X.K H k a ys) : xs = ys := by
  cases k with
  | l => exact I.list_inj h h'
  | t => exact I.tuple_inj h h'
end
section
variable {P : Program} {w : World} {K : PySem.W.Frag} {tg : Expr} {k1 k2 : Sk} {z TI TO i1 i2 a b : Addr}
theorem ZsSt.obj {i : Nat} {h : Heap} (st : ZsSt k1 k2 z TI TO i1 i2 a b i h) {c : Addr} (hc : c ∈ [z, TI, TO, i1, i2]) : ∃ o, h.get? c = some o ∧ ∀ v, o.data ≠ .cell v := by
  obtain ⟨⟨f0, f, _, g2⟩, g3, ⟨x, y, g4⟩, g5, g6⟩ := st
  simp only [List.mem_cons, List.not_mem_nil, or_false] at hc
  rcases hc with rfl | rfl | rfl | rfl | rfl
  · exact ⟨_, g2, nofun⟩
  · exact ⟨_, g3, nofun⟩
  · exact ⟨_, g4, nofun⟩
  · exact g5.ob
  · exact g6.ob
theorem ZsSt.keep {i : Nat} {h h' : Heap} (st : ZsSt k1 k2 z TI TO i1 i2 a b i h) (k : ∀ c ∈ [z, TI, TO, i1, i2], ∀ o, h.get? c = some o → h'.get? c = some o) : ZsSt k1 k2 z TI TO i1 i2 a b i h' :=
  ⟨st.zp.imp fun _ q => q.imp fun _ q => ⟨q.1, k z (by simp) _ q.2⟩, k TI (by simp) _ st.ti, st.to.imp fun _ q => q.imp fun _ q => k TO (by simp) _ q, st.w1.at fun o q => k i1 (by simp) o q, st.w2.at fun o q => k i2 (by simp) o q⟩
theorem turn_zS (S : ZipSep2 z TI TO i1 i2 [i1, a] [i2, b]) (ha : a ≠ i1) (hb : b ≠ i2) : Turn P w K tg (ItZS K k1 k2 a b) [z, TI, TO, i1, i2] z (ZsSt k1 k2 z TI TO i1 i2 a b) where
  mem := by simp
  obj := fun i h st c hc => st.obj hc
  keep := fun i h h' st k => st.keep k
  item := by
    intro X hP hw hK hc i pins s σ H E I hf st hg
    subst hP hw hK
    obtain ⟨xs, ys, hqx, hqy, lx, ly⟩ := hg
    obtain ⟨us, rv, p⟩ := inv_seqS I hqx
    obtain ⟨us2, rv2, p2⟩ := inv_seqS I hqy
    obtain ⟨x, hx⟩ : ∃ x, xs[i]? = some x := ⟨_, List.getElem?_eq_getElem lx⟩
    obtain ⟨y, hy⟩ : ∃ y, ys[i]? = some y := ⟨_, List.getElem?_eq_getElem ly⟩
    obtain ⟨u, gu, ru⟩ := rv.get hx
    obtain ⟨u2, gu2, ru2⟩ := rv2.get hy
    have D1 := draws_S (k := k1) (prog := X.prog) (w := X.w) (A := X.A.in1) (I.ok.hd hc) i1 a ha us.toArray
    have D2 := draws_S (k := k2) (prog := X.prog) (w := X.w) (A := X.A.in1) (I.ok.hd hc) i2 b hb us2.toArray
    obtain ⟨f0, f, l0, hz⟩ := st.zp
    obtain ⟨x0, y0, ho⟩ := st.to
    have sizes : i < us.toArray.size ∧ i < us2.toArray.size := ⟨by simpa using (List.getElem?_eq_some_iff.mp gu).1, by simpa using (List.getElem?_eq_some_iff.mp gu2).1⟩
    refine zr_next S D1 D2 ⟨rfl, fun _ _ _ q => q, hz, st.ti, ho, ⟨st.w1, p⟩, ⟨st.w2, p2⟩⟩ l0 sizes.1 sizes.2 fun x1 x2 h0 tk g0 q1 q2 lg0 zf0 => ⟨_, rfl, ?_⟩
    obtain rfl : x1 = u := by simpa [gu] using q1.symm
    obtain rfl : x2 = u2 := by simpa [gu2] using q2.symm
    obtain ⟨fz0, ez0⟩ := zf0.rz
    refine zr_let (s := { s with heap := h0, toks := tk }) ez0 lg0 fun h1 g1 lg ez1 sb => ?_
    have zf := zf0.setz S D1 D2 (Heap.lt_size hz) sb ez1
    have I1 : Inv X pins σ (upd H s.heap.objs.size (.tup [x, y])) { s with heap := h1, toks := tk } :=
      I.turnedNew (ch := [z, TI, TO, i1, i2]) (fun c o hc q => zf.kp c o (fun r => hc (by simp only [List.mem_cons, List.not_mem_nil, or_false] at r ⊢; rcases r with r | r | r | r <;> simp [r])) q) hf (Nat.le_refl _) ⟨by show 2 ≤ sizeLine; decide, [x1, x2], .cons ru (.cons ru2 .nil), ⟨_, zf.new, rfl, _, rfl⟩⟩
    obtain ⟨fz, ez⟩ := zf.rz
    refine ⟨.ref s.heap.objs.size, _, I1, rfl, ⟨_, x, y, rfl, I.hok.fresh (Nat.le_refl _), rfl, fun l hl => by rw [inv_oneS I hl hqx]; exact hx, fun l hl => by rw [inv_oneS I hl hqy]; exact hy⟩, ⟨⟨g1, fz, lg, ez⟩, zf.ri, zf.ro, zf.s1.1, zf.s2.1⟩, fun c hcm => ?_⟩
    obtain ⟨_, q, _⟩ := st.obj hcm
    rw [upd_ne (Nat.ne_of_lt (Heap.lt_size q))]
    exact (hf c hcm).1
  done := by
    intro X hP hw hK hc i pins s σ H E I hf st hg
    subst hP hw hK
    obtain ⟨xs, ys, hqx, hqy, he⟩ := hg
    obtain ⟨us, rv, p⟩ := inv_seqS I hqx
    obtain ⟨us2, rv2, p2⟩ := inv_seqS I hqy
    have D1 := draws_S (k := k1) (prog := X.prog) (w := X.w) (A := X.A.in1) (I.ok.hd hc) i1 a ha us.toArray
    have D2 := draws_S (k := k2) (prog := X.prog) (w := X.w) (A := X.A.in1) (I.ok.hd hc) i2 b hb us2.toArray
    obtain ⟨f0, f, l0, hz⟩ := st.zp
    obtain ⟨x0, y0, ho⟩ := st.to
    have fin : ∀ h' t', (∀ c o, c ∉ [z, TO, i1, i2] → s.heap.get? c = some o → h'.get? c = some o) → Inv X pins σ H { s with heap := h', toks := t' } := fun h' t' r => I.turnedL (t' := t') (ch := [z, TI, TO, i1, i2]) (fun c o hc q => r c o (fun r => hc (by simp only [List.mem_cons, List.not_mem_nil, or_false] at r ⊢; rcases r with r | r | r | r <;> simp [r])) q) hf
    rcases he with lx | ⟨lx, ly⟩
    · have sz : i = us.toArray.size := by rw [List.size_toArray, ← rv.length, lx]
      have w1 := st.w1
      rw [sz] at w1
      exact zr_stop S D1 D2 ⟨rfl, fun _ _ _ q => q, hz, st.ti, ho, ⟨w1, p⟩, ⟨st.w2, p2⟩⟩ l0 fun h' r => ⟨rfl, fin h' _ r⟩
    · have sz : i = us2.toArray.size := by rw [List.size_toArray, ← rv2.length, ly]
      have l1 : i < us.toArray.size := by rw [List.size_toArray, ← rv.length]; exact lx
      have w2 := st.w2
      rw [sz] at w2
      exact zr_stop2 S D1 D2 ⟨rfl, fun _ _ _ q => q, hz, st.ti, ho, ⟨st.w1, p⟩, ⟨w2, p2⟩⟩ l0 l1 fun h' t' r => ⟨rfl, fin h' t' r⟩
  self := fun A i s Q E st h => let ⟨_, _, _, hz⟩ := st.zp; zr_iter hz h
end
def iZS (K : PySem.W.Frag) (k1 k2 : Sk) (ta : TA) : TI := fun σ H R => ta σ H fun vs H1 => ∃ a b xs ys, vs = [.ref a, .ref b] ∧ SqS K H1 k1 a xs ∧ SqS K H1 k2 b ys ∧ R (ItZS K k1 k2 a b) H1
theorem pi_zS {X : Cx} {k1 k2 : Sk} {e1 e2 tg : Expr} {ta : TA} {p2 zp : Pos} (hgz : Gl X "zip") (hmz : X.mg "zip" = none) (ha : PA X [e1, e2] ta)
    (hsz : starEach [e1, e2] X.env = (false, eval e1 X.env) :: starEach [e2] X.env := by rfl) (hpl : (backTo zp (starEach [e2] X.env)).any (·.1) = false := by rfl) :
    PI X tg (.Call (.Name "zip" p2) [e1, e2] [] zp) (iZS X.K k1 k2 ta) := by
  refine ⟨fun pins s σ H R I h => ?_⟩
  refine Call_ (ld_blt I hgz hmz PyProof.Rows.boot_zip (PyProof.Rows.callWith_type1 (thn (ha.run zp pins s σ H _ I h) fun us s1 ⟨vs, H1, I1, r1, q1⟩ => ?_) hsz hpl))
  obtain ⟨a, b, xs, ys, rfl, hqx, hqy, q⟩ := q1
  rcases r1 with _ | ⟨r, r1⟩
  rcases r1 with _ | ⟨r', r1⟩
  cases r1
  cases r
  cases r'
  obtain ⟨us, rv, p1⟩ := inv_seqS I1 hqx
  obtain ⟨us2, rv2, p2⟩ := inv_seqS I1 hqy
  have la := p1.lt
  have lb := p2.lt
  refine zp_call p1 p2 fun h1 n => zr_iter n.z ?_
  have I2 : Inv X pins σ H1 { s1 with heap := h1 } := I1.kept (t' := s1.toks) fun c o q => n.kp c o q
  have S : ZipSep2 (s1.heap.objs.size + 4) (s1.heap.objs.size + 2) (s1.heap.objs.size + 3) s1.heap.objs.size (s1.heap.objs.size + 1) [s1.heap.objs.size, a] [s1.heap.objs.size + 1, b] := zip_sep2 (fp1 := [a]) (fp2 := [b]) (fun c hc => by simpa using (show c = a by simpa using hc) ▸ la) (fun c hc => by simpa using (show c = b by simpa using hc) ▸ lb)
  exact ⟨s1.heap.objs.size + 4, [s1.heap.objs.size + 4, s1.heap.objs.size + 2, s1.heap.objs.size + 3, s1.heap.objs.size, s1.heap.objs.size + 1], _, _, H1, rfl, I2, turn_zS S (Nat.ne_of_lt la) (Nat.ne_of_lt (Nat.lt_succ_of_lt lb)), ⟨⟨.none, false, .inl rfl, n.z⟩, n.ti, ⟨_, _, n.to⟩, n.w1, n.w2⟩, fun c hc => I1.fpOk (five_le c hc) (I1.hok.fresh (five_le c hc)), q⟩
def seqD : Sk → List PyData → PyData
  | .l => .list
  | .t => .tuple
theorem dp_seqD {K : PySem.W.Frag} {H : Hp} {k : Sk} {v : V} {ds : List PyData} (h : Dp K H v (seqD k ds)) : ∃ a us, v = .ref a ∧ SqS K H k a us ∧ DpAll K H us ds := by
  cases k with
  | l =>
    cases h with
    | lst h1 h2 => exact ⟨_, _, rfl, h1, h2⟩
  | t =>
    cases h with
    | tup h1 h2 => exact ⟨_, _, rfl, h1, h2⟩
theorem sqs_ke {T : List (Addr × Str)} {K : PySem.W.Frag} {G H : Hp} {k : Sk} {a : Addr} {xs : List V} (e : Ke T G H) (h : SqS K G k a xs) : SqS K H k a xs := by
  cases k with
  | l => exact ke_sql e h
  | t => exact ke_sqt e h
theorem sqs_same {K : PySem.W.Frag} {G H : Hp} {k : Sk} {a : Addr} {xs : List V} (e : Same G H) (h : SqS K G k a xs) : SqS K H k a xs := sqs_ke (T := []) (ke_same e) h
/-- the pairs, as the walk makes them -/
def zipL : List PyData → List PyData → List (List PyData)
  | x :: xs, y :: ys => [x, y] :: zipL xs ys
  | _, _ => []
theorem zipL_get : ∀ {xs ys : List PyData} {i : Nat}, (zipL xs ys)[i]? = match xs[i]?, ys[i]? with | some x, some y => some [x, y] | _, _ => none
  | [], _, i => by simp [zipL]
  | _ :: _, [], i => by
    simp only [zipL, List.getElem?_nil]
    split <;> simp_all
  | x :: xs, y :: ys, 0 => rfl
  | x :: xs, y :: ys, i + 1 => by
    show (zipL xs ys)[i]? = _
    rw [zipL_get]
    rfl
theorem zipL_len : ∀ (xs ys : List PyData), (zipL xs ys).length = min xs.length ys.length
  | [], _ => by simp [zipL]
  | _ :: _, [] => by simp [zipL]
  | x :: xs, y :: ys => by
    show (zipL xs ys).length + 1 = _
    rw [zipL_len, List.length_cons, List.length_cons]
    omega
theorem zipL_two {xs ys : List PyData} {ds : List PyData} (h : ds ∈ zipL xs ys) : ds.length = 2 := by
  obtain ⟨i, hi⟩ := List.getElem?_of_mem h
  rw [zipL_get] at hi
  split at hi
  · cases hi
    rfl
  · cases hi
theorem zipL_at {xs ys ds : List PyData} {i : Nat} (h : (zipL xs ys)[i]? = some ds) : ∃ x y, xs[i]? = some x ∧ ys[i]? = some y ∧ ds = [x, y] := by
  rw [zipL_get] at h
  split at h
  · rename_i x y e1 e2
    cases h
    exact ⟨x, y, e1, e2, rfl⟩
  · cases h
section
variable {X : Cx} {W : WX} {T : List (Addr × Str)} {δ : De} {ω : Om} {a b c elt tg iter : Expr} {pos p zp : Pos} {R : Out → Prop} {ss : List Stmt} {xs ys : List PyData} {da db : PyData}
theorem wt_zip (k1 k2 : Sk) (hm : X.mg "zip" = none) (ha : PD X δ ω a da) (hb : PD X δ ω b db) (ea : da = seqD k1 xs) (eb : db = seqD k2 ys) (hg : Gl X "zip" := by rfl) (hs1 : starEach [a, b] X.env = (false, eval a X.env) :: starEach [b] X.env := by rfl) (hs2 : starEach [b] X.env = (false, eval b X.env) :: starEach [] X.env := by rfl) (hpl : (backTo zp (starEach [b] X.env)).any (·.1) = false := by rfl) :
    PWt X δ ω tg (.Call (.Name "zip" p) [a, b] [] zp) (zipL xs ys) := by
  subst ea
  subst eb
  refine ⟨_, pi_zS (k1 := k1) (k2 := k2) hg hm (pa_cons pe_w (pa_cons pe_w pa_nil hs2) hs1) hs1 hpl, fun σ H rl R k => ha σ H rl _ fun va H0 s0 da => hb σ H0 (rl.mono s0) _ fun vb H1 s1 db => ?_⟩
  obtain ⟨qa, us, rfl, a1, a2⟩ := dp_seqD (dpm (hid_same s1) da)
  obtain ⟨qb, vs, rfl, b1, b2⟩ := dp_seqD db
  have la := dpa_len a2
  have lb := dpa_len b2
  refine ⟨qa, qb, us, vs, rfl, sqs_same hid_sub a1, sqs_same hid_sub b1, k _ H1 (s0.trans s1) fun T H2 g => ?_⟩
  have qa2 := sqs_ke g a1
  have qb2 := sqs_ke g b1
  have ln := zipL_len xs ys
  refine ⟨fun i hi => ⟨us, vs, qa2, qb2, by omega, by omega⟩, ⟨us, vs, qa2, qb2, by omega⟩, fun i y H3 hi z => ?_⟩
  obtain ⟨T1, u, v, rfl, n1, rfl, f1, f2⟩ := z
  obtain ⟨x, ex, dx⟩ := dpa_get' a2 (f1 us qa2)
  obtain ⟨y, ey, dy⟩ := dpa_get' b2 (f2 vs qb2)
  exact ⟨T1, [u, v], [x, y], rfl, n1, rfl, by rw [zipL_get, ex, ey], .cons dx (.cons dy .nil)⟩
end
end FP

namespace FP
open PySem PySem.Spec PyProof.Rows L2 HotX L2H
section
variable {K : PySem.W.Frag} {H : Hp} {σ : L2.St} {δ : De} {ω : Om} {j : Nat} {a : Addr} {o : Od} {u : HO}
end
section
variable {X : Cx} {W : WX} {T : List (Addr × Str)} {δ : De} {ω : Om} {b c e o iter elt kx vx tg : Expr} {es : List Expr} {d : PyData} {ds : List PyData} {r : Sd} {pos p p1 sp apos cpos : Pos} {R : Out → Prop} {ss : List Stmt} {a : Addr} {kvs : List (Key × Sd)} {k : Key}
variable {trs : List (TE × TE)} {Z : List (Key × Sd) → Om → Prop} {n : Int}
end
end FP

namespace FP
open PySem PySem.Spec PyProof.Rows L2 HotX L2H
section
variable {X : Cx} {W : WX} {T : List (Addr × Str)} {δ : De} {ω : Om} {a b c e : Expr} {es : List Expr} {d da : PyData} {ds : List PyData} {r : Sd} {pos p : Pos} {R : Out → Prop} {ss : List Stmt}
/-- the least and the greatest of a list of ints -/
theorem pd_minL {ns : List Int} {m : Int} (hc : X.calm = true) (hm : X.mg "min" = none) (ha : PL X δ ω a (ns.map .int)) (h1 : m ∈ ns) (h2 : ∀ y ∈ ns, m ≤ y) (hg : Gl X "min" := by rfl) (he : starEach [a] X.env = (false, eval a X.env) :: starEach [] X.env := by rfl) : PD X δ ω (.Call (.Name "min" p) [a] [] pos) (.int m) := fun σ H rl Q k =>
  we (pe_callB (cr_min hc) hg hm (by decide +kernel) (pa_cons pe_w pa_nil he) (he := he)) (ha σ H rl _ fun q vs H1 s1 g1 d1 => by
    have ev := dpa_int d1
    subst ev
    refine ⟨q, ns, rfl, g1, List.length_pos_of_mem h1, fun x hx hl => ?_⟩
    have : x = m := Int.le_antisymm (hl m h1) (h2 x hx)
    subst this
    exact k _ H1 s1 (.int _))
theorem pt_inL (h1 : SeqAt.shaped da = true) (h2 : SeqAt.shaped (.list ds) = true) (hu : X.A.units + 65 < cLine) (ha : PD X δ ω a da) (hb : PL X δ ω b ds) (hm : behindInMarks .In b = false := by rfl) : PTd X δ ω (.Compare a [.In] [b] pos) (ds.any fun z => PyData.eqv z da) := fun σ H rl Q k =>
  wt (pt_cmpR (op_inD hu) pe_w pe_w hm) (ha σ H rl _ fun x H1 s1 d1 => hb σ H1 (rl.mono s1) _ fun q vs H2 s2 g2 d2 =>
    ⟨da, ds, dpm hid_sub (dpm (hid_same s2) d1), .lst g2 (dpam hid_sub d2), h1, h2, _, rfl, k H2 (s1.trans s2)⟩)
end
end FP

namespace FP
open PySem PySem.Spec PyProof.Rows L2 HotX L2H
section
variable {X : Cx} {δ : De} {ω : Om} {o : Expr} {pos p : Pos} {a : Addr} {kvs : List (Key × Sd)}
end
end FP

namespace FP
open PySem PySem.Spec PyProof.Rows L2 HotX L2H
section
variable {X : Cx} {W : WX} {T : List (Addr × Str)} {δ : De} {ω : Om} {a b e : Expr} {es r : List Expr} {d da db : PyData} {ds : List PyData} {pos p : Pos}
end
end FP

namespace FP
open PySem PySem.Spec PyProof.Rows L2 HotX L2H
section
variable {prog : Program} {w : World} {A : Around} {R : Result → Shared → Prop} {I : Addr} {fp wr : List Addr} {G : Array GenState → Array GenState → Prop} {n : Nat} {P : Nat → Value → Prop} {St : Nat → Shared → Prop}
/-- what the set's loop asks of what comes next -/
theorem set_turn {S : Addr} {s : Shared} (h : wpAny (model prog w) A.in1 (pyNext (.ref I)) (fun r s1 => match r with
      | none => R (.ok (.ret .none)) s1
      | some v => wpAny (model prog w) A.in1 (setAdd S v) (fun _ s2 => codeAny (model prog w) A (.builtin "set.update.loop" ⟨[.ref S, .ref I], []⟩) R s2) (fun e s' => R (.error e) s') s1)
      (fun e s' => R (.error e) s') s) : codeAny (model prog w) A (.builtin "set.update.loop" ⟨[.ref S, .ref I], []⟩) R s := by
  apply codeAny_builtin F.entry_set_update_loop
  rw [Around.under_plainId F.plain_set_update_loop]
  refine wpAny_bind (wpAny_mono h (fun r s1 h1 => ?_) fun _ _ z => z)
  cases r with
  | none => exact wpAny_pure h1
  | some v => exact wpAny_bind (wpAny_holding (wpAny_mono h1 (fun _ s2 h2 => wpAny_pure ⟨plainId_quiet F.plain_set_update_loop _, h2⟩) fun _ _ z => z))
end
section
variable {prog : Program} {w : World} {A : Around} {E : Value → Shared → Prop} {s : Shared}
abbrev bareSet (led : Bool) : Obj := { cls := .type "set", dict := none, data := .set #[] 0 (.fresh 0 0 led) }
abbrev walkOf (l : Addr) : Obj := { cls := .type "list_iterator", data := .fields #[.ref l, .int 0 0] }
/-- a set begins with a list: all rests on the loop -/
theorem set_started {l : Addr} {items : Array Value} {led : Bool} {Post : Shared → Prop} (hl : s.heap.IsList l items)
    (loop : codeAny (model prog w) A.in1 (.builtin "set.update.loop" ⟨[.ref s.heap.objs.size, .ref (s.heap.push (bareSet led)).objs.size], []⟩) (wants (fun _ s2 => Post s2) E) { s with heap := (s.heap.push (bareSet led)).push (walkOf l) }) :
    codeAny (model prog w) A (.call (.builtin "set.__init__") ⟨[.ref s.heap.objs.size, .ref l], []⟩) (wants (fun r s2 => r = .none ∧ Post s2) E) { s with heap := s.heap.push (bareSet led) } := by
  have isSet : Shared.TypeIs { s with heap := s.heap.push (bareSet led) } (.ref s.heap.objs.size) "set" := ⟨_, Heap.get?_push_size _ rfl, rfl⟩
  refine codeAny_call_builtin PySem.F.called_set.init.plain PySem.F.entry_set_init (check_set_init_1 isSet ?_)
  have still : (s.heap.push (bareSet led)).IsList l items := hl.push _
  rcases hl with ⟨⟨c, dd, da, sl⟩, at_, isL, nl, isS⟩
  cases show c = _ from isL
  cases show da = _ from isS
  have at1 := Heap.get?_push_of_some (bareSet led) at_
  have no1 := PySem.F.sub_list_set
  have no2 := PySem.F.sub_list_frozenset
  have no3 : (Value.type "list" == Value.type "dict") = false := rfl
  delta Builtin.«set.__init__» Builtin.Frozenset.updateFrom noKeywords
  generalize hold : pyIter = held
  wp_walk
  cases hold
  refine wpAny_pyIter_list still (wpAny_bind (wpAny_runValue (codeAny_mono loop fun r s2 told => ?_)))
  match r, told with
  | .error e, told => exact told
  | .ok (.ret v), told => exact wpAny_pure (wpAny_pure ⟨rfl, told⟩)
/-- set(x) for any x with which a set can begin -/
theorem set_called {x : Value} {Post : Shared → Prop} {Q : Value → Shared → Prop}
    (begins : ∀ led, codeAny (model prog w) A.in1 (.call (.builtin "set.__init__") ⟨[.ref s.heap.objs.size, x], []⟩) (wants (fun r s2 => r = .none ∧ Post s2) E) { s with heap := s.heap.push (bareSet led) })
    (q : ∀ s2, Post s2 → Q (.ref s.heap.objs.size) s2) : wpAny (model prog w) A (call (.type "set") [x]) Q E s := by
  have made := code_set_new_1 (prog := prog) (w := w) (A := A.in1) (s := s) x (E := E) (Q₁ := fun u s1 => ∃ led : Bool, u = .ref s.heap.objs.size ∧ s1 = { s with heap := s.heap.push (bareSet led) }) fun led => ⟨led, rfl, rfl⟩
  rcases PySem.F.called_set with ⟨no1, no2, ⟨_, _, line⟩, by_, _, self_, init⟩
  have one := PySem.F.typeCall_set_1 x
  apply wpAny_call
  apply codeAny_of_tree
  refine wpAny_pure (a := Fin.again (.builtin "type.__call__" ⟨[.type "set", x], []⟩)) ⟨Code.quiet_builtin _ (by decide +kernel), codeAny_builtin PySem.F.entry_type_call ?_⟩
  rw [Around.under_plain (weight_type_call_type "set" [x] []) rfl]
  repeat (any_goals (first | assumption | wp_step))
  refine codeAny_mono made fun r s1 told => ?_
  match r, told with
  | .error e, told => exact told
  | .ok (.ret _), ⟨led, e1, e2⟩ =>
    cases e1
    cases e2
    have isSet : Shared.TypeIs { s with heap := s.heap.push (bareSet led) } (.ref s.heap.objs.size) "set" := ⟨_, Heap.get?_push_size _ rfl, rfl⟩
    have find := init.lookup
    have bound := init.bind (.ref s.heap.objs.size)
    repeat (any_goals (first | assumption | wp_step))
    refine codeAny_mono (begins led) fun r2 s2 told2 => ?_
    match r2, told2 with
    | .error e, told2 => exact told2
    | .ok (.ret _), ⟨rfl, m⟩ =>
      repeat (any_goals (first | assumption | wp_step))
      exact q _ m
end
end FP

namespace FP
open PySem PySem.Spec PyProof.Rows L2 HotX L2H
section
variable {X : Cx} {δ : De} {ω : Om} {a : Expr} {p p2 q pos : Pos}
end
end FP

namespace FP
open PySem PySem.Spec PyProof.Rows L2 HotX L2H
section
variable {X : Cx} {W : WX} {T : List (Addr × Str)} {δ : De} {ω : Om} {a b e o : Expr} {es : List Expr} {d : PyData} {pos p : Pos} {k : Nat} {x y : Str} {rs : List Sd} {fr : FrG} {R : Out → Prop} {ss : List Stmt}
end
end FP

namespace FP
open PySem PySem.Spec PyProof.Rows L2 HotX L2H
section
variable {X : Cx} {W : WX} {T : List (Addr × Str)} {δ : De} {ω : Om} {a b : Expr} {ds : List PyData} {pos : Pos}
end
end FP

namespace FP
open PySem PySem.Spec PyProof.Rows L2 HotX L2H
section
variable {X : Cx} {δ : De} {ω : Om} {a : Expr} {d : PyData} {ds : List PyData} {pos p : Pos}
end
end FP

namespace FP
open PySem PySem.Spec PyProof.Rows L2 HotX L2H
section
variable {X : Cx} {W : WX} {T : List (Addr × Str)} {δ : De} {ω : Om} {b e o : Expr} {d : PyData} {pos lp ap cp : Pos} {k : Key} {z : Addr} {j : Nat} {kvs : List (Key × Sd)} {R : Out → Prop} {ss : List Stmt}
end
end FP

namespace FP
open PySem PySem.Spec PyProof.Rows L2 HotX L2H
section
variable {X : Cx} {W : WX} {T : List (Addr × Str)} {δ : De} {ω : Om} {o e iter tg kx vx elt : Expr} {es : List Expr} {d : PyData} {a : Addr} {kvs : List (Key × Sd)} {pos p p2 : Pos} {R : Out → Prop} {ss : List Stmt}
theorem pn_lcT2 {scope : Scope} {n1 n2 : Str} {j1 j2 : Nat} {kk : Nat} {tp : Pos} {items : List (List PyData)} {zs : List PyData} (hc : X.calm = true) (hN : X.N.Nodup) (hw : PWt X δ ω (.Tuple es kk tp) iter items) (h2 : ∀ ds ∈ items, ds.length = 2) (hl : zs.length = items.length) (hz : items.length ≤ 10000)
    (ok : BlkOk X.N X.env.scope scope [(n1, j1), (n2, j2)]) (hg : ∀ (s : Shared) (H : Hp) (C : Addr) (cl : List (Str × Addr)) (fp : List Addr), PG (X.blk s H scope (compEnvC scope cl C X.env) fp) (.Tuple es kk tp) (gTup X.K 2 (gAll [j1, j2])))
    (he : ∀ (i : Nat) (l m z : PyData), items[i]? = some [l, m] → zs[i]? = some z → ∀ D o (s : Shared) (H : Hp) (C : Addr) (cl : List (Str × Addr)) (fp : List Addr), PD (X.blk s H scope (compEnvC scope cl C X.env) fp) (((wipeD δ [j1, j2]).set j1 (some (.im l))).set j2 (some (.im m))) (omD ω D o) elt z)
    (hs : ∀ x, foldedSetIterable iter X.env x = pure x := by intro _; rfl) : PN X δ ω (.ListComp elt [⟨.Tuple es kk tp, iter, [], 0⟩] scope pos) zs := fun σ H rl Q k => by
  obtain ⟨wi, h1, hw⟩ := hw
  refine we (pe_lc (own := [(n1, j1), (n2, j2)]) hc hN h1 ok hg (fun _ _ _ _ _ => pts_nil) (fun s H0 C cl fp => pe_blk s H0 C cl fp) hs) ?_
  refine hw σ H rl _ fun J H1 s1 w => fun D hD => ?_
  have rl1 := rl.mono s1
  refine ⟨fun i m H2 => m = items.length - i ∧ i ≤ items.length ∧ Same H1 H2 ∧ ∃ vs, H2 D = some (.lst vs) ∧ DpAll X.K (hid (ads (omD ω D (.lst ((zs.take i).map .im)))) H2) vs (zs.take i), ⟨items.length, by omega, Nat.zero_le _, same_new hD, [], upd_same, by rw [List.take_zero]; exact .nil⟩, ?_⟩
  rintro i m H2 ⟨em, hi, s2, vs, hv, dv⟩
  obtain ⟨go, stop, yld⟩ := w [] H2 (ke_same ((hid_same s2).trans hid_sub))
  by_cases hlt : i < items.length
  · have ez : zs[i]? = some zs[i] := List.getElem?_eq_getElem (by omega)
    refine .inr ⟨go i hlt, fun H3 => Same H1 H3 ∧ ∃ vs, H3 D = some (.lst vs) ∧ DpAll X.K (hid (ads (omD ω D (.lst ((zs.take (i + 1)).map .im)))) H3) vs (zs.take (i + 1)), fun H3 ⟨s3, h3⟩ => ⟨items.length - (i + 1), by omega, rfl, hlt, s3, h3⟩, fun x H3 hy => ?_⟩
    obtain ⟨T1, us, ds, rfl, n1, rfl, ed, du⟩ := yld i x H3 hlt hy
    have l2 := h2 ds (List.mem_of_getElem? ed)
    match ds, l2, du, ed with
    | [x1, x2], _, du, ed =>
      cases du with
      | cons c3 c4 =>
        cases c4 with
        | cons c5 c6 =>
          cases c6
          rename_i w1 w2
          have sn : Same H2 (upd H2 T1 (.tup [w1, w2])) := same_new n1
          refine ⟨T1, [w1, w2], rfl, SqT.of upd_same, rfl, ?_⟩
          refine ⟨w1, _, rfl, ?_⟩
          refine ⟨w2, [], rfl, ?_⟩
          refine ⟨rfl, ?_, ?_⟩
          · rw [wipe_mem (by simp), wipe_mem (by simp), wipe_wipe (fun v h => h)]
          · have rl3 := (rl1.omD hD s2 hv dv).mono sn
            have rl4 := rl_wipe rl3 [j1, j2]
            have up : Same (hid (ads ω) H1) (hid (ads (omD ω D (.lst ((zs.take i).map .im)))) (upd H2 T1 (.tup [w1, w2]))) := (hid_in (ω := ω) (o := .lst ((zs.take i).map .im)) hD s2).trans (hid_same sn)
            have rl5 := (rl4.set (i := j1) (x := .im x1) (v := w1) (dpm up c3)).set (i := j2) (x := .im x2) (v := w2) (dpm up c5)
            intro s H0 C cl fp
            refine he i x1 x2 zs[i] ed ez D _ s H0 C cl fp _ _ rl5 _ fun v H4 s4 d4 => ⟨vs, s4 D _ (sn D _ hv), ?_, same_upd_new hD (s2.trans (sn.trans s4)), vs ++ [v], upd_same, ?_⟩
            · rw [dpa_len dv, List.length_take]
              refine Nat.lt_of_le_of_lt (Nat.min_le_left _ _) (Nat.lt_of_lt_of_le hlt (Nat.le_trans hz ?_))
              rw [sizeLine_eq]
              decide
            · rw [List.take_add_one, ez]
              exact dpa_app (dpam hid_upd (dpam (hid_same (sn.trans s4)) dv)) (.cons (dpm hid_upd d4) .nil)
  · have e : i = items.length := by omega
    subst e
    refine .inl ⟨stop, ?_⟩
    rw [List.take_of_length_le (by omega)] at dv
    exact k D vs H2 (s1.trans s2) (s1.free hD) hv (dpam (hid_more fun b h => ads_omD.mpr (List.mem_cons.mp h)) dv)
theorem AX.perm {Z : List Sd → Om → Prop} {ps : List Addr} {os os' : Os} (hp : os.Perm os') (h : AX X T δ ⟨ps, os'⟩ es Z) : AX X T δ ⟨ps, os⟩ es Z := fun σ H rl t Q k =>
  h σ H (rl.permO hp) t Q fun rs ω' vs H' z st l pr => k rs ω' vs H' z (stp_permL hp st) l pr
end
end FP

namespace FP
open PySem PySem.Spec PyProof.Rows L2 HotX L2H
section
variable {X : Cx} {W : WX} {T : List (Addr × Str)} {δ : De} {ω : Om} {a b e : Expr} {pos p : Pos}
end
end FP

namespace FP
open PySem PySem.Spec PyProof.Rows L2 HotX L2H
section
variable {X : Cx} {W : WX} {T : List (Addr × Str)} {δ : De} {ω : Om} {o b : Expr} {pos p ap cp : Pos} {z : Addr} {kvs : List (Key × Sd)}
end
end FP

namespace FP
open PySem PySem.Spec PyProof.Rows L2 HotX L2H
section
variable {X : Cx} {W : WX} {T : List (Addr × Str)} {δ : De} {ω : Om} {a b o : Expr} {pos p apos : Pos} {z y : Str} {n : Int}
end
end FP

namespace FP
open PySem PySem.Spec PyProof.Rows L2 HotX L2H
section
variable {X : Cx} {W : WX} {T : List (Addr × Str)} {δ : De} {ω : Om} {a b : Expr} {ss : List Stmt} {pos : Pos} {R : Out → Prop} {Z : Addr} {d : PyData}
end
end FP

namespace FP
open PySem PySem.Spec PyProof.Rows L2 HotX L2H
section
variable {X : Cx} {W : WX} {T : List (Addr × Str)} {δ : De} {ω : Om} {a b c e : Expr} {es : List Expr} {d : PyData} {ds : List PyData} {pos p apos : Pos} {R : Out → Prop} {ss sa : List Stmt} {z y : Str} {ts : List TE} {acc out : Str}
def TurnW (inv : Nat → De → Om → Prop) (m : Nat) (B R : Out → Prop) : Out → Prop
  | .nx δ ω => ∃ j, j < m ∧ inv j δ ω
  | .ct δ ω => ∃ j, j < m ∧ inv j δ ω
  | .bk δ ω => B (.nx δ ω)
  | o => R o
theorem sd_while (inv : Nat → De → Om → Prop) (m0 : Nat) (h0 : inv m0 δ ω)
    (ht : ∀ m δ' ω', inv m δ' ω' → ∃ k, PTd X δ' ω' c k ∧ (k = true → SD X W T sa δ' ω' (TurnW inv m (Nxt X W T ss R) R)) ∧ (k = false → SD X W T ss δ' ω' R)) (hp : PassesOwn (model X.prog X.w) X.A X.env X.xe) : SD X W T (.While c sa [] pos :: ss) δ ω R := by
  refine sd_cons fun σ H D rl t k => ws (ps_while hp pt_w pss_w) ⟨fun m σ' H' => ∃ δ' ω', inv m δ' ω' ∧ Stp T ω ω' H H' ∧ Rl X.K H' σ' δ' ω', ⟨m0, δ, ω, h0, .refl, rl⟩, ?_⟩
  rintro m σ' H' ⟨δ', ω', iv, st, rl'⟩
  obtain ⟨b, hc, h1, h2⟩ := ht m δ' ω' iv
  refine hc σ' H' rl' _ fun H1 s1 => ?_
  have st1 : Stp T ω ω' H H1 := st.trans (.of s1)
  have k2 := k.step st1
  cases b with
  | true =>
    refine iteT ⟨fun σ2 H2 => ∃ j δ2 ω2, j < m ∧ inv j δ2 ω2 ∧ Stp T ω ω2 H H2 ∧ Rl X.K H2 σ2 δ2 ω2, fun σ2 H2 ⟨j, δ2, ω2, lt, a1, a2, a3⟩ => ⟨j, lt, δ2, ω2, a1, a2, a3⟩, ?_⟩
    refine h1 rfl σ' H1 _ (rl'.mono s1) (st1.tab t) ?_
    exact ⟨fun δ2 ω2 σ2 H2 z q l => (let ⟨j, lt, iv⟩ := z; ⟨j, δ2, ω2, lt, iv, st1.trans q, l⟩), fun r ω2 v H2 z q l dv => k2.rt r ω2 v H2 z q l dv, fun C ω2 σ2 H2 z q l => k2.ex C ω2 σ2 H2 z q l, fun δ2 ω2 σ2 H2 z q l => k2.nx δ2 ω2 σ2 H2 z q l, fun δ2 ω2 σ2 H2 z q l => (let ⟨j, lt, iv⟩ := z; ⟨j, δ2, ω2, lt, iv, st1.trans q, l⟩)⟩
  | false => exact iteF (k2.nx δ' ω' σ' H1 (h2 rfl) .refl (rl'.mono s1))
end
end FP

namespace FP
open PySem PySem.Spec PyProof.Rows L2 HotX L2H
section
variable {X : Cx} {W : WX} {T : List (Addr × Str)} {δ : De} {ω : Om} {a b e : Expr} {ds : List PyData} {pos : Pos} {R : Out → Prop} {ss : List Stmt}
end
end FP

namespace FP
open PySem PySem.Spec PyProof.Rows L2 HotX L2H
def SDT (X : Cx) (W : WX) (T : List (Addr × Str)) (ss : List Stmt) (δ : De) (ω : Om) (R : Out → Prop) : Prop :=
  ∃ t, PSsT X ss t ∧ ∀ σ H D, Rl X.K H σ δ ω → LamX.Tabs T H → Kt X W T ω H D R → t D σ H
section
variable {X : Cx} {W : WX} {T : List (Addr × Str)} {δ : De} {ω : Om} {c o : Expr} {ss : List Stmt} {R : Out → Prop} {z y v : Str} {apos pos p1 p2 p3 : Pos} {j k : Nat}
theorem SD.t (h : SD X W T ss δ ω R) : SDT X W T ss δ ω R := ⟨_, PSsT.of pss_w, h⟩
end
end FP

namespace FP
open PySem PySem.Spec PyProof.Rows L2 HotX L2H
section
variable {X : Cx} {δ : De} {ω : Om} {tg : Expr} {n : Str} {A : Addr} {zs : List Str} {p : Pos}
end
end FP

namespace FP
open PySem PySem.Spec PyProof.Rows L2 HotX L2H
end FP

namespace FP
open PySem PySem.Spec PyProof.Rows L2 HotX L2H
section
variable {X : Cx} {δ : De} {ω : Om} {b : Expr} {n z : Str} {A : Addr} {p2 apos cpos : Pos} {r : Option Value} {d : PyData}
end
end FP

namespace FP
open PySem PySem.Spec PyProof.Rows L2
section
variable {X : Cx} {W : WX} {T : List (Addr × Str)} {δ : De} {ω : Om} {e o : Expr} {es : List Expr} {d d1 d2 : PyData} {ds : List PyData} {pos p p1 apos : Pos} {R : Out → Prop} {ss : List Stmt} {a C : Addr} {fs fs' : Fs} {f x m : Str} {k : Nat} {z : Str}
end
end FP

namespace FP
open PySem PySem.Spec PyProof.Rows L2
section
variable {X : Cx} {W : WX} {T : List (Addr × Str)} {δ : De} {ω : Om} {a b c e o : Expr} {es : List Expr} {d : PyData} {ds : List PyData} {r : Sd} {pos p p1 apos cpos : Pos} {R : Out → Prop} {ss : List Stmt} {z C : Addr} {fs fs' : Fs} {m : Str} {k : Nat} {xs : List Sd}
end
end FP

namespace FP
open PySem PySem.Spec PyProof.Rows L2 HotX L2H
section
variable {X : Cx} {pins qins : List (Addr × Obj)} {σ : L2.St} {H : Hp} {s : Shared}
/-- what a caught exception is: its record, its traceback -/
structure Cau (X : Cx) (cls : Value) (d : Option Addr) (a : Addr) (oe : Obj) (T : Addr) (oT : Obj) : Prop where
  z : L2N.Zn cls d oe
  vs : ∃ vs, oe.data = .fields vs ∧ vs[1]? = some (.ref T)
  ne : T ≠ a
  ts : ∃ ts, oT.data = .fields ts ∧ ts[3]? = some .none
  a0 : X.s_0.heap.get? a = none
  T0 : X.s_0.heap.get? T = none
end
section
variable {X : Cx} {W : WX} {T : List (Addr × Str)} {δ : De} {ω : Om} {e tgt : Expr} {R : Out → Prop} {ss : List Stmt} {Z : Addr} {c : Value} {x : Str} {b₀ : Stmt} {np pos pos' rp apos : Pos} {g : TG}
end
end FP

namespace FP
open PySem PySem.Spec PyProof.Rows L2 HotX L2H
section
variable {X : Cx} {W : WX} {T : List (Addr × Str)} {δ : De} {ω : Om} {a b e : Expr} {pos p : Pos} {k : Nat} {x : Str} {R : Out → Prop} {ss : List Stmt} {Z : Addr} {fr : FrG} {r1 : Sd}
end
end FP

namespace FP
open PySem PySem.Spec PyProof.Rows L2 HotX L2H
abbrev envB (X : Cx) (s : Shared) (scope : Scope) : Env := compEnvC scope (cellsFrom (s.heap.objs.size + 1) scope.names (cloFrom X.env.cells scope.names [])) s.heap.objs.size X.env
abbrev cxB (X : Cx) (s : Shared) (H : Hp) (scope : Scope) (fp : List Addr) : Cx := X.blk s H scope (envB X s scope) fp
/-- the walk stands at i, n is left -/
structure AtTurn (X : Cx) (s : Shared) (H0 : Hp) (scope : Scope) (fp : List Addr) (σ0 : L2.St) (tn : Nat → Heap → Prop) (Wm : Nat → Nat → Hp → Prop) (i n : Nat) (H : Hp) (now : Shared) : Prop where
  inv : Inv (cxB X s H0 scope fp) [] σ0 H now
  at_ : tn i now.heap
  none : ∀ b ∈ fp, H b = none
  left : Wm i n H
section
variable {X : Cx} {s : Shared} {H0 : Hp} {scope : Scope} {fp : List Addr} {σ0 : L2.St} {tn : Nat → Heap → Prop} {Wm : Nat → Nat → Hp → Prop} {i n : Nat} {H : Hp} {now : Shared}
/-- a turn's end -/
theorem AtTurn.next {P : Program} {w : World} {K : PySem.W.Frag} {tg : Expr} {J : It} {it : Addr} {vs : List Nat} {σ σ8 : L2.St} {mid : Heap} {H' : Hp} {s' : Shared} {m : Nat} (T : Turn P w K tg J fp it tn)
    (I : Inv (cxB X s H0 scope fp) ([] ++ pinsAt fp mid) σ8 H' s') (e : wipe σ8 vs = wipe σ vs) (st : tn (i + 1) mid) (left : Wm (i + 1) m H') : AtTurn X s H0 scope fp (wipe σ vs) tn Wm (i + 1) m H' s' := by
  have stays : ∀ b ∈ fp, ∀ o, mid.get? b = some o → s'.heap.get? b = some o ∧ H' b = .none := fun b hb o g =>
    have p := I.pin (b, o) (List.mem_append_right _ (List.mem_append_right _ (mem_pinsAt hb g)))
    ⟨p.1, p.2.1⟩
  refine ⟨?_, T.keep _ _ _ st fun b hb o g => (stays b hb o g).1, fun b hb => ?_, left⟩
  · refine I.unpinned.weak ?_ fun j v q => ?_
    · rw [← e]
      exact wipe_length _ _
    · exact (wipe_some (e ▸ q)).1
  · rcases T.obj _ _ st b hb with ⟨o, g, _⟩
    exact (stays b hb o g).2
end
section
variable {X : Cx} {W : WX} {δ : De} {ω : Om} {tg iter : Expr} {pos p : Pos} {k : Nat} {x : Str}
end
end FP

namespace FP
open PySem PySem.Spec PyProof.Rows L2 HotX L2H
section
variable {X : Cx} {W : WX} {T : List (Addr × Str)} {δ : De} {ω : Om} {o e b : Expr} {pos p ap cp : Pos} {z : Addr} {kvs : List (Key × Sd)} {ds : List PyData}
end
end FP
namespace FP
open PySem PySem.Spec PyProof.Rows L2 HotX L2H
section
variable {X : Cx} {W : WX} {T : List (Addr × Str)} {δ : De} {ω : Om} {c o2 iter tg : Expr} {pos p1 p2 p3 p4 : Pos} {a : Addr}
end
end FP

namespace FP
open PySem PySem.Spec PyProof.Rows L2 HotX L2H
section
variable {X : Cx} {W : WX} {T : List (Addr × Str)} {δ : De} {ω : Om} {e : Expr} {es : List Expr} {pos p1 apos : Pos} {z C : Addr} {fs : Fo} {x m : Str} {k : Nat} {fr : FrG}
end
section
variable {X : Cx} {W : WX} {T : List (Addr × Str)} {δ : De} {ω : Om} {e : Expr}
end
section
variable {X : Cx} {W : WX} {T : List (Addr × Str)} {δ : De} {ω : Om} {a b c iter tg : Expr} {pos : Pos} {R : Out → Prop} {ss sa : List Stmt}
end
section
variable {X : Cx} {T : List (Addr × Str)} {δ : De} {ω : Om} {o b : Expr} {pos : Pos} {a : Addr}
end
section
variable {X : Cx} {W : WX} {T : List (Addr × Str)} {δ : De} {ω : Om} {e : Expr}
theorem hid_perm {ps : List Addr} {os os' : Os} {H : Hp} (hp : os.Perm os') : hid (ads ⟨ps, os⟩) H = hid (ads ⟨ps, os'⟩) H := by
  funext b
  have m : b ∈ ads ⟨ps, os⟩ ↔ b ∈ ads ⟨ps, os'⟩ := by
    show b ∈ ps ++ os.map (·.1) ↔ b ∈ ps ++ os'.map (·.1)
    rw [List.mem_append, List.mem_append, (hp.map _).mem_iff]
  unfold hid
  by_cases c : b ∈ ads ⟨ps, os⟩
  · rw [if_pos c, if_pos (m.mp c)]
  · rw [if_neg c, if_neg (fun z => c (m.mpr z))]
theorem stp_permR {H H' : Hp} {ps : List Addr} {os os' : Os} (hp : os.Perm os') (st : Stp T ω ⟨ps, os⟩ H H') : Stp T ω ⟨ps, os'⟩ H H' := ⟨st.keep, fun a ha => st.new a ((hp.map _).mem_iff.mpr ha), st.ps, st.tab⟩
end
section
variable {X : Cx} {T : List (Addr × Str)} {δ : De} {ω : Om} {e : Expr} {trs : List (TE × TE)} {Z : List (Key × Sd) → Om → Prop} {jk : Nat} {kp : Pos} {z : Str}
end
end FP

namespace FP
open PySem PySem.Spec PyProof.Rows L2 HotX L2H
section
variable {X : Cx}
variable {a b : Expr} {rest : List Expr} {pos : Pos} {ta tb : TE}
end
section
variable {X : Cx} {W : WX} {T : List (Addr × Str)} {δ : De} {ω : Om} {a b c e o : Expr} {r : List Expr} {d da db : PyData} {ds : List PyData} {pos ap cp : Pos} {z : Addr} {kvs : List (Key × Sd)} {k : Key}
end
end FP

namespace FP
open PySem PySem.Spec PyProof.Rows L2 HotX L2H
section
variable {X : Cx} {W : WX} {T : List (Addr × Str)} {δ : De} {ω : Om} {a b e o ke : Expr} {es : List Expr} {d : PyData} {pos p : Pos} {k : Nat} {x y : Str} {rs : List Sd} {fr : FrG} {R : Out → Prop} {ss : List Stmt} {trs : List (TE × TE)}
end
section
variable {X : Cx} {W : WX} {T : List (Addr × Str)} {δ : De} {e : Expr} {es : List Expr} {pos p p1 apos : Pos} {z C : Addr} {fs : Fo} {x m : Str} {k : Nat} {fr : FrG} {R : Out → Prop} {rs : List Sd}
end
section
variable {X : Cx} {W : WX} {T : List (Addr × Str)} {δ : De} {ω : Om} {pos : Pos} {R : Out → Prop} {trs : List (TE × TE)}
end
section
variable {X : Cx} {T : List (Addr × Str)} {δ : De} {ω : Om} {es : List Expr}
end
end FP

namespace FP
open PySem PySem.Spec PyProof.Rows L2 HotX L2H
section
variable {prog : Program} {w : World} {κ : Type} [DecidableEq κ] {knd : KeyKind prog w κ} {A : Around} {E : Value → Shared → Prop} {s : Shared}
end
section
variable {X : Cx} {T : List (Addr × Str)} {δ : De} {oe ke ve : Expr} {pos : Pos} {a : Addr} {kvs : List (Key × Sd)} {z : Str} {r : Sd}
end
end FP

namespace FP
open PySem PySem.Spec PyProof.Rows L2 HotX L2H
section
variable {X : Cx} {W : WX} {T : List (Addr × Str)} {δ : De} {ω : Om} {o kx vx : Expr} {pos cpos apos ipos : Pos} {R : Out → Prop} {ss : List Stmt} {a : Addr}
end
end FP

namespace FP
open PySem PySem.Spec PyProof.Rows L2 HotX L2H
section
variable {X : Cx} {δ : De} {ω : Om} {a b c : Expr} {pos : Pos}
end
section
variable {X : Cx} {W : WX} {T : List (Addr × Str)} {δ : De} {e : Expr} {es : List Expr} {pos p : Pos} {x : Str} {k : Nat} {fr : FrG} {R : Out → Prop} {rs : List Sd}
end
end FP

namespace FP
open PySem PySem.Spec PyProof.Rows L2 HotX L2H
def spGT (K : PySem.W.Frag) (T : List (Addr × Str)) (fr : FrG) : Sp := fun vs H Q E => ∃ (os : Os) (as : List Sd) (R : Rg → Os → Prop), Ro K H ⟨[], os⟩ ∧ Paired (SdV K (hid (ads ⟨[], os⟩) H)) as vs ∧ fr os as R ∧ LamX.Tabs T H ∧
  ∀ r os' H', R r os' → Stp T ⟨[], os⟩ ⟨[], os'⟩ H H' → Ro K H' ⟨[], os'⟩ → RgQ K [] os' H' Q E r
structure GOkT (P : Program) (w : World) (K : PySem.W.Frag) (mg : Str → Option Value) (base : Heap) (T : List (Addr × Str)) (k : Nat) (x : Str) (fr : FrG) : Prop where
  ex : ∃ f fd ps, FnOk P w K mg base (L2N.CX P w) k f fd ps (spGT K T fr) ∧ mg x = some (.ref f) ∧ PySem.W.keepIn K (.ref f) = true ∧ L2.Binds K fd ps []
theorem GOkT.mono {P : Program} {w : World} {K : PySem.W.Frag} {mg : Str → Option Value} {base : Heap} {T : List (Addr × Str)} {j k : Nat} {x : Str} {fr : FrG} (G : GOkT P w K mg base T j x fr) (h : j ≤ k) : GOkT P w K mg base T k x fr := by
  obtain ⟨f, fd, ps, F, m, kp, b⟩ := G.ex
  exact ⟨f, fd, ps, F.mono h, m, kp, b⟩
section
variable {P : Program} {w : World} {K : PySem.W.Frag} {mg : Str → Option Value} {base : Heap} {x qual : Str} {params : Arguments} {body : List Stmt} {scope : Scope} {f C : Addr} {fd : FuncData} {N ps : List Str} {k : Nat} {fr : FrG} {T : List (Addr × Str)}
end
section
variable {X : Cx} {W : WX} {T : List (Addr × Str)} {δ : De} {e : Expr} {es : List Expr} {pos p : Pos} {x : Str} {k : Nat} {fr : FrG} {R : Out → Prop} {rs : List Sd} {ss : List Stmt}
end
section
variable {X : Cx} {W : WX} {T : List (Addr × Str)} {δ : De} {e : Expr} {es : List Expr} {pos p p1 apos : Pos} {z C : Addr} {fs : Fo} {x m : Str} {k : Nat} {fr : FrG} {R : Out → Prop} {rs : List Sd}
end
end FP

namespace FP
open PySem PySem.Spec PyProof.Rows L2 HotX L2H
section
variable {X : Cx} {W : WX} {T : List (Addr × Str)} {δ : De} {ω ω1 : Om} {a b c e o iter tg : Expr} {es : List Expr} {d : PyData} {ds : List PyData} {r : Sd} {rs : List Sd} {pos p p1 apos : Pos} {R : Out → Prop} {ss sa sb : List Stmt} {x m : Str} {k : Nat} {Z : PyData → Om → Prop}
end

/-- an expression, while the dict at a is locked and has kvs; the objects stay as they are -/
def LE (X : Cx) (T : List (Addr × Str)) (δ : De) (ω : Om) (a : Addr) (kvs : List (Key × Sd)) (e : Expr) (d : PyData) : Prop := ∀ σ H, Rl X.K H σ δ ω → LamX.Tabs T H → ∀ od vs, H a = some (.frz od (.dK vs)) → KvP X.K (hid (ads ω) H) kvs vs →
  ∀ Q : VK, (∀ v H', Stp T ω ω H H' → Rl X.K H' σ δ ω → Dp X.K (hid (ads ω) H') v d → Q v H') → wpe X e σ H Q
section
variable {X : Cx} {T : List (Addr × Str)} {δ : De} {ω : Om} {iter tg elt : Expr} {pos : Pos} {a : Addr}
end
section
variable {X : Cx} {T : List (Addr × Str)} {δ : De} {a1 b o2 e1 e2 : Expr} {pos p p3 : Pos} {a : Addr} {kvs : List (Key × Sd)} {x : Str} {k : Nat} {fr : FrG} {d d1 d2 da db dz : PyData} {key : Key} {r : Sd} {ω : Om}
end
section
variable {X : Cx} {T : List (Addr × Str)} {δ : De} {ω : Om} {e : Expr} {a : Addr} {kvs : List (Key × Sd)} {d : PyData} {R : Out → Prop} {W : WX} {p pos : Pos}
theorem LE.perm {ps : List Addr} {os os' : Os} (hp : os.Perm os') (h : LE X T δ ⟨ps, os'⟩ a kvs e d) : LE X T δ ⟨ps, os⟩ a kvs e d := fun σ H rl t od vs la pr Q q =>
  h σ H (rl.permO hp) t od vs la (by rw [← hid_perm hp]; exact pr) Q fun v H' st l dv => q v H' (stp_permL hp (stp_permR hp.symm st)) (l.permO hp.symm) (by rw [hid_perm hp]; exact dv)
end
end FP

namespace FP
open PySem PySem.Spec PyProof.Rows L2 HotX L2H
section
variable {X : Cx} {W : WX} {T : List (Addr × Str)} {δ : De} {ω : Om} {e : Expr} {R : Out → Prop} {ss : List Stmt}
end
end FP

namespace FP
open PySem PySem.Spec PyProof.Rows L2
section
variable {X : Cx} {W : WX} {T : List (Addr × Str)} {δ : De} {ω : Om} {a iter : Expr} {pos : Pos} {R : Out → Prop} {ss sa : List Stmt} {ds : List PyData}
theorem ZE.ye {e : Expr} {d : PyData} {ω1 : Om} (h : ZE X T δ ω e (fun d' ω' => d' = d ∧ ω' = ω1)) : YE X T δ ω e d ω1 := fun σ H rl t Q q => h σ H rl t Q fun d' ω' v H' z s l dv => by
  obtain ⟨rfl, rfl⟩ := z
  exact q v H' s l dv
end
end FP

namespace FP
open PySem PySem.Spec PyProof.Rows L2
section
variable {X : Cx} {W : WX} {T : List (Addr × Str)} {δ : De} {ω : Om} {e : Expr} {pos : Pos} {R : Out → Prop} {ss : List Stmt} {z C : Addr}
end
end FP

namespace FP
open PySem PySem.Spec PyProof.Rows L2
section
variable {X : Cx} {W : WX} {T : List (Addr × Str)} {δ : De} {ω : Om} {a b e : Expr} {es r : List Expr} {pos : Pos} {R : Out → Prop}
end
end FP

namespace FP
open PySem PySem.Spec PyProof.Rows L2
section
variable {X : Cx} {W : WX} {T : List (Addr × Str)} {δ : De} {ω : Om} {iter tg elt e : Expr} {es : List Expr} {pos p : Pos} {R : Out → Prop}
end
section
variable {X : Cx} {W : WX} {T : List (Addr × Str)} {δ : De} {ω : Om} {a b e : Expr} {es : List Expr} {pos p : Pos} {R : Out → Prop} {C : Addr} {k : Nat} {fr : FrG}
end
end FP

namespace FP
open PySem PySem.Spec PyProof.Rows L2 HotX L2H
section
variable {X : Cx} {W : WX} {T : List (Addr × Str)} {δ : De} {ω : Om} {iter tg elt e : Expr} {es : List Expr} {pos p : Pos} {R : Out → Prop} {ss sa : List Stmt} {a : Addr} {kvs : List (Key × Sd)}
end
section
variable {X : Cx} {T : List (Addr × Str)} {δ : De} {ω : Om} {o2 b e1 : Expr} {pos p p3 : Pos} {a : Addr} {kvs kv2 : List (Key × Sd)} {d : PyData} {key : Key}
end
section
variable {X : Cx} {W : WX} {T : List (Addr × Str)} {δ : De} {ω : Om} {iter tg o2 b b3 e : Expr} {pos p p3 pos' : Pos} {R : Out → Prop} {ss sa : List Stmt} {a c : Addr} {kvs kv2 : List (Key × Sd)} {key k3 : Key} {ob : Od}
end
end FP

namespace FP
open PySem PySem.Spec PyProof.Rows L2
end FP

namespace FP
open PySem PySem.Spec PyProof.Rows L2 HotX L2H
section
variable {X : Cx} {W : WX} {T : List (Addr × Str)} {δ : De} {ω : Om} {pos : Pos} {R : Out → Prop}
end
end FP
namespace FP
open PySem PySem.Spec PyProof.Rows L2 HotX L2H
section
variable {X : Cx} {δ : De} {ω : Om} {pos : Pos}
end
end FP

namespace FP
open PySem PySem.Spec PyProof.Rows L2
section
variable {X : Cx} {W : WX} {T : List (Addr × Str)} {δ : De} {ω : Om} {a b e iter tg elt : Expr} {es : List Expr} {pos p : Pos} {R : Out → Prop} {ss sa : List Stmt} {r : Sd}
mutual
inductive OwnD (os : Os) : Sd → PyData → Prop
  | im (d : PyData) : OwnD os (.im d) d
  | tup {a : Addr} {rs : List Sd} {ds : List PyData} (h : (a, Od.tup rs) ∈ os) (hs : OwnDs os rs ds) : OwnD os (.ad a) (.tuple ds)
  | lst {a : Addr} {rs : List Sd} {ds : List PyData} (h : (a, Od.lst rs) ∈ os) (hs : OwnDs os rs ds) : OwnD os (.ad a) (.list ds)
inductive OwnDs (os : Os) : List Sd → List PyData → Prop
  | nil : OwnDs os [] []
  | cons {r : Sd} {d : PyData} {rs : List Sd} {ds : List PyData} (h : OwnD os r d) (hs : OwnDs os rs ds) : OwnDs os (r :: rs) (d :: ds)
end
theorem lend_hid {os rest : Os} {H : Hp} : Same (hid (ads ⟨[], os ++ rest⟩) H) (hid (ads ⟨[], rest⟩) H) := hid_more fun b h => by
  rcases List.mem_append.mp h with q | q
  · exact absurd q List.not_mem_nil
  · refine List.mem_append_right _ ?_
    show b ∈ (os ++ rest).map (·.1)
    rw [List.map_append]
    exact List.mem_append_right _ q
theorem lend_out {K : PySem.W.Frag} {os rest : Os} {H : Hp} (ro : Ro K H ⟨[], os ++ rest⟩) {a : Addr} {o : Od} (h : (a, o) ∈ os) : a ∉ ads ⟨[], rest⟩ := fun q => by
  have nd := ro.nd
  have nd : ((os ++ rest).map (·.1)).Nodup := nd
  rw [List.map_append] at nd
  rcases List.mem_append.mp q with q | q
  · exact List.not_mem_nil q
  · exact (List.nodup_append.mp nd).2.2 a (List.mem_map.mpr ⟨_, h, rfl⟩) a q rfl
mutual
theorem own_dp {K : PySem.W.Frag} {os rest : Os} {H : Hp} (ro : Ro K H ⟨[], os ++ rest⟩) : ∀ {r : Sd} {d : PyData}, OwnD os r d → ∀ {v : V}, SdV K (hid (ads ⟨[], os ++ rest⟩) H) r v → Dp K (hid (ads ⟨[], rest⟩) H) v d
  | _, _, .im d, v, h => dpm lend_hid h
  | _, _, .tup (a := a) m hs, v, h => by
    have h : v = .ref a := h
    subst h
    obtain ⟨vs, g1, g2⟩ := ro.ob a _ (List.mem_append_left _ m)
    exact .tup (SqT.of (hid_of (lend_out ro m) g1)) (own_dps ro hs g2)
  | _, _, .lst (a := a) m hs, v, h => by
    have h : v = .ref a := h
    subst h
    obtain ⟨vs, g1, g2⟩ := ro.ob a _ (List.mem_append_left _ m)
    exact .lst (SqL.of (hid_of (lend_out ro m) g1)) (own_dps ro hs g2)
theorem own_dps {K : PySem.W.Frag} {os rest : Os} {H : Hp} (ro : Ro K H ⟨[], os ++ rest⟩) : ∀ {rs : List Sd} {ds : List PyData}, OwnDs os rs ds → ∀ {vs : List V}, Paired (SdV K (hid (ads ⟨[], os ++ rest⟩) H)) rs vs → DpAll K (hid (ads ⟨[], rest⟩) H) vs ds
  | _, _, .nil, _, .nil => .nil
  | _, _, .cons h hs, _, .cons a b => .cons (own_dp ro h a) (own_dps ro hs b)
end
end
end FP
namespace FP
open PySem PySem.Spec PyProof.Rows L2
section
variable {X : Cx} {W : WX} {T : List (Addr × Str)} {δ : De} {ω : Om} {iter c elt : Expr} {pos : Pos} {R : Out → Prop}
end
end FP

namespace LC
open PySem PySem.Spec PyProof.Rows L2
/-- the record's context stands in the ground, out of the tracked ones' reach; it has none itself -/
def Way (B : Heap) (H : Hp) (o : Obj) : Prop := ∀ vs, o.data = .fields vs →
  vs[2]? = some .none ∨ ∃ c oc vc, vs[2]? = some (.ref c) ∧ B.get? c = some oc ∧ H c = none ∧ oc.data = .fields vc ∧ vc[2]? = some .none
def Zw (B : Heap) (H : Hp) (cls : Value) (d : Option Addr) : Obj → Prop := fun o => o.cls = cls ∧ o.dict = d ∧ Way B H o
theorem way_one {B : Heap} {H : Hp} {o : Obj} {v : Value} (h : Way B H o) : Way B H (o.mapFields (·.setIfInBounds 1 v)) := by
  obtain ⟨k, dd, dt, sl⟩ := o
  cases dt with
  | fields ws =>
    intro vs e
    have e : Data.fields (ws.setIfInBounds 1 v) = Data.fields vs := e
    cases e
    have q : (ws.setIfInBounds 1 v)[2]? = ws[2]? := by simp [Array.getElem?_setIfInBounds]
    rw [q]
    exact h ws rfl
  | _ =>
    intro vs e
    first
    | exact Data.noConfusion e
    | cases e
theorem Zw.steady {B : Heap} {H : Hp} {cls : Value} {d : Option Addr} : PXN.Steady1 (Zw B H cls d) := fun _ _ h => ⟨PXN.steady_cls _ _ h.1, PXN.steady_dict _ _ h.2.1, way_one h.2.2⟩
/-- such an exception in the air of X -/
def XE (X : Cx) (W : WX) (u : Value) (t : Shared) : Prop := ∃ (a : Addr) (B : Heap) (t0 : Shared) (pins : List (Addr × Obj)) (σ : L2.St) (H : Hp) (cls : Value) (d : Option Addr),
  u = .ref a ∧ Inv X pins σ H t0 ∧ (∀ b o, t0.heap.get? b = some o → b ∉ frs X.stack → B.get? b = some o) ∧ t0.heap.UpToSlots t.heap ∧ Sky B X.stack a (Zw B H cls d) X.env.locals t.heap ∧ H a = none ∧ t.os = t0.os ∧ AllBare t.gens ∧ W cls d σ H
def Takes (X : Cx) (W : WX) : Prop := ∀ u t, XE X W u t → X.xe u t
def CX (P : Program) (w : World) (outer : List Env) (H : Hp) (s : Shared) (E : XK) (u : Value) (t : Shared) : Prop := ∃ (a : Addr) (B : Heap) (G : Hp) (cls : Value) (d : Option Addr),
  u = .ref a ∧ HandSPX.FlyingZ B outer a (Zw B G cls d) t.heap ∧ HOk P w G B ∧ UB (frs outer) H G s.heap B t.heap ∧ G a = none ∧ t.os = s.os ∧ AllBare t.gens ∧ E cls d G
section
variable {X : Cx} {W : WX} {E : XK} {pins : List (Addr × Obj)} {σ : L2.St} {H : Hp} {s t : Shared} {u : Value}
theorem Takes.imp {W' : WX} (tk : Takes X W) (h : ∀ c d σ H, W' c d σ H → W c d σ H) : Takes X W' := fun u t x => by
  obtain ⟨a, B, t0, pn, σ, H, cls, d, x1, x2, x3, x4, x5, x6, x7, x8, x9⟩ := x
  exact tk u t ⟨a, B, t0, pn, σ, H, cls, d, x1, x2, x3, x4, x5, x6, x7, x8, h _ _ _ _ x9⟩
/-- a new one -/
theorem XE.new {a : Addr} {oe : Obj} {vs : Array Value} {cls : Value} {d : Option Addr} (I : Inv X pins σ H s) (k : ∀ b o, s.heap.get? b = some o → t.heap.get? b = some o) (na : s.heap.get? a = none) (ga : t.heap.get? a = some oe)
    (hz : Zw (PySem.W.hideAll s.heap (frs X.stack)) H cls d oe) (hd : oe.data = .fields vs) (h1 : vs[1]? = some .none) (Ha : H a = none) (os : t.os = s.os) (ag : AllBare t.gens) (w : W cls d σ H) : XE X W (.ref a) t := by
  have sub : ∀ {b o}, (PySem.W.hideAll s.heap (frs X.stack)).get? b = some o → s.heap.get? b = some o := fun e => PySem.W.of_hideAll _ e
  refine ⟨a, _, s, pins, σ, H, cls, d, rfl, I, fun b o e nb => PySem.W.hideAll_get _ e nb, Heap.UpToSlots.of_keeps k, .inl ⟨fun b o e => k b o (sub e), ?_, ?_, oe, vs, ga, hz, hd, h1⟩, Ha, os, ag, w⟩
  · cases e : (PySem.W.hideAll s.heap (frs X.stack)).get? a with
    | none => rfl
    | some o =>
      rw [sub e] at na
      cases na
  · exact (funFrames_none I.stack fun b hb => PySem.W.hideAll_none _ hb).of_keeps fun b o e _ => ⟨o, k b o e, rfl⟩
/-- it leaves the def -/
theorem XE.leave {E1 : Value → Shared → Prop} (hs : X.stack = X.env :: X.outer) (hf : X.env.frame = some X.env.locals) (hex : X.ex = []) (hW : ∀ cls d σ H, W cls d σ H → E cls d H) (x : XE X W u t) :
    wpAny (model X.prog X.w) X.A (leaving X.env u) (fun _ t2 => CX X.prog X.w X.outer X.H_0 X.s_0 E u t2) E1 t := by
  obtain ⟨a, B, t0, pn, σ, H, cls, d, eu, I, nb, up, sky, na, os, ag, w⟩ := x
  subst eu
  have fr : X.A.frames = some (X.env :: X.outer) := I.ok.frames.trans (congrArg some hs)
  have noex : ∀ b, b ∉ X.ex := by
    rw [hex]
    exact fun b => List.not_mem_nil
  have below : ∀ b o, X.s_0.heap.get? b = some o → b ∉ X.fs → b ∉ frs X.stack := fun b o e hb z => by
    rcases List.mem_cons.mp (I.stkSub b z) with q | q
    · have l1 := Nat.lt_of_lt_of_le (Heap.lt_size e) I.ok.above
      rw [q] at l1
      exact Nat.lt_irrefl _ l1
    · exact hb q
  have fin : ∀ h2, HandSPX.FlyingZ B X.outer a (Zw B H cls d) h2 → t.heap.UpToSlots h2 → CX X.prog X.w X.outer X.H_0 X.s_0 E (.ref a) { t with heap := h2 } := fun h2 fl up2 => by
    have sl : ∀ b o, X.s_0.heap.get? b = some o → b ∈ frs X.outer → ∃ sl, h2.get? b = some { o with slots := sl } := fun b o e hb => by
      obtain ⟨_, o1, g1, nf⟩ := I.ok.funs.mem hb
      rw [e] at g1
      cases g1
      obtain ⟨_, g2⟩ := I.base.slot b o e (I.ok.frf b hb) hb (noex b)
      obtain ⟨_, g3⟩ := up b _ g2 nf
      exact ⟨_, (up2 b _ g3 nf).choose_spec⟩
    have th : ∀ b o, X.s_0.heap.get? b = some o → b ∉ frs X.outer → ∃ o', B.get? b = some o' := fun b o e hb => by
      obtain ⟨o1, g1⟩ := I.base.there b o e (noex b)
      exact ⟨o1, nb b o1 g1 (below b o e hb)⟩
    exact ⟨a, B, H, cls, d, rfl, fl, I.inGround nb, ⟨fun b o e n hb => nb b o (I.base.keep b o e n hb (noex b)) (below b o e hb), sl, fun b o e n => I.base.free b o e n (noex b), th, I.base.tups, I.base.frzs, I.base.tbls⟩, na, os.trans I.os, ag, hW _ _ _ _ w⟩
  rw [hs] at sky
  rcases sky with ⟨y1, y2, y3, oe, vs, y4, y5, y6, y7⟩ | fl | hh
  · exact PXN.leaving_firstZ Zw.steady fr y3 hf y4 y1 y2 y6 y7 y5 fin
  · exact PXN.leaves_onZ Zw.steady fr hf fl fin
  · exact HandSPX.leaves_heldZ hf hh fin
theorem takes_of {E1 : Value → Shared → Prop} (hs : X.stack = X.env :: X.outer) (hf : X.env.frame = some X.env.locals) (hex : X.ex = []) (hx : X.xe = fun e t => wpAny (model X.prog X.w) X.A (leaving X.env e) (fun _ t2 => CX X.prog X.w X.outer X.H_0 X.s_0 E e t2) E1 t) :
    Takes X (fun cls d _ G => E cls d G) := fun u t x => by
  rw [hx]
  exact XE.leave (W := fun cls d _ G => E cls d G) hs hf hex (fun _ _ _ _ q => q) x
end
end LC

namespace LC
open PySem PySem.Spec PyProof.Rows L2 HotX
/-- x is handled, l its context (none, or one) -/
def Hot2 (A : Around) (x : Addr × Obj) (l : List (Addr × Obj)) : Prop := A.handled = some (.ref x.1) ∧ ∃ vs, x.2.data = .fields vs ∧
  ((l = [] ∧ vs[2]? = some .none) ∨ ∃ (y : Addr × Obj) (vy : Array Value), l = [y] ∧ vs[2]? = some (.ref y.1) ∧ y.1 ≠ x.1 ∧ y.2.data = .fields vy ∧ vy[2]? = some .none)
def HotIn (A : Around) (x : Addr × Obj) (l : List (Addr × Obj)) (h : Heap) : Prop := Hot2 A x l ∧ ∀ p ∈ x :: l, h.get? p.1 = some p.2
section
variable {prog : Program} {w : World} {A : Around} {E : Value → Shared → Prop} {s : Shared} {x : Addr × Obj} {l : List (Addr × Obj)} {a : Addr}
theorem HotIn.keep {h h' : Heap} (t : HotIn A x l h) (k : ∀ b o, h.get? b = some o → h'.get? b = some o) : HotIn A x l h' := ⟨t.1, fun p hp => k _ _ (t.2 p hp)⟩
end
/-- the context bears it -/
def HotG (X : L2.Cx) : Prop := ∃ x l, Hot2 X.A x l ∧ ∀ p ∈ x :: l, p ∈ X.pn
theorem HotG.at {X : L2.Cx} {pins : List (Addr × Obj)} {σ : L2.St} {H : Hp} {s : Shared} (c : HotG X) (I : Inv X pins σ H s) : ∃ x l, HotIn X.A x l s.heap := by
  obtain ⟨x, l, h, m⟩ := c
  exact ⟨x, l, h, fun p hp => (I.pin p (List.mem_append_left _ (m p hp))).1⟩
end LC

namespace LC
open PySem PySem.Spec PyProof.Rows L2 HotX FP
end LC

namespace LC
open PySem PySem.Spec PyProof.Rows L2 HotX FP
section
variable {X : L2.Cx}
end
end LC

namespace LC
open PySem PySem.Spec PyProof.Rows L2 HotX FP L2H
section
variable {X : L2.Cx} {δ : De} {ω : Om} {a b c e : Expr} {es : List Expr} {d : PyData} {ds : List PyData} {pos p p1 p2 : Pos} {q : Addr × Obj} {D : Addr} {k : Bool}
end
structure Word2 (P : Program) (w : World) (K : PySem.W.Frag) (mg : Str → Option Value) (base : Heap) (k : Nat) (wd : Str) (fw : Addr → PyData → Prop) : Prop where
  ex : ∃ g, mg wd = some (.ref g) ∧ PySem.W.keepIn K (.ref g) = true ∧ ∀ (A : Around) (outer : List Env) (s : Shared) (H : Hp) (q : Addr × Obj) (l : List (Addr × Obj)) (C : Addr) (d : PyData) (ps : List Addr) (Q : VK), fw C d → RoomH k A → Hot2 A q l → (∀ p ∈ q :: l, PinOk outer H s p) → q.2.cls = .ref C → q.2.dict = none →
    Env0 P w K mg base A outer s H → (∀ a ∈ ps, H a ≠ none) → (∀ v H', Same H H' → Dp K (hid ps H') v d → Q v H') → codeAny (model P w) A (.call (.ref g) ⟨[.ref q.1], []⟩) (CR C8.CX0 outer P w H s Q C8.E0) s
/-- the context of such a def's body -/
abbrev cx2 (CX : CXT) (P : Program) (w : World) (K : PySem.W.Frag) (mg : Str → Option Value) (base : Heap) (N : List Str) (qual : Str) (scope : Scope) (f : Addr) (cd : Value) (A : Around) (outer : List Env) (s : Shared) (H : Hp) (E : XK) (q : Addr × Obj) (l : List (Addr × Obj)) : L2.Cx :=
  { cxOf CX P w K mg base N qual scope f cd A outer s H E with calm := false, pn := q :: l }
/-- such a def, by its body -/
theorem word_ok {P : Program} {w : World} {K : PySem.W.Frag} {mg : Str → Option Value} {base : Heap} {x : Str} {params : Arguments} {body : List Stmt} {scope : Scope} {kws : List (Str × V)} {f : Addr} {fd : FuncData} {N : List Str} {y : Str} {k n : Nat} {fw : Addr → PyData → Prop}
    (F : FunD K x x params body scope [] kws f fd) (hm : mg x = some (.ref f)) (S : FnScope N [y] scope) (hn : N.length = n + 1)
    (hb : ∀ (kV doc pm : Value) (an : Option Addr) (cdv ct : Value) (us : List Value), us.length = [y].length → bindArgs (PySem.W.fnOf x x params body scope .none kV doc pm an cdv ct) ⟨us, []⟩ = pure ([y].zip us))
    (hbody : ∀ (cdv : Value) (A : Around) (outer : List Env) (s : Shared) (H : Hp) (q : Addr × Obj) (l : List (Addr × Obj)) (C : Addr) (d : PyData) (ps : List Addr), fw C d → Hot2 A q l → q.2.cls = .ref C → q.2.dict = none → RoomH k (A.deeper (envOfC x scope s.heap.objs.size f cdv)) →
      SD (cx2 C8.CX0 P w K mg base N x scope f cdv A outer s H C8.E0 q l) (fun _ _ _ _ => False) [] body (some (.ad q.1) :: List.replicate n none) ⟨ps, []⟩ (Fin (.ok d))) : Word2 P w K mg base (k + 1) x fw := by
  have hbs := FunD.bindsN (ps := [y]) F hb
  have kp := F.kp
  obtain ⟨oc, od, dV, kV, doc, pm, an, cdv, ct, osl, rfl, lk, hcd, hD, hK⟩ := F.ex
  refine ⟨f, hm, kp, fun A outer s H q l C d ps Q hf hr hot pin c1 c2 e0 hp hQ => ?_⟩
  have old : ∀ b o, base.get? b = some o → s.heap.get? b = some o := fun b o e => (e0.bs b o e).1
  have inK : K.In s.heap := e0.mod.kin.keeps old
  have bnd := hbs s [.ref q.1] inK rfl
  refine codeAny_call_function hr.depth (inK _ _ lk) rfl S.co S.gen rfl (PySem.W.codeRec_of inK hcd) (bnd _ _ _ _ (wpAny_newFunctionEnv_cells S.kind (fun z hz => ?_) fun env he s1 x1 => ?_))
  · rcases S.par z.1 (List.of_mem_zip hz).1 with t | t
    · exact .inl t
    · exact .inr ⟨t, PySem.W.cellsFrom_some _ _ _ (.inl t)⟩
  subst he
  refine ⟨(e0.mod.nolimit.keeps old).keeps x1.toInCall.keep, codeAny_func ?_⟩
  have I1 : Inv (cxH C8.CX0 P w K mg base N x scope f cdv A outer s H C8.E0 q) [] (L2.start N [.ref q.1]) H s1 := inv_startH (us := [.ref q.1]) S (pin q List.mem_cons_self) e0 rfl (.cons rfl .nil) x1
  have o := I1.ok
  have kept := x1.toInCall.keep
  have I : Inv (cx2 C8.CX0 P w K mg base N x scope f cdv A outer s H C8.E0 q l) [] (L2.start N [.ref q.1]) H s1 := by
    refine ⟨⟨o.mod, o.kind, o.glob, o.blt, o.above, o.inj, o.has, o.cab, o.hd, o.frames, o.stk, o.exf, o.bs, o.bsz, o.noex, o.exfs, o.funs, o.frf⟩, I1.os, I1.bare, I1.base, I1.loc, I1.cell, I1.free, I1.freeC, fun p hp => ?_, I1.hok, I1.len⟩
    have g := pin p (by simpa using hp)
    refine ⟨kept _ _ g.get, g.free, fun z => ?_, g.nofs, g.nocell⟩
    have lt := Heap.lt_size g.get
    rw [z] at lt
    exact Nat.lt_irrefl _ lt
  have go := hbody cdv A outer s H q l C d ps hf hot c1 c2 (hr.deeper _) (L2.start N [.ref q.1]) H { nx := fun _ H' => Q .non H', rt := Q } (FP.start1 hn hp) (fun _ z => nomatch z) ?_
  · refine wpAny_mono (pss_w.run [] s1 _ H _ I go) (fun fl s2 hs => ?_) fun _ _ z => z
    cases fl with
    | ret u =>
      obtain ⟨v, σ', H', J, rv, z⟩ := hs
      exact ⟨v, H', J.os, J.bare, J.base, J.hok, rv, z⟩
    | next =>
      obtain ⟨σ', H', J, z⟩ := hs
      exact ⟨.non, H', J.os, J.bare, J.base, J.hok, rfl, z⟩
    | brk =>
      obtain ⟨_, _, _, z⟩ := hs
      exact z.elim
    | cont =>
      obtain ⟨_, _, _, z⟩ := hs
      exact z.elim
  · have same : ∀ {ω' : Om} {H' : Hp}, Stp [] ⟨ps, []⟩ ω' H H' → Same H H' := fun st b o e => st.keep b o e (fun z => nomatch z) (.inl rfl)
    refine ⟨fun δ' ω' σ' H' z st l => ?_, fun r' ω' v H' z st l dv => ?_, fun _ _ _ _ z => (nomatch z), fun _ _ _ _ z => False.elim z, fun _ _ _ _ z => False.elim z⟩
    · cases z
      exact hQ .non H' (same st) .non
    · cases r' with
      | im d' =>
        cases z
        exact hQ v H' (same st) (dpm (hid_more fun b hb => List.mem_append_left _ (by rw [st.ps]; exact hb)) dv)
      | ad a => exact False.elim z
end LC

namespace LC
open PySem PySem.Spec PyProof.Rows L2 HotX FP L2H
section
variable {X : L2.Cx} {pins qins P Q : List (Addr × Obj)} {σ : L2.St} {H : Hp} {s : Shared}
end
end LC

namespace LC
open PySem PySem.Spec PyProof.Rows L2 HotX FP L2H
structure DefC (P : Program) (w : World) (K : PySem.W.Frag) (mg : Str → Option Value) (base : Heap) (k : Nat) (x : Str) (fr : List PyData → Rs → Prop) : Prop where
  ex : ∃ f fd ps, FnOk P w K mg base (CX P w) k f fd ps (spD K fr) ∧ mg x = some (.ref f) ∧ PySem.W.keepIn K (.ref f) = true ∧ L2.Binds K fd ps []
theorem DefC.mono {P : Program} {w : World} {K : PySem.W.Frag} {mg : Str → Option Value} {base : Heap} {j k : Nat} {x : Str} {fr : List PyData → Rs → Prop} (G : DefC P w K mg base j x fr) (h : j ≤ k) : DefC P w K mg base k x fr := by
  obtain ⟨f, fd, ps, F, m, kp, b⟩ := G.ex
  exact ⟨f, fd, ps, F.mono h, m, kp, b⟩
section
variable {X : L2.Cx} {W : WX} {T : List (Addr × Str)} {δ : De} {ω : Om} {a e : Expr} {es : List Expr} {d : PyData} {ds : List PyData} {pos p : Pos} {k : Nat} {x : Str} {R : Out → Prop} {ss : List Stmt}
end
section
variable {X : L2.Cx} {T : List (Addr × Str)} {δ : De} {ω : Om} {d : PyData} {pos p : Pos} {k : Nat}
end
end LC

namespace LC
open PySem PySem.Spec PyProof.Rows L2 HotX FP L2H
section
variable {X : L2.Cx} {pins : List (Addr × Obj)} {σ : L2.St} {H : Hp} {s : Shared} {W : WX}
end
section
variable {X : L2.Cx} {W : WX} {T : List (Addr × Str)} {δ : De} {ω : Om} {R : Out → Prop} {ss body : List Stmt} {c : Value} {C : Addr} {x y m : Str} {j j2 : Nat} {np p p2 pos1 cpos pos pos' rp : Pos}
end
end LC

namespace FP
open PySem PySem.Spec PyProof.Rows L2
section
variable {X : Cx} {W : WX} {T : List (Addr × Str)} {δ : De} {ω : Om} {es : List Expr} {ds : List PyData} {pos : Pos} {x : Str} {R : Out → Prop} {ss : List Stmt}
end
end FP
namespace LC
open PySem PySem.Spec PyProof.Rows L2 HotX FP L2H
section
variable {X : L2.Cx} {T : List (Addr × Str)} {δ : De} {ω : Om} {d : PyData} {pos p : Pos} {k : Nat}
end
end LC

namespace LC
open PySem PySem.Spec PyProof.Rows L2 HotX FP L2H
/-- a method -/
structure GMC (P : Program) (w : World) (K : PySem.W.Frag) (mg : Str → Option Value) (base : Heap) (k : Nat) (C : Addr) (m : Str) (fr : FrG) : Prop where
  ex : ∃ f fd ps, FnOk P w K mg base (CX P w) k f fd ps (spG K fr) ∧ Meth K C m f ∧ L2.Binds K fd ps []
theorem GMC.mono {P : Program} {w : World} {K : PySem.W.Frag} {mg : Str → Option Value} {base : Heap} {j k : Nat} {C : Addr} {m : Str} {fr : FrG} (G : GMC P w K mg base j C m fr) (h : j ≤ k) : GMC P w K mg base k C m fr := by
  obtain ⟨f, fd, ps, F, m, b⟩ := G.ex
  exact ⟨f, fd, ps, F.mono h, m, b⟩
section
variable {P : Program} {w : World} {K : PySem.W.Frag} {mg : Str → Option Value} {base : Heap} {x qual : Str} {params : Arguments} {body : List Stmt} {scope : Scope} {kws : List (Str × V)} {f C : Addr} {fd : FuncData} {N ps : List Str} {k : Nat} {fr : FrG}
end
section
variable {X : L2.Cx} {W : WX} {T : List (Addr × Str)} {δ : De} {ω ω1 : Om} {b c e o : Expr} {es : List Expr} {d : PyData} {ds : List PyData} {r : Sd} {rs : List Sd} {pos p p1 apos : Pos} {R : Out → Prop} {ss : List Stmt} {a C : Addr} {f x m : Str} {k : Nat} {fr : FrG}
end
section
variable {X : L2.Cx} {W : WX} {T : List (Addr × Str)} {δ : De} {ω ω1 : Om} {a b c e o : Expr} {es : List Expr} {d : PyData} {ds : List PyData} {r : Sd} {rs : List Sd} {pos p p1 apos : Pos} {R : Out → Prop} {ss : List Stmt} {z C : Addr} {fs : Fo} {f x m : Str} {k : Nat} {fr : FrG}
end
end LC

namespace FP
open PySem PySem.Spec PyProof.Rows L2
section
variable {X : Cx} {W : WX} {T : List (Addr × Str)} {δ : De} {ω : Om} {e : Expr} {es : List Expr} {pos : Pos}
end
end FP

namespace FP
open PySem PySem.Spec PyProof.Rows L2 HotX L2H
section
variable {M : Model} {A : Around} {α : Type} {t : Sem α} {Q Q' : α → Shared → Prop} {E : Value → Shared → Prop} {s : Shared} {n : Nat}
end
section
variable (θ : Nat) (X : Cx)
def wpeF (e : Expr) (σ : L2.St) (H : Hp) (Q : VK) : Prop := ∀ pins s, θ ≤ s.toks → Inv X pins σ H s → wpAny (model X.prog X.w) X.A (eval e X.env) (EP X pins σ Q) X.xe s
def wptF (e : Expr) (σ : L2.St) (H : Hp) (Q : Bool → Hp → Prop) : Prop := ∀ pins s, θ ≤ s.toks → Inv X pins σ H s → wpAny (model X.prog X.w) X.A (isTrue e X.env (eval e X.env)) (TP X pins σ Q) X.xe s
def wpwF (e : Expr) (σ : L2.St) (H : Hp) (Q : Bool → Hp → Prop) : Prop := ∀ (whole : Sem Value) pins s, θ ≤ s.toks → Inv X pins σ H s → wpAny (model X.prog X.w) X.A (isTrue e X.env whole) (TP X pins σ Q) X.xe s
def wpssF (ss : List Stmt) (D : Ends) (σ : L2.St) (H : Hp) : Prop := ∀ pins s, θ ≤ s.toks → Inv X pins σ H s → wpAny (model X.prog X.w) X.A (execs ss X.env) (SP X pins D) X.xe s
end
def YXF (θ : Nat) (X : Cx) (W : WX) (T : List (Addr × Str)) (δ : De) (ω : Om) (e : Expr) (R : Rg → Om → Prop) : Prop := ∀ σ H, Rl X.K H σ δ ω → LamX.Tabs T H → ∀ Q : VK,
  (∀ r ω' v H', R (.ok r) ω' → Stp T ω ω' H H' → Rl X.K H' σ δ ω' → SdV X.K (hid (ads ω') H') r v → Q v H') → (∀ Z ω' H', R (.er Z) ω' → Stp T ω ω' H H' → Rl X.K H' σ δ ω' → W (.ref Z) none σ H') → wpeF θ X e σ H Q
def ZTF (θ : Nat) (X : Cx) (T : List (Addr × Str)) (δ : De) (ω : Om) (e : Expr) (R : Bool → Om → Prop) : Prop := ∀ σ H, Rl X.K H σ δ ω → LamX.Tabs T H → ∀ Q : Bool → Hp → Prop, (∀ k ω' H', R k ω' → Stp T ω ω' H H' → Rl X.K H' σ δ ω' → Q k H') → wptF θ X e σ H Q
def ZWF (θ : Nat) (X : Cx) (T : List (Addr × Str)) (δ : De) (ω : Om) (e : Expr) (R : Bool → Om → Prop) : Prop := ∀ σ H, Rl X.K H σ δ ω → LamX.Tabs T H → ∀ Q : Bool → Hp → Prop, (∀ k ω' H', R k ω' → Stp T ω ω' H H' → Rl X.K H' σ δ ω' → Q k H') → wpwF θ X e σ H Q
def SDF (θ : Nat) (X : Cx) (W : WX) (T : List (Addr × Str)) (ss : List Stmt) (δ : De) (ω : Om) (R : Out → Prop) : Prop := ∀ σ H D, Rl X.K H σ δ ω → LamX.Tabs T H → Kt X W T ω H D R → wpssF θ X ss D σ H
section
variable {θ : Nat} {X : Cx} {W : WX} {T : List (Addr × Str)} {δ : De} {ω : Om} {a b c e : Expr} {pos : Pos} {R : Out → Prop} {ss sa sb l1 l2 : List Stmt} {st : Stmt} {D : Ends} {σ : L2.St} {H : Hp}
theorem YX.f {Z : Rg → Om → Prop} (h : YX X W T δ ω e Z) : YXF θ X W T δ ω e Z := fun σ H rl t Q q q2 pins s _ I => pe_w.run pins s σ H Q I (h σ H rl t Q q q2)
theorem ZT.f {Z : Bool → Om → Prop} (h : ZT X T δ ω e Z) : ZTF θ X T δ ω e Z := fun σ H rl t Q q pins s _ I => pt_w.run pins s σ H Q I (h σ H rl t Q q)
theorem ZW.f {Z : Bool → Om → Prop} (h : ZW X T δ ω e Z) : ZWF θ X T δ ω e Z := fun σ H rl t Q q whole pins s _ I => pw_w.run whole pins s σ H Q I (h σ H rl t Q q)
theorem SD.f (h : SD X W T ss δ ω R) : SDF θ X W T ss δ ω R := fun σ H D rl t k pins s _ I => pss_w.run pins s σ H D I (h σ H D rl t k)
theorem YXF.imp {Z Z' : Rg → Om → Prop} (h : YXF θ X W T δ ω e Z) (k : ∀ r ω', Z r ω' → Z' r ω') : YXF θ X W T δ ω e Z' := fun σ H rl t Q q q2 => h σ H rl t Q (fun r ω' v H' z => q r ω' v H' (k _ _ z)) fun C ω' H' z => q2 C ω' H' (k _ _ z)
end
end FP

namespace FP
open PySem PySem.Spec PyProof.Rows L2 HotX L2H
structure FnOkF (θ : Nat) (P : Program) (w : World) (K : PySem.W.Frag) (mg : Str → Option Value) (base : Heap) (CX : CXT) (k : Nat) (f : Addr) (fd : FuncData) (ps : List Str) (sp : L2.Sp) : Prop where
  len : ∀ vs H Q E, sp vs H Q E → vs.length = ps.length
  run : ∀ (A : Around) (outer : List Env) (s : Shared) (H : Hp) (args : Args) (us : List Value) (vs : List V) (Q : VK) (E : XK), θ ≤ s.toks → Room k A → Env0 P w K mg base A outer s H → BindsTo s fd args (ps.zip us) → Vals vs us → sp vs H Q E →
    codeAny (model P w) A (.call (.ref f) args) (CR CX outer P w H s Q E) s
section
variable {θ : Nat} {P : Program} {w : World} {K : PySem.W.Frag} {mg : Str → Option Value} {base : Heap} {CX : CXT} {j k : Nat} {f : Addr} {fd : FuncData} {ps : List Str} {sp : L2.Sp}
theorem FnOkF.mono (F : FnOkF θ P w K mg base CX j f fd ps sp) (h : j ≤ k) : FnOkF θ P w K mg base CX k f fd ps sp := ⟨F.len, fun A outer s H args us vs Q E hs hr => F.run A outer s H args us vs Q E hs (hr.mono h)⟩
end
structure DefF (θ : Nat) (P : Program) (w : World) (K : PySem.W.Frag) (mg : Str → Option Value) (base : Heap) (k : Nat) (x : Str) (fr : List PyData → Rs → Prop) : Prop where
  ex : ∃ f fd ps, FnOkF θ P w K mg base (L2N.CX P w) k f fd ps (spD K fr) ∧ mg x = some (.ref f) ∧ PySem.W.keepIn K (.ref f) = true ∧ L2.Binds K fd ps []
structure GMF (θ : Nat) (P : Program) (w : World) (K : PySem.W.Frag) (mg : Str → Option Value) (base : Heap) (k : Nat) (C : Addr) (m : Str) (fr : FrG) : Prop where
  ex : ∃ f fd ps, FnOkF θ P w K mg base (L2N.CX P w) k f fd ps (spG K fr) ∧ Meth K C m f ∧ L2.Binds K fd ps []
section
variable {θ : Nat} {P : Program} {w : World} {K : PySem.W.Frag} {mg : Str → Option Value} {base : Heap} {x qual : Str} {params : Arguments} {body : List Stmt} {scope : Scope} {kws : List (Str × V)} {f C : Addr} {fd : FuncData} {N ps : List Str} {j k : Nat}
theorem DefF.mono {fr : List PyData → Rs → Prop} (G : DefF θ P w K mg base j x fr) (h : j ≤ k) : DefF θ P w K mg base k x fr := by
  obtain ⟨f, fd, ps, F, r⟩ := G.ex
  exact ⟨f, fd, ps, F.mono h, r⟩
theorem GMF.mono {fr : FrG} (G : GMF θ P w K mg base j C x fr) (h : j ≤ k) : GMF θ P w K mg base k C x fr := by
  obtain ⟨f, fd, ps, F, r⟩ := G.ex
  exact ⟨f, fd, ps, F.mono h, r⟩
end
section
variable {θ : Nat} {X : Cx} {W : WX} {T : List (Addr × Str)} {δ : De} {ω : Om} {e : Expr} {es : List Expr} {pos p p1 apos : Pos} {z C f : Addr} {fs : Fo} {x m : Str} {k : Nat} {fd : FuncData} {pn : List Str} {sp : L2.Sp} {CX : CXT}
end
end FP

namespace LC
open PySem PySem.Spec PyProof.Rows L2 HotX FP L2H
section
variable {θ : Nat} {X : L2.Cx} {T : List (Addr × Str)} {δ : De} {ω : Om} {d : PyData} {pos p : Pos} {k : Nat}
end
end LC

namespace FP
open PySem PySem.Spec PyProof.Rows L2 HotX L2H
section
variable {θ : Nat} {X : Cx} {W : WX} {T : List (Addr × Str)} {δ : De} {ω : Om} {tg iter o : Expr} {pos p p1 p2 apos : Pos} {R : Out → Prop} {ss sa : List Stmt} {x y z v : Str} {k : Nat}
/-- a module's name holds this text, of a token below θ -/
structure GlT (mg : Str → Option Value) (x z : Str) (θ : Nat) : Prop where
  ex : ∃ t, mg x = some (.str z t) ∧ t ≠ 0 ∧ t < θ
end
end FP

namespace FP
open PySem PySem.W PySem.Calls PyProof.Rows
end FP

namespace FP
open PySem PySem.Spec PyProof.Rows L2 HotX L2H LamX
open Classical in
/-- the tables, and the script unless the module itself holds it -/
noncomputable def H0 (K : PySem.W.Frag) (ts : List Addr) (a : Addr) (vs : List Value) (ns : List Int) : Hp := fun b =>
  if b ∈ ts then some (.tbl #[]) else if b = a ∧ K.lookup a = none then some (.frz { cls := .type "list", data := .seq vs.toArray } (.lst (ns.map V.int))) else none
section
variable {P : Program} {w : World} {K : PySem.W.Frag} {mg mb : Str → Option Value} {a : Addr} {cs : List (Addr × Addr)} {s₁ : Shared} {vs : List Value} {ns : List Int}
end
end FP

namespace FP
open PySem PySem.Spec PyProof.Rows L2 HotX L2H
section
variable (θ : Nat) (as : List Addr) (fa : List He.Fa) (fn : List He.DefD) (ts : List He.Tab) (tf : List He.Defn) (ex : PySem.W.Frag → Bool)
variable {θ as fa fn ts tf ex}
end
end FP

namespace FP
open PySem PySem.Spec PyProof.Rows L2 HotX L2H
end FP

namespace FP
open PySem PySem.Spec PyProof.Rows L2 HotX L2H
section
variable {P : Program} {w : World} {K : PySem.W.Frag} {mg : Str → Option Value} {base : Heap} {k θ : Nat} {x : Str} {C : Addr}
end
section
variable {X : Cx} {W : WX} {T : List (Addr × Str)} {δ : De} {ω : Om} {e : Expr} {pos p1 : Pos} {R : Out → Prop} {ss : List Stmt} {z C : Addr} {fs : Fo} {f x : Str}
theorem YXF.perm {θ : Nat} {ps : List Addr} {os os' : Os} {Z : Rg → Om → Prop} (hp : os.Perm os') (h : YXF θ X W T δ ⟨ps, os'⟩ e Z) : YXF θ X W T δ ⟨ps, os⟩ e Z := fun σ H rl t Q q q2 => h σ H (rl.permO hp) t Q (fun r ω' v H' z s l dv => q r ω' v H' z (stp_permL hp s) l dv) fun U ω' H' z s l => q2 U ω' H' z (stp_permL hp s) l
theorem YXF.any {θ : Nat} {Z : PyData → Om → Prop} (h : YXF θ X (fun _ _ _ _ => False) T δ ω e (fun r ω1 => ∃ d, r = .ok (.im d) ∧ Z d ω1)) : YXF θ X W T δ ω e (fun r ω1 => ∃ d, r = .ok (.im d) ∧ Z d ω1) := fun σ H rl t Q q _ => h σ H rl t Q q fun U ω' H' z _ _ => by
  obtain ⟨_, z, _⟩ := z
  cases z
end
end FP

namespace FP
open PySem PySem.Spec PyProof.Rows L2 HotX L2H
section
variable {θ : Nat} {X : Cx} {W : WX} {T : List (Addr × Str)} {δ : De} {ω : Om} {tg iter e : Expr} {pos p : Pos} {R : Out → Prop} {ss sa : List Stmt}
end
structure GOkTF (θ : Nat) (P : Program) (w : World) (K : PySem.W.Frag) (mg : Str → Option Value) (base : Heap) (T : List (Addr × Str)) (k : Nat) (x : Str) (fr : FrG) : Prop where
  ex : ∃ f fd ps, FnOkF θ P w K mg base (L2N.CX P w) k f fd ps (spGT K T fr) ∧ mg x = some (.ref f) ∧ PySem.W.keepIn K (.ref f) = true ∧ L2.Binds K fd ps []
section
variable {θ : Nat} {P : Program} {w : World} {K : PySem.W.Frag} {mg : Str → Option Value} {base : Heap} {x qual : Str} {params : Arguments} {body : List Stmt} {scope : Scope} {f C : Addr} {fd : FuncData} {N ps : List Str} {k : Nat} {fr : FrG} {T : List (Addr × Str)}
end
section
variable {θ : Nat} {X : Cx} {W : WX} {T : List (Addr × Str)} {δ : De} {e : Expr} {es : List Expr} {pos p : Pos} {x : Str} {k : Nat} {fr : FrG} {rs : List Sd}
end
end FP

namespace FP
open PySem PySem.Spec PyProof.Rows L2 HotX L2H
end FP

namespace FP
open PySem PySem.Spec PyProof.Rows L2 HotX
section
variable {X : Cx} {W : WX} {T : List (Addr × Str)} {δ : De} {ω : Om} {e o : Expr} {es : List Expr} {pos p p1 apos : Pos} {z C : Addr} {fs : Fo} {m : Str} {k θ : Nat} {fr : FrG} {rs : List Sd}
end
end FP

namespace FP
open PySem PySem.Spec PyProof.Rows L2 HotX
section
variable {X : Cx} {W : WX} {T : List (Addr × Str)} {δ : De} {e o : Expr} {es : List Expr} {pos apos : Pos} {z C : Addr} {fs : Fo} {m : Str} {k θ : Nat} {fr : FrG} {rs : List Sd} {r : Sd} {os0 os1 B rest : Os} {ps : List Addr}
theorem PS1.perm (hp : os0.Perm os1) (h : PS1 X δ ⟨ps, os1⟩ e r) : PS1 X δ ⟨ps, os0⟩ e r := fun σ H rl Q q => h σ H (rl.permO hp) Q fun v H' s d => q v H' s (by rw [hid_perm hp]; exact d)
theorem PSs.perm (hp : os0.Perm os1) (h : PSs X δ ⟨ps, os1⟩ es rs) : PSs X δ ⟨ps, os0⟩ es rs := fun σ H rl Q q => h σ H (rl.permO hp) Q fun v H' s d => q v H' s (by rw [hid_perm hp]; exact d)
end
section
variable {A B C D E F G R : Os}
end
end FP

namespace BigSet
open PySem
def Msk (m : Nat) : Prop := m = 7 ∨ m = 31 ∨ m = 127 ∨ m = 511
def seenBy (m : Nat) : Nat → Nat → Nat
  | 0, _ => 0
  | k + 1, i => (1 <<< i) ||| seenBy m k ((i * 5 + 1) % (m + 1))
def goBy (m : Nat) : Nat → Nat → Nat
  | 0, i => i
  | k + 1, i => goBy m k ((i * 5 + 1) % (m + 1))
def allSeen (m : Nat) : Bool := (List.range (m + 1)).all fun i => seenBy m (m + 1) i == 2 ^ (m + 1) - 1
theorem seen7 : allSeen 7 = true := by decide +kernel
theorem seen31 : allSeen 31 = true := by decide +kernel
theorem seen127 : allSeen 127 = true := by decide +kernel
theorem seen511 : allSeen 511 = true := by decide +kernel
theorem seen_at {m : Nat} : ∀ (k i j : Nat), (seenBy m k i).testBit j = true → ∃ n, n < k ∧ goBy m n i = j
  | 0, i, j, h => by
    have h : (0 : Nat).testBit j = true := h
    rw [Nat.zero_testBit] at h
    cases h
  | k + 1, i, j, h => by
    have h : ((1 <<< i) ||| seenBy m k ((i * 5 + 1) % (m + 1))).testBit j = true := h
    rw [Nat.testBit_or, Bool.or_eq_true] at h
    rcases h with h | h
    · rw [Nat.testBit_shiftLeft, Bool.and_eq_true] at h
      have a := of_decide_eq_true h.1
      have b := h.2
      cases e : j - i with
      | zero => exact ⟨0, Nat.succ_pos _, by show i = j; omega⟩
      | succ d =>
        rw [e, Nat.testBit_succ, show (1 : Nat) / 2 = 0 from rfl, Nat.zero_testBit] at b
        cases b
    · obtain ⟨n, a, b⟩ := seen_at k _ j h
      exact ⟨n + 1, Nat.succ_lt_succ a, b⟩
theorem met {m i j : Nat} (hm : Msk m) (hi : i ≤ m) (hj : j ≤ m) : ∃ n, n < m + 1 ∧ goBy m n i = j := by
  have a : allSeen m = true := by
    rcases hm with rfl | rfl | rfl | rfl
    · exact seen7
    · exact seen31
    · exact seen127
    · exact seen511
  have b := List.all_eq_true.mp a i (List.mem_range.mpr (by omega))
  rw [beq_iff_eq] at b
  refine seen_at (m + 1) i j ?_
  rw [b, Nat.testBit_two_pow_sub_one]
  exact decide_eq_true (by omega)
def leaps (m : Nat) : Nat → Nat → Nat → Nat × Nat
  | 0, i, b => (i, b)
  | n + 1, i, b => leaps m n (SetTable.leap m i b).1 (SetTable.leap m i b).2
theorem leaps_add (m : Nat) : ∀ (a n i b : Nat), leaps m (a + n) i b = leaps m n (leaps m a i b).1 (leaps m a i b).2
  | 0, n, i, b => by rw [Nat.zero_add]; rfl
  | a + 1, n, i, b => by
    rw [show a + 1 + n = (a + n) + 1 by omega]
    exact leaps_add m a n _ _
theorem leaps_snd (m : Nat) : ∀ (n i b : Nat), (leaps m n i b).2 = b / 32 ^ n
  | 0, i, b => by rw [Nat.pow_zero, Nat.div_one]; rfl
  | n + 1, i, b => by
    show (leaps m n _ (b / 32)).2 = _
    rw [leaps_snd m n, Nat.div_div_eq_div_mul, Nat.pow_succ, Nat.mul_comm]
theorem leaps_fst (m : Nat) (hm : 0 < m + 1) : ∀ (n i b : Nat), i ≤ m → (leaps m n i b).1 ≤ m
  | 0, i, b, h => h
  | n + 1, i, b, h => leaps_fst m hm n _ _ (Nat.lt_succ_iff.mp (Nat.mod_lt _ hm))
theorem leaps_zero (m : Nat) : ∀ (n i : Nat), (leaps m n i 0).1 = goBy m n i
  | 0, i => rfl
  | n + 1, i => by
    show (leaps m n ((i * 5 + 1 + 0 / 32) % (m + 1)) (0 / 32)).1 = _
    rw [Nat.zero_div, Nat.add_zero]
    exact leaps_zero m n _
/-- every place is the begin of a run, soon -/
theorem reach {m i b j : Nat} (hm : Msk m) (hi : i ≤ m) (hb : b < 2 ^ 64) (hj : j ≤ m) : ∃ n, n < SetTable.turns m ∧ (leaps m n i b).1 = j := by
  have e2 : (leaps m 13 i b).2 = 0 := by
    rw [leaps_snd]
    exact Nat.div_eq_of_lt (Nat.lt_of_lt_of_le hb (by decide))
  have h1 := leaps_fst m (Nat.succ_pos m) 13 i b hi
  obtain ⟨n, l, e⟩ := met hm h1 hj
  refine ⟨13 + n, by show 13 + n < m + 15; omega, ?_⟩
  rw [leaps_add, e2, leaps_zero]
  exact e
theorem has_no (j : Nat) : SetTable.has #[] j = false := rfl
theorem slot_of {t : SetTable} (hd : t.dummies = #[]) (j : Nat) : (t.slot j = .empty) ∨ ∃ i, t.slot j = .live i ∧ i < t.place.size := by
  unfold SetTable.slot
  dsimp only
  rw [hd]
  by_cases c : (t.place[SetTable.below t.place j]? == some j) = true
  · rw [if_pos c]
    refine .inr ⟨_, rfl, ?_⟩
    exact (Array.getElem?_eq_some_iff.mp (beq_iff_eq.mp c)).1
  · rw [if_neg c]
    rw [has_no, if_neg (by decide)]
    exact .inl rfl
theorem slot_no {t : SetTable} (hd : t.dummies = #[]) {j : Nat} (h : j ∉ t.place.toList) : t.slot j = .empty := by
  unfold SetTable.slot
  dsimp only
  rw [hd]
  by_cases c : (t.place[SetTable.below t.place j]? == some j) = true
  · exact absurd (Array.mem_toList_iff.mpr (Array.mem_of_getElem? (beq_iff_eq.mp c))) h
  · rw [if_neg c, has_no, if_neg (by decide)]
abbrev at_ (m j r i b : Nat) : SetTable.Probe := ⟨j, r, i, b, none⟩
theorem go_found {t : SetTable} (hd : t.dummies = #[]) {g : Nat → Int} {h : Int} (hg : ∀ i, i < t.place.size → g i ≠ h) : ∀ (N i b fuel : Nat), (∃ n, n < N ∧ (leaps t.mask n i b).1 ∉ t.place.toList) → 10 * N ≤ fuel →
    ∃ j, SetTable.probe.go t g h fuel (at_ t.mask i (SetTable.runEnd t.mask i - i) i b) = some (.empty j none)
  | 0, i, b, fuel, ⟨n, hn, _⟩, _ => absurd hn (Nat.not_lt_zero n)
  | N + 1, i, b, fuel, ⟨n, hn, hq⟩, hf => by
    have runs : ∀ (r j fuel : Nat), r + 1 + 10 * N ≤ fuel → ((∃ n, n < N ∧ (leaps t.mask n (SetTable.leap t.mask i b).1 (SetTable.leap t.mask i b).2).1 ∉ t.place.toList) ∨ j ∉ t.place.toList) →
        ∃ j', SetTable.probe.go t g h fuel (at_ t.mask j r i b) = some (.empty j' none) := by
      intro r
      induction r with
      | zero =>
        intro j fuel hf hx
        obtain ⟨fuel, rfl⟩ : ∃ f, fuel = f + 1 := ⟨fuel - 1, by omega⟩
        unfold SetTable.probe.go
        rcases slot_of hd j with e | ⟨k, e, lk⟩
        · rw [e]
          exact ⟨j, rfl⟩
        · rw [e]
          have ne : (g k == h) = false := by rw [beq_eq_false_iff_ne]; exact hg k lk
          dsimp only
          rw [ne, if_neg (by decide)]
          rcases hx with hx | hx
          · exact go_found hd hg N _ _ fuel hx (by omega)
          · rw [slot_no hd hx] at e
            cases e
      | succ r ih =>
        intro j fuel hf hx
        obtain ⟨fuel, rfl⟩ : ∃ f, fuel = f + 1 := ⟨fuel - 1, by omega⟩
        unfold SetTable.probe.go
        rcases slot_of hd j with e | ⟨k, e, lk⟩
        · rw [e]
          exact ⟨j, rfl⟩
        · rw [e]
          have ne : (g k == h) = false := by rw [beq_eq_false_iff_ne]; exact hg k lk
          dsimp only
          rw [ne, if_neg (by decide)]
          rcases hx with hx | hx
          · exact ih (j + 1) fuel (by omega) (.inl hx)
          · rw [slot_no hd hx] at e
            cases e
    have rl : SetTable.runEnd t.mask i - i ≤ 9 := by
      unfold SetTable.runEnd
      split <;> omega
    refine runs _ i fuel (by omega) ?_
    cases n with
    | zero => exact .inr hq
    | succ n => exact .inl ⟨n, by omega, hq⟩
/-- one of more places than there are in a row is not in it -/
theorem lacks : ∀ (n : Nat) (l : List Nat), l.length < n → ∃ j, j < n ∧ j ∉ l
  | 0, l, h => absurd h (Nat.not_lt_zero _)
  | n + 1, l, h => by
    by_cases c : n ∈ l
    · obtain ⟨j, hj, hn⟩ := lacks n (l.erase n) (by rw [List.length_erase_of_mem c]; have := List.length_pos_of_mem c; omega)
      exact ⟨j, Nat.lt_succ_of_lt hj, fun q => hn ((List.mem_erase_of_ne (Nat.ne_of_lt hj)).mpr q)⟩
    · exact ⟨n, Nat.lt_succ_self n, c⟩
theorem bits_lt (h : Int) : SetTable.bits h < 2 ^ 64 := by
  unfold SetTable.bits
  have := Int.emod_lt_of_pos h (show (0 : Int) < 2 ^ 64 by decide)
  have := Int.emod_nonneg h (show ((2 : Int) ^ 64) ≠ 0 by decide)
  omega
theorem probe_found {t : SetTable} (hm : Msk t.mask) (hd : t.dummies = #[]) (few : t.place.size ≤ t.mask) {g : Nat → Int} {h : Int} (hg : ∀ i, i < t.place.size → g i ≠ h) : ∃ j, t.probe g h (t.probeStart h) = some (.empty j none) := by
  obtain ⟨j, hj, hn⟩ := lacks (t.mask + 1) t.place.toList (by rw [Array.length_toList]; omega)
  obtain ⟨n, l, e⟩ := reach (i := SetTable.bits h % (t.mask + 1)) hm (Nat.lt_succ_iff.mp (Nat.mod_lt _ (Nat.succ_pos _))) (bits_lt h) (Nat.lt_succ_iff.mp hj)
  exact go_found hd hg (SetTable.turns t.mask) _ _ _ ⟨n, l, by rw [e]; exact hn⟩ (Nat.le_refl _)
theorem free_found {m : Nat} {owner : Array (Option Nat)} : ∀ (N i b : Nat), (∃ n, n < N ∧ (owner.getD (leaps m n i b).1 (some 0)).isNone = true) → ∃ j, SetTable.layClean.free m owner N i b = some j ∧ (owner.getD j (some 0)).isNone = true
  | 0, i, b, ⟨n, hn, _⟩ => absurd hn (Nat.not_lt_zero n)
  | N + 1, i, b, ⟨n, hn, hq⟩ => by
    unfold SetTable.layClean.free
    cases e : (List.range (SetTable.runEnd m i + 1 - i)).find? fun k => (owner.getD (i + k) (some 0)).isNone with
    | some k => exact ⟨i + k, rfl, List.find?_some (p := fun k => (owner.getD (i + k) (some 0)).isNone) e⟩
    | none =>
      cases n with
      | zero =>
        have z := List.find?_eq_none.mp e 0 (List.mem_range.mpr (by unfold SetTable.runEnd; split <;> omega))
        rw [Nat.add_zero] at z
        exact absurd hq z
      | succ n => exact free_found N _ _ ⟨n, by omega, hq⟩
def rowO (m : Nat) (owner : Array (Option Nat)) : List Nat := (List.range (m + 1)).filterMap fun j => owner.getD j none
structure Ow (m c : Nat) (owner : Array (Option Nat)) : Prop where
  sz : owner.size = m + 1
  many : (rowO m owner).length = c
  lt : ∀ k ∈ rowO m owner, k < c
theorem fm_congr {α : Type} {f g : Nat → Option α} : ∀ {l : List Nat}, (∀ x ∈ l, f x = g x) → l.filterMap f = l.filterMap g
  | [], _ => rfl
  | x :: l, h => by
    have e := h x List.mem_cons_self
    have r := fm_congr fun y hy => h y (List.mem_cons_of_mem _ hy)
    rw [List.filterMap_cons, List.filterMap_cons, e, r]
theorem fm_len {f g : Nat → Option Nat} {j k : Nat} : ∀ {l : List Nat}, l.Nodup → j ∈ l → f j = none → g j = some k → (∀ x, x ≠ j → g x = f x) → (l.filterMap g).length = (l.filterMap f).length + 1 ∧ ∀ y ∈ l.filterMap g, y = k ∨ y ∈ l.filterMap f
  | [], _, h, _, _, _ => by cases h
  | x :: l, nd, h, hf, hg, he => by
    obtain ⟨n1, n2⟩ := List.nodup_cons.mp nd
    by_cases c : x = j
    · subst c
      have same : l.filterMap g = l.filterMap f := fm_congr fun y hy => he y fun e => n1 (by rw [← e]; exact hy)
      rw [List.filterMap_cons_some hg, List.filterMap_cons_none hf, same]
      exact ⟨rfl, fun y hy => (List.mem_cons.mp hy)⟩
    · have hl : j ∈ l := (List.mem_cons.mp h).resolve_left fun e => c e.symm
      obtain ⟨a, b⟩ := fm_len n2 hl hf hg he
      cases e : f x with
      | none =>
        rw [List.filterMap_cons_none ((he x c).trans e), List.filterMap_cons_none e]
        exact ⟨a, b⟩
      | some z =>
        rw [List.filterMap_cons_some ((he x c).trans e), List.filterMap_cons_some e]
        refine ⟨by rw [List.length_cons, List.length_cons, a], fun y hy => ?_⟩
        rcases List.mem_cons.mp hy with q | q
        · exact .inr (by rw [q]; exact List.mem_cons_self)
        · exact (b y q).imp_right (List.mem_cons_of_mem _)
theorem fm_all {α : Type} {f : Nat → Option α} : ∀ {l : List Nat}, (∀ x ∈ l, f x ≠ none) → (l.filterMap f).length = l.length
  | [], _ => rfl
  | x :: l, h => by
    cases e : f x with
    | none => exact absurd e (h x List.mem_cons_self)
    | some z => rw [List.filterMap_cons_some e, List.length_cons, List.length_cons, fm_all fun y hy => h y (List.mem_cons_of_mem _ hy)]
theorem ow_none {m : Nat} {owner : Array (Option Nat)} {j : Nat} (h : (owner.getD j (some 0)).isNone = true) : j < owner.size ∧ owner.getD j none = none := by
  rw [Array.getD_eq_getD_getElem?] at h
  cases e : owner[j]? with
  | none =>
    rw [e] at h
    cases h
  | some z =>
    rw [e] at h
    have h : z.isNone = true := h
    refine ⟨(Array.getElem?_eq_some_iff.mp e).1, ?_⟩
    rw [Array.getD_eq_getD_getElem?, e]
    cases z with
    | none => rfl
    | some z => cases h
theorem Ow.free {m c : Nat} {owner : Array (Option Nat)} (w : Ow m c owner) (hm : Msk m) (hc : c ≤ m) (h : Int) : ∃ j, SetTable.layClean.free m owner (SetTable.turns m) (SetTable.bits h % (m + 1)) (SetTable.bits h) = some j ∧ (owner.getD j (some 0)).isNone = true := by
  obtain ⟨j, hj, hn⟩ : ∃ j, j < m + 1 ∧ owner.getD j none = none := by
    apply Classical.byContradiction
    intro no
    have z := fm_all (f := fun j => owner.getD j none) (l := List.range (m + 1)) fun x hx e => no ⟨x, List.mem_range.mp hx, e⟩
    have z : (rowO m owner).length = (List.range (m + 1)).length := z
    rw [w.many, List.length_range] at z
    omega
  have hs := w.sz
  have hn2 : (owner.getD j (some 0)).isNone = true := by
    have lt : j < owner.size := by omega
    rw [Array.getD_eq_getD_getElem?, Array.getElem?_eq_getElem lt] at hn ⊢
    have hn : owner[j] = none := hn
    show (owner[j]).isNone = true
    rw [hn]
    rfl
  obtain ⟨n, l, e⟩ := reach (i := SetTable.bits h % (m + 1)) hm (Nat.lt_succ_iff.mp (Nat.mod_lt _ (Nat.succ_pos _))) (bits_lt h) (Nat.lt_succ_iff.mp hj)
  exact free_found (SetTable.turns m) _ _ ⟨n, l, by rw [e]; exact hn2⟩
theorem Ow.put {m c : Nat} {owner : Array (Option Nat)} (w : Ow m c owner) {j : Nat} (h : (owner.getD j (some 0)).isNone = true) : Ow m (c + 1) (owner.setIfInBounds j (some c)) := by
  obtain ⟨lt, hn⟩ := ow_none h (m := m)
  have hs := w.sz
  have same : ∀ x, x ≠ j → (owner.setIfInBounds j (some c)).getD x none = owner.getD x none := fun x hx => by
    rw [Array.getD_eq_getD_getElem?, Array.getD_eq_getD_getElem?, Array.getElem?_setIfInBounds_ne (fun e => hx e.symm)]
  have self : (owner.setIfInBounds j (some c)).getD j none = some c := by
    rw [Array.getD_eq_getD_getElem?, Array.getElem?_setIfInBounds_self_of_lt lt]
    rfl
  obtain ⟨a, b⟩ := fm_len (f := fun x => owner.getD x none) (g := fun x => (owner.setIfInBounds j (some c)).getD x none) (l := List.range (m + 1)) List.nodup_range (List.mem_range.mpr (by omega)) hn self same
  refine ⟨by rw [Array.size_setIfInBounds]; exact hs, a.trans (congrArg Nat.succ w.many), fun k hk => ?_⟩
  rcases b k hk with q | q
  · rw [q]
    exact Nat.lt_succ_self c
  · exact Nat.lt_succ_of_lt (w.lt k q)
abbrev layF (m : Nat) (acc : Option (Array (Option Nat) × Nat)) (h : Int) : Option (Array (Option Nat) × Nat) := do
  let (owner, k) ← acc
  let j ← SetTable.layClean.free m owner (SetTable.turns m) (SetTable.bits h % (m + 1)) (SetTable.bits h)
  pure (owner.setIfInBounds j (some k), k + 1)
theorem lay_ok {m : Nat} (hm : Msk m) : ∀ (hs : List Int) (c : Nat) (owner : Array (Option Nat)), Ow m c owner → c + hs.length ≤ m → ∃ o', hs.foldl (layF m) (some (owner, c)) = some (o', c + hs.length) ∧ Ow m (c + hs.length) o'
  | [], c, owner, w, _ => ⟨owner, rfl, w⟩
  | h :: hs, c, owner, w, hl => by
    rw [List.length_cons] at hl
    obtain ⟨j, e, n⟩ := w.free hm (by omega) h
    obtain ⟨o', e2, w2⟩ := lay_ok hm hs (c + 1) _ (w.put n) (by omega)
    refine ⟨o', ?_, by rw [List.length_cons, show c + (hs.length + 1) = c + 1 + hs.length by omega]; exact w2⟩
    have e1 : layF m (some (owner, c)) h = some (owner.setIfInBounds j (some c), c + 1) := by
      show (do let j ← SetTable.layClean.free m owner (SetTable.turns m) (SetTable.bits h % (m + 1)) (SetTable.bits h); pure (owner.setIfInBounds j (some c), c + 1)) = _
      rw [e]
      rfl
    rw [List.foldl_cons, e1, e2, List.length_cons, show c + (hs.length + 1) = c + 1 + hs.length by omega]
theorem ow_new (m : Nat) : Ow m 0 (Array.replicate (m + 1) none) := by
  have e : rowO m (Array.replicate (m + 1) none) = [] := by
    unfold rowO
    rw [List.filterMap_eq_nil_iff]
    intro j hj
    have hj := List.mem_range.mp hj
    rw [Array.getD_eq_getD_getElem?, Array.getElem?_eq_getElem (by rw [Array.size_replicate]; exact hj), Array.getElem_replicate]
    rfl
  exact ⟨Array.size_replicate, by rw [e]; rfl, fun k hk => by rw [e] at hk; cases hk⟩
theorem relaid_found (t : SetTable) {hs : Array Int} {wanted m : Nat} (hw : SetTable.sizeAbove wanted - 1 = m) (hm : Msk m) (hl : hs.size ≤ m) :
    ∃ t' order, t.relaid hs wanted = some (t', order) ∧ t'.mask = m ∧ t'.place.size = hs.size ∧ t'.dummies = #[] ∧ order.size = hs.size ∧ ∀ k ∈ order.toList, k < hs.size := by
  obtain ⟨o', e, w⟩ := lay_ok hm hs.toList 0 _ (ow_new m) (by rw [Array.length_toList]; omega)
  rw [Nat.zero_add, Array.length_toList] at e w
  have el : SetTable.layClean m hs = some o' := by
    unfold SetTable.layClean
    rw [← Array.foldl_toList]
    have e3 : hs.toList.foldl (layF m) (some (Array.replicate (m + 1) none, 0)) = some (o', hs.size) := e
    exact (congrArg (Option.map (·.1)) e3)
  have en : (((List.range (m + 1)).filterMap fun j => (o'.getD j none).map (j, ·)).map (·.2)) = rowO m o' := by
    rw [List.map_filterMap]
    refine fm_congr fun j _ => ?_
    cases o'.getD j none <;> rfl
  have len : ((List.range (m + 1)).filterMap fun j => (o'.getD j none).map (j, ·)).length = hs.size := by
    rw [← List.length_map (f := (·.2)), en, w.many]
  refine ⟨_, _, by unfold SetTable.relaid SetTable.laid; rw [hw, el]; rfl, rfl, ?_, rfl, ?_, ?_⟩
  · rw [List.size_toArray, List.length_map]
    exact len
  · rw [List.size_toArray, List.length_map]
    exact len
  · intro k hk
    rw [List.toList_toArray, en] at hk
    exact w.lt k hk
end BigSet

namespace BigSet
open PySem PySem.Spec PyProof.Rows L2
structure SN (h : Heap) (a : Addr) (hs : List Int) (n : Nat) (es : Array (Int × Value)) (ep : Nat) (t : SetTable) : Prop where
  ob : ∃ o, h.get? a = some o ∧ o.ExactSet ∧ o.data = .set es ep t
  sz : es.size = n
  pl : t.place.size = n
  dm : t.dummies = #[]
  mq : Msk t.mask
  room : n * 5 < t.mask * 3
  hh : ∀ e ∈ es.toList, e.1 ∈ hs
section
variable {P : Program} {w : World} {A : Around} {E : Value → Shared → Prop} {s : Shared} {h : Heap} {a : Addr} {hs : List Int} {n : Nat} {es : Array (Int × Value)} {ep : Nat} {t : SetTable}
theorem SN.fits (R : SN h a hs n es ep t) : t.fits es.size = true := by
  have e1 := R.sz
  have e2 := R.pl
  have e3 := R.room
  have e4 := R.dm
  unfold SetTable.fits SetTable.fill
  rw [e4, e1, e2, Bool.and_eq_true]
  exact ⟨beq_self_eq_true n, decide_eq_true (by show n + 0 ≤ _; omega)⟩
theorem SN.keep {h' : Heap} (R : SN h a hs n es ep t) (k : ∀ o, h.get? a = some o → h'.get? a = some o) : SN h' a hs n es ep t := by
  obtain ⟨o, e, r⟩ := R.ob
  exact ⟨⟨o, k o e, r⟩, R.sz, R.pl, R.dm, R.mq, R.room, R.hh⟩
theorem put_is (t : SetTable) (hd : t.dummies = #[]) (j : Nat) : (t.put j).1.mask = t.mask ∧ (t.put j).1.dummies = #[] ∧ (t.put j).1.place.size = t.place.size + 1 ∧ (t.put j).1.led = t.led := by
  refine ⟨rfl, ?_, ?_, rfl⟩
  · show (if SetTable.has t.dummies j = true then _ else t.dummies) = #[]
    rw [hd, has_no, if_neg (by decide)]
  · show (SetTable.insertAt t.place (SetTable.below t.place j) j).size = _
    unfold SetTable.insertAt
    rw [Array.size_append, Array.size_push, Array.size_extract, Array.size_extract]
    omega
theorem ins_size {α : Type} (xs : Array α) (p : Nat) (x : α) : (SetTable.insertAt xs p x).size = xs.size + 1 := by
  unfold SetTable.insertAt
  rw [Array.size_append, Array.size_push, Array.size_extract, Array.size_extract]
  omega
theorem ins_mem {α : Type} {xs : Array α} {p : Nat} {x y : α} (h : y ∈ (SetTable.insertAt xs p x).toList) : y = x ∨ y ∈ xs.toList := by
  rw [SetTable.toList_insertAt] at h
  rcases List.mem_append.mp h with q | q
  · exact .inr (List.mem_of_mem_take q)
  · rcases List.mem_cons.mp q with q | q
    · exact .inl q
    · exact .inr (List.mem_of_mem_drop q)
theorem wide_511 {m n : Nat} (hm : Msk m) (h1 : (n + 1) * 5 ≥ m * 3) (h2 : n * 5 < m * 3) (few : n + 1 ≤ 250) : ∃ M, SetTable.sizeAbove (SetTable.grown (n + 1)) - 1 = M ∧ Msk M ∧ SetTable.sizeAbove (SetTable.grown (n + 1)) ≤ 512 ∧ (n + 1) * 5 < M * 3 ∧ n + 1 ≤ M := by
  rcases hm with rfl | rfl | rfl | rfl
  · have : n = 4 := by omega
    subst this
    exact ⟨31, by decide +kernel, .inr (.inl rfl), by decide +kernel, by omega, by omega⟩
  · have : n = 18 := by omega
    subst this
    exact ⟨127, by decide +kernel, .inr (.inr (.inl rfl)), by decide +kernel, by omega, by omega⟩
  · have : n = 76 := by omega
    subst this
    exact ⟨511, by decide +kernel, .inr (.inr (.inr rfl)), by decide +kernel, by omega, by omega⟩
  · omega
/-- the table grows -/
theorem grow {Q : Unit → Shared → Prop} {o : Obj} {wanted M : Nat} (ho : s.heap.get? a = some o) (hx : o.ExactSet) (hd : o.data = .set es ep t) (sz : es.size = n) (pl : t.place.size = n) (dm : t.dummies = #[]) (room : n ≤ t.mask) (hh : ∀ e ∈ es.toList, e.1 ∈ hs)
    (hw : SetTable.sizeAbove wanted - 1 = M) (hM : Msk M) (h512 : SetTable.sizeAbove wanted ≤ 512) (hn : n * 5 < M * 3) (few : n ≤ M) (f250 : n ≤ 250) (q : ∀ h' es' ep' t', Heap.SameBut a s.heap h' → SN h' a hs n es' ep' t' → Q () { s with heap := h' }) : wpAny (model P w) A (setRelay a wanted) Q E s := by
  have fit : t.fits es.size = true := by
    unfold SetTable.fits SetTable.fill
    rw [dm, sz, pl, Bool.and_eq_true]
    exact ⟨beq_self_eq_true n, decide_eq_true (by show n + 0 ≤ _; omega)⟩
  obtain ⟨t', order, e, m1, m2, m3, m4, m5⟩ := relaid_found t (hs := es.map (·.1)) hw hM (by rw [Array.size_map, sz]; exact few)
  rw [Array.size_map] at m2 m4 m5
  have all : ∀ k ∈ order.toList, (fun (i : Nat) => es[i]?) k ≠ none := fun k hk z => by
    have z : es[k]? = none := z
    have l := m5 k hk
    rw [Array.getElem?_eq_getElem l] at z
    cases z
  have fsz : (order.filterMap (fun (i : Nat) => es[i]?)).size = es.size := by
    rw [← Array.length_toList, Array.toList_filterMap, fm_all all, Array.length_toList, m4]
  have fmem : ∀ y ∈ (order.filterMap (fun (i : Nat) => es[i]?)).toList, y ∈ es.toList := fun y hy => by
    rw [Array.toList_filterMap] at hy
    obtain ⟨k, _, hk⟩ := List.mem_filterMap.mp hy
    exact Array.mem_toList_iff.mpr (Array.mem_of_getElem? hk)
  rw [setRelay_eq]
  refine wpAny_bind ((wpAny_setState_of ho hd fit) ?_)
  dsimp only
  refine wp_if_neg (by rw [sizeLine_eq]; exact Nat.not_lt.mpr (Nat.le_trans h512 (by decide))) ?_
  rw [e]
  dsimp only
  refine wpAny_bind ?_
  refine wp_if_neg (by rw [fsz, bne_self_eq_false]; decide) ?_
  refine wpAny_pure ?_
  dsimp only
  refine wpAny_storeSet_of ho hd ?_ (by rw [fsz, sz, sizeLine_eq]; exact Nat.le_trans f250 (by decide))
  exact q _ _ (ep + 1) t' (Heap.SameBut.update ..) ⟨⟨_, store_at ho hd, ⟨hx.1, hx.2.1, hx.2.2⟩, rfl⟩, fsz.trans sz, by rw [m2]; exact sz, m3, by rw [m1]; exact hM, by rw [m1]; exact hn, fun y hy => hh y (fmem y hy)⟩
end
end BigSet

namespace BigSet
open PySem PySem.Spec PyProof.Rows L2 HotX L2H FP
section
variable {P : Program} {w : World} {A : Around} {E : Value → Shared → Prop} {s : Shared} {h : Heap} {a : Addr} {hs : List Int} {n : Nat} {es : Array (Int × Value)} {ep : Nat} {t : SetTable}
theorem SN.wide {hs' : List Int} (R : SN h a hs n es ep t) (k : ∀ x ∈ hs, x ∈ hs') : SN h a hs' n es ep t := ⟨R.ob, R.sz, R.pl, R.dm, R.mq, R.room, fun e he => k _ (R.hh e he)⟩
/-- a new hash: a place is found, nothing is compared -/
theorem look {x : Value} {g : Int} (R : SN s.heap a hs n es ep t) (new : g ∉ hs) {Q : SetFound → Shared → Prop} (q : ∀ j, Q (.free j false) s) : wpAny (model P w) A (setSearch a x g true) Q E s := by
  obtain ⟨o, ho, hx, hd⟩ := R.ob
  have sz := R.sz
  have pl := R.pl
  have room := R.room
  have ne : ∀ i, i < t.place.size → (fun i => (es[i]?.map (·.1)).getD 0) i ≠ g := fun i hi e => by
    have lt : i < es.size := by omega
    have e : (es[i]?.map (·.1)).getD 0 = g := e
    rw [Array.getElem?_eq_getElem lt] at e
    have e : (es[i]).1 = g := e
    exact new (by rw [← e]; exact R.hh _ (Array.mem_toList_iff.mpr (Array.getElem_mem lt)))
  obtain ⟨j, hj⟩ := probe_found R.mq R.dm (by omega) ne
  have odd : ¬ t.gaveWay = true := by
    unfold SetTable.gaveWay
    rcases R.mq with e | e | e | e <;> rw [e] <;> decide
  show wpAny _ _ (setSearchFrom a x g true (99999 + 1) none) _ _ _
  rw [setSearchFrom_succ]
  refine wpAny_bind ((wpAny_setState_of ho hd R.fits) ?_)
  dsimp only
  refine wp_if_neg odd ?_
  rw [Option.getD_none, hj]
  exact wpAny_pure (q j)
/-- it is added -/
theorem add {x : Addr} {k : List Int} (R : SN s.heap a hs n es ep t) (hx : IsT P w s.heap k x) (new : thash P w k ∉ hs) (few : n + 1 ≤ 250) {Q : Bool → Shared → Prop}
    (q : ∀ h' es' ep' t', Heap.SameBut a s.heap h' → SN h' a (thash P w k :: hs) (n + 1) es' ep' t' → Q true { s with heap := h' }) : wpAny (model P w) A (setAddHashed a (.ref x) (thash P w k)) Q E s := by
  obtain ⟨o, ho, ex, hd⟩ := R.ob
  have sz := R.sz
  have pl := R.pl
  have room := R.room
  unfold setAddHashed
  refine wpAny_holding ?_
  show wpAny _ _ (setAddHashedIn a (.ref x) (thash P w k) (99999 + 1)) _ _ _
  rw [setAddHashedIn_succ]
  refine wpAny_bind ((wpAny_setState_of ho hd R.fits) ?_)
  dsimp only
  refine wp_if_neg (by simp [byScan, Value.scannable]) ?_
  refine wpAny_bind (look R new fun j => ?_)
  dsimp only
  refine wpAny_bind ((wpAny_setState_of ho hd R.fits) ?_)
  obtain ⟨p1, p2, p3, p4⟩ := put_is t R.dm j
  dsimp only
  have i1 := ins_size es (t.put j).2 (thash P w k, Value.ref x)
  have i2 : ∀ e ∈ (SetTable.insertAt es (t.put j).2 (thash P w k, Value.ref x)).toList, e.1 ∈ thash P w k :: hs := fun e he => by
    rcases ins_mem he with z | z
    · rw [z]
      exact List.mem_cons_self
    · exact List.mem_cons_of_mem _ (R.hh e z)
  generalize SetTable.insertAt es (t.put j).2 (thash P w k, Value.ref x) = es1 at i1 i2 ⊢
  generalize (t.put j).1 = t1 at p1 p2 p3 ⊢
  have rest : ∀ t2 : SetTable, t2.mask = t.mask → t2.dummies = #[] → t2.place.size = n + 1 → wpAny (model P w) A (storeSet a es1 t2 >>= fun _ => (if !false && t2.tooFull then (setRelay a (SetTable.grown (es.size + 1)) >>= fun _ => pure true) else pure true)) Q E s := fun t2 q1 q2 q3 => by
    refine wpAny_bind (wpAny_storeSet_of ho hd ?_ (by rw [i1, sz, sizeLine_eq]; exact Nat.le_trans few (by decide)))
    have sb : Heap.SameBut a s.heap (s.heap.update a (Obj.putSet es1 t2)) := Heap.SameBut.update ..
    have at1 := store_at (es' := es1) (t' := t2) ho hd
    generalize s.heap.update a (Obj.putSet es1 t2) = h1 at sb at1 ⊢
    by_cases full : t2.tooFull = true
    · have big : (n + 1) * 5 ≥ t2.mask * 3 := by
        have z := full
        unfold SetTable.tooFull SetTable.fill at z
        have z := of_decide_eq_true z
        rw [q2, q3] at z
        exact z
      rw [q1] at big
      obtain ⟨M, w1, w2, w3, w4, w5⟩ := wide_511 R.mq big room few
      refine wp_if_pos (by rw [full]; rfl) (wpAny_bind ?_)
      rw [sz]
      refine grow (s := { s with heap := h1 }) (hs := thash P w k :: hs) at1 ⟨ex.1, ex.2.1, ex.2.2⟩ rfl (i1.trans (congrArg Nat.succ sz)) q3 q2 (by rw [q1]; have := R.mq; unfold Msk at this; omega) i2 w1 w2 w3 w4 w5 few fun h2 es2 ep2 t3 sb2 R2 => ?_
      exact wpAny_pure (q h2 es2 ep2 t3 (sb.trans sb2) R2)
    · refine wp_if_neg (by rw [Bool.eq_false_iff.mpr full]; decide) ?_
      refine wpAny_pure (q h1 es1 (ep + 1) t2 sb ⟨⟨_, at1, ⟨ex.1, ex.2.1, ex.2.2⟩, rfl⟩, i1.trans (congrArg Nat.succ sz), q3, q2, by rw [q1]; exact R.mq, ?_, i2⟩)
      have z := Bool.eq_false_iff.mpr full
      unfold SetTable.tooFull SetTable.fill at z
      have z := of_decide_eq_false z
      rw [q2, q3] at z
      have z : ¬ (n + 1 + 0) * 5 ≥ t2.mask * 3 := z
      omega
  have p3 : t1.place.size = n + 1 := by rw [p3, pl]
  by_cases pn : t1.plain = true
  · rw [if_pos pn]
    refine wpAny_bind (hashBy_tup hx ?_)
    rw [if_pos rfl]
    exact rest t1 p1 p2 p3
  · rw [if_neg pn]
    refine wpAny_bind (wpAny_pure ?_)
    rw [if_pos rfl]
    exact rest t1 p1 p2 p3
end
end BigSet

namespace BigSet
open PySem PySem.Spec PyProof.Rows L2 HotX L2H FP
abbrev Keeps (h h' : Heap) : Prop := ∀ b o, h.get? b = some o → h'.get? b = some o
abbrev hashes (P : Program) (w : World) (ks : List (Addr × List Int)) : List Int := ks.map fun p => thash P w p.2
section
variable {P : Program} {w : World} {A : Around} {R : Result → Shared → Prop} {I : Addr} {fp wr : List Addr} {G : Array GenState → Array GenState → Prop} {n : Nat} {Pv : Nat → Value → Prop} {St : Nat → Shared → Prop}
/-- the tuples are put in one by one -/
theorem putAll (W : WalksS P w A.in1 I fp wr G n Pv St) {S : Addr} (hS : S ∉ fp) {h0 : Heap} (new0 : h0.get? S = none) (wr0 : ∀ b ∈ wr, h0.get? b = none) {ks : List (Addr × List Int)} (hn : n = ks.length) (few : n ≤ 250) (val : ∀ i v, Pv i v → ∃ p, ks[i]? = some p ∧ v = .ref p.1) (tup : ∀ p ∈ ks, IsT P w h0 p.2 p.1) (nd : (hashes P w ks).Nodup) (hu : A.in1.units < cLine) :
    ∀ (k i : Nat) (s : Shared), i + k = n → St i s → Keeps h0 s.heap → (∃ es ep t, SN s.heap S (hashes P w (ks.take i)) i es ep t) →
      (∀ s', Moved (S :: wr) G s s' → Keeps h0 s'.heap → (∃ es ep t, SN s'.heap S (hashes P w (ks.take n)) n es ep t) → R (.ok (.ret .none)) s') →
      codeAny (model P w) A (.builtin "set.update.loop" ⟨[.ref S, .ref I], []⟩) R s
  | 0, i, s, hi, st, kp, ⟨es, ep, t, T⟩, q => by
    obtain rfl : i = n := by omega
    refine set_turn (W.done s _ _ st fun s1 m1 => ?_)
    exact (q s1 (m1.mono fun b z => List.mem_cons_of_mem _ z) (fun b o e => m1.heap b o (fun z => by rw [wr0 b z] at e; cases e) (kp b o e)) ⟨es, ep, t, T.keep fun o e => m1.heap S o (fun z => hS (W.sub _ z)) e⟩)
  | k + 1, i, s, hi, st, kp, ⟨es, ep, t, T⟩, q => by
    have hlt : i < n := by omega
    refine set_turn (W.item i s _ _ hlt st fun v s1 hP st1 m1 => ?_)
    obtain ⟨p, hp, rfl⟩ := val i v hP
    have kp1 : Keeps h0 s1.heap := fun b o e => m1.heap b o (fun z => by rw [wr0 b z] at e; cases e) (kp b o e)
    have T1 := T.keep (h' := s1.heap) fun o e => m1.heap S o (fun z => hS (W.sub _ z)) e
    have tk : ks.take (i + 1) = ks.take i ++ [p] := by rw [List.take_add_one, hp]; rfl
    have new : thash P w p.2 ∉ hashes P w (ks.take i) := fun z => by
      have nd2 : (hashes P w (ks.take (i + 1))).Nodup := (((List.take_sublist (i + 1) ks).map _).nodup) nd
      unfold hashes at nd2
      rw [tk, List.map_append, List.nodup_append] at nd2
      exact nd2.2.2 _ z _ List.mem_cons_self rfl
    have tp := isT_keep (tup p (List.mem_of_getElem? hp)) kp1
    unfold setAdd
    refine wpAny_holding (wpAny_bind (wpAny_pyHash_tuple hu tp ?_))
    refine add (s := { s1 with toks := s1.toks + (p.2.length + 1) }) T1 tp new (by omega) fun h2 es2 ep2 t2 sb T2 => ?_
    have same : ∀ b o, b ≠ S → s1.heap.get? b = some o → h2.get? b = some o := fun b o z e => (sb.2 b z).trans e
    refine putAll W hS new0 wr0 hn few val tup nd hu k (i + 1) _ (by omega) (W.frame _ s1 _ _ st1 (Nat.le_add_right _ _) fun b hb o e => same b o (fun z => hS (by rw [← z]; exact hb)) e) (fun b o e => same b o (fun z => by rw [z, new0] at e; cases e) (kp1 b o e)) ⟨es2, ep2, t2, T2.wide fun x hx => ?_⟩ fun s3 m3 kp3 T3 => ?_
    · unfold hashes
      rw [tk, List.map_append]
      exact (List.mem_cons.mp hx).elim (fun e => List.mem_append_right _ (by rw [e]; exact List.mem_cons_self)) fun e => List.mem_append_left _ e
    · exact q s3 (Moved.trans W.gtrans ((m1.mono fun b z => List.mem_cons_of_mem _ z).then_heap (Nat.le_add_right _ _) fun b o hb e => same b o (fun z => hb (by rw [z]; exact List.mem_cons_self)) e) m3) kp3 T3
end
section
variable {P : Program} {w : World} {A : Around} {E : Value → Shared → Prop} {s : Shared}
def MadeS (P : Program) (w : World) (n : Nat) (s s2 : Shared) : Prop := ∃ h' tk hs es ep t, s2 = { s with heap := h', toks := tk } ∧ SN h' s.heap.objs.size hs n es ep t ∧ ∀ b o, b < s.heap.objs.size → s.heap.get? b = some o → h'.get? b = some o
theorem none_at {h : Heap} {b : Addr} (hb : h.objs.size ≤ b) : h.get? b = none := by
  cases e : h.get? b with
  | none => rfl
  | some o => exact absurd (Heap.lt_size e) (Nat.not_lt.mpr hb)
/-- the set's own begin -/
theorem beginS {l : Addr} {items : Array Value} {ks : List (Addr × List Int)} {led : Bool} (hh : A.handled = none) (hl : s.heap.IsList l items) (hit : items.toList = ks.map fun p => Value.ref p.1) (tup : ∀ p ∈ ks, IsT P w s.heap p.2 p.1) (few : ks.length ≤ 250) (nd : (hashes P w ks).Nodup) (hu : A.units + 3 < cLine) :
    codeAny (model P w) A (.call (.builtin "set.__init__") ⟨[.ref s.heap.objs.size, .ref l], []⟩) (wants (fun r s2 => r = .none ∧ MadeS P w ks.length s s2) E) { s with heap := s.heap.push (bareSet led) } := by
  have many : items.size = ks.length := by rw [← Array.length_toList, hit, List.length_map]
  have lt : l < s.heap.objs.size := hl.elim fun o ho => Heap.lt_size ho.1
  have sz : (s.heap.push (bareSet led)).objs.size = s.heap.objs.size + 1 := Heap.size_push ..
  have l1 : (s.heap.push (bareSet led)).IsList l items := hl.push _
  have lI : l ≠ (s.heap.push (bareSet led)).objs.size := Nat.ne_of_lt (by rw [sz]; exact Nat.lt_succ_of_lt lt)
  have hB : A.in1.in1.handled = none := by simp [hh]
  refine set_started hl (putAll ((Walks.list hB _ l lI items).toS) (S := s.heap.objs.size) (fun z => ?_) (h0 := s.heap) (none_at (Nat.le_refl _)) (fun b z => none_at (by rw [List.mem_singleton.mp z, sz]; exact Nat.le_succ _)) many (by rw [many]; exact few) (fun i v hv => ?_) tup nd (by simp; omega) items.size 0 _ (Nat.zero_add _) ?_ ?_ ?_ (fun s2 m2 kp T => ?_))
  · rcases List.mem_cons.mp z with e | e
    · exact Nat.ne_of_lt (Nat.lt_succ_self _) (e.trans sz)
    · exact Nat.ne_of_gt lt (List.mem_singleton.mp e)
  · have z : items.toList[i]? = some v := by rw [Array.getElem?_toList]; exact hv
    rw [hit, List.getElem?_map] at z
    cases e : ks[i]? with
    | none =>
      rw [e] at z
      cases z
    | some p =>
      rw [e] at z
      exact ⟨p, rfl, (Option.some.inj z).symm⟩
  · exact ⟨⟨_, Heap.get?_push_size _ rfl, rfl, rfl⟩, l1.push _⟩
  · exact fun b o e => Heap.get?_push_of_some _ (Heap.get?_push_of_some _ e)
  · exact ⟨#[], 0, .fresh 0 0 led, ⟨bareSet led, Heap.get?_push_of_some _ (Heap.get?_push_size _ rfl), ⟨rfl, rfl, rfl⟩, rfl⟩, rfl, rfl, rfl, .inl rfl, (show 0 * 5 < 7 * 3 by decide), fun e he => by cases he⟩
  · rcases s2 with ⟨h2, g2, d2, t2, o2⟩
    rcases T with ⟨es, ep, t, T⟩
    cases show g2 = s.gens from m2.gens
    cases show d2 = s.drawn from m2.drawn
    cases show o2 = s.os from m2.os
    exact ⟨h2, t2, _, es, ep, t, rfl, many ▸ T, fun b o _ e => kp b o e⟩
/-- set(l) -/
theorem makeS {l : Addr} {items : Array Value} {ks : List (Addr × List Int)} {Q : Value → Shared → Prop} (hh : A.handled = none) (hl : s.heap.IsList l items) (hit : items.toList = ks.map fun p => Value.ref p.1) (tup : ∀ p ∈ ks, IsT P w s.heap p.2 p.1) (few : ks.length ≤ 250) (nd : (hashes P w ks).Nodup) (hu : A.units + 6 < cLine)
    (q : ∀ s2, MadeS P w ks.length s s2 → Q (.ref s.heap.objs.size) s2) : wpAny (model P w) A (call (.type "set") [.ref l]) Q E s := by
  exact set_called (fun _ => beginS (by simp [hh]) hl hit tup few nd (by simp; omega)) q
end
end BigSet

namespace FP
open PySem PySem.Spec PyProof.Rows L2 HotX L2H BigSet
def phash (k : List Int) : Int := reduceHash (Builtin.Tuple.tupleHashOf (k.map hashInt))
theorem phash_all : ((List.range 200).map fun n => phash [((n / 20 : Nat) : Int), ((n % 20 : Nat) : Int)]).Nodup := by decide +kernel
theorem phash_inj {r c r' c' : Nat} (h1 : r < 10) (h2 : c < 20) (h3 : r' < 10) (h4 : c' < 20) (e : phash [(r : Int), (c : Int)] = phash [(r' : Int), (c' : Int)]) : r = r' ∧ c = c' := by
  have at_ : ∀ r c : Nat, r < 10 → c < 20 → ((List.range 200).map fun n => phash [((n / 20 : Nat) : Int), ((n % 20 : Nat) : Int)])[r * 20 + c]? = some (phash [(r : Int), (c : Int)]) := fun r c a b => by
    rw [List.getElem?_map, List.getElem?_range (by omega)]
    show some (phash [(((r * 20 + c) / 20 : Nat) : Int), (((r * 20 + c) % 20 : Nat) : Int)]) = _
    rw [show (r * 20 + c) / 20 = r by omega, show (r * 20 + c) % 20 = c by omega]
  have a := at_ r c h1 h2
  have b := at_ r' c' h3 h4
  rw [← e] at b
  have := (List.getElem?_inj (by rw [List.length_map, List.length_range]; omega) phash_all).mp (a.trans b.symm)
  omega
def tLenSetP (K : PySem.W.Frag) (ta : TE) : TE := fun σ H Q => ta σ H fun x H1 => ∃ (l : Addr) (ks : List (Addr × List Int)), x = V.ref l ∧ SqL K H1 l (ks.map fun p => V.ref p.1) ∧ (∀ p ∈ ks, SqT K H1 p.1 (p.2.map V.int)) ∧ ks.length ≤ 250 ∧ (ks.map fun p => phash p.2).Nodup ∧ Q (.int (ks.length : Nat)) H1
theorem pe_lenSetP {X : Cx} {a : Expr} {ta : TE} {p p2 q pos : Pos} (hc : X.calm = true) (hu : X.A.units + 6 < cLine) (hg : Gl X "len") (hm : X.mg "len" = none) (hg2 : Gl X "set") (hm2 : X.mg "set" = none) (ha : PE X a ta)
    (na : starEach [a] X.env = (false, eval a X.env) :: starEach [] X.env := by rfl) : PE X (.Call (.Name "len" p) [.Call (.Name "set" p2) [a] [] q] [] pos) (tLenSetP X.K ta) := by
  refine ⟨fun pins s σ H Q I h => ?_⟩
  refine Call_ (ld_blt I hg hm boot_len (callWith_builtin1 (args_cons ?_ rfl) rfl rfl))
  refine Call_ (ld_blt I hg2 hm2 boot_set (callWith_type1 (args_cons (thn (ha.run pins s σ H _ I h) fun v s1 ⟨x, H1, I1, r1, q1⟩ => args_nil ?_) na) na rfl))
  obtain ⟨l, ks, rfl, hq, hT, few, nd, q1⟩ := q1
  cases r1
  obtain ⟨its, r, pl, _⟩ := I1.list hq
  have e := refs_of_vals r
  subst e
  refine makeS (ks := ks) (I1.ok.hd hc) pl.isList (by rw [List.toList_toArray]) (fun p hp => I1.isT (hT p hp)) few nd hu fun s2 m => args_nil ?_
  obtain ⟨h2, t2, hs, es, ep, t, rfl, T, hk⟩ := m
  obtain ⟨o, ho, hex, hd⟩ := T.ob
  have I2 : Inv X pins σ H1 { s1 with heap := h2, toks := t2 } := I1.kept fun b o e => hk b o (Heap.lt_size e) e
  refine call_len_set ho hex hd T.fits (by rw [T.sz]; omega) ⟨.int (ks.length : Nat), H1, I2.tok _, ⟨_, by rw [T.sz]⟩, q1⟩
section
variable {X : Cx} {δ : De} {ω : Om} {a : Expr} {p p2 q pos : Pos}
abbrev pairI (p : Nat × Nat) : PyData := .tuple [.int (p.1 : Int), .int (p.2 : Int)]
theorem pairs_at {K : PySem.W.Frag} {H : Hp} : ∀ {ps : List (Nat × Nat)} {vs : List V}, DpAll K H vs (ps.map pairI) → ∃ ks : List (Addr × List Int), vs = ks.map (fun p => V.ref p.1) ∧ (∀ p ∈ ks, SqT K H p.1 (p.2.map V.int)) ∧ ks.map (·.2) = ps.map fun p => [(p.1 : Int), (p.2 : Int)]
  | [], _, .nil => ⟨[], rfl, (fun p hp => by cases hp), rfl⟩
  | (r, c) :: ps, _, .cons h rest => by
    obtain ⟨ks, e1, e2, e3⟩ := pairs_at rest
    cases h with
    | tup g1 g2 =>
      rename_i b us
      cases g2 with
      | cons x1 g3 =>
        cases g3 with
        | cons x2 g4 =>
          cases g4
          cases x1
          cases x2
          refine ⟨(b, [(r : Int), (c : Int)]) :: ks, by rw [e1]; rfl, fun p hp => ?_, by rw [List.map_cons, e3]; rfl⟩
          rcases List.mem_cons.mp hp with z | z
          · rw [z]
            exact g1
          · exact e2 p z
theorem pd_lenSetP {ps : List (Nat × Nat)} (nd : ps.Nodup) (small : ∀ p ∈ ps, p.1 < 10 ∧ p.2 < 20) (few : ps.length ≤ 250) (hc : X.calm = true) (hu : X.A.units + 6 < cLine) (hm : X.mg "len" = none) (hm2 : X.mg "set" = none) (ha : PL X δ ω a (ps.map pairI)) (hg : Gl X "len" := by rfl) (hg2 : Gl X "set" := by rfl) (na : starEach [a] X.env = (false, eval a X.env) :: starEach [] X.env := by rfl) :
    PD X δ ω (.Call (.Name "len" p) [.Call (.Name "set" p2) [a] [] q] [] pos) (.int (ps.length : Nat)) := fun σ H rl Q k =>
  we (pe_lenSetP hc hu hg hm hg2 hm2 pe_w na) (ha σ H rl _ fun l vs H1 s1 g d => by
    obtain ⟨ks, e1, e2, e3⟩ := pairs_at (dpam hid_sub d)
    subst e1
    have len : ks.length = ps.length := by
      have := congrArg List.length e3
      rw [List.length_map, List.length_map] at this
      exact this
    refine ⟨l, ks, rfl, g, e2, by rw [len]; exact few, ?_, by rw [len]; exact k _ H1 s1 (.int _)⟩
    have e4 : (ks.map fun p => phash p.2) = ps.map fun p => phash [(p.1 : Int), (p.2 : Int)] := by
      have := congrArg (List.map phash) e3
      rw [List.map_map, List.map_map] at this
      exact this
    rw [e4]
    refine List.pairwise_map.mpr (List.Pairwise.imp_of_mem (fun {x y} hx hy ne e => ne ?_) nd)
    obtain ⟨a1, a2⟩ := small x hx
    obtain ⟨b1, b2⟩ := small y hy
    obtain ⟨c1, c2⟩ := phash_inj a1 a2 b1 b2 e
    exact Prod.ext c1 c2)
end
end FP

namespace FP
open PySem PySem.Spec PyProof.Rows L2 HotX L2H
def isTx (k : Str) : Value → Bool
  | .str y _ => y == k
  | _ => false
theorem tx_gives (k : Str) (t : Tok) : ∀ {zs : List Str} {its : List Value}, Vals (zs.map V.str) its → (∀ y ∈ its, MeetsSeq.EqGives y (.str k t) (isTx k y)) ∧ its.countP (isTx k) = zs.count k
  | [], _, .nil => ⟨(fun y hy => by cases hy), rfl⟩
  | z :: zs, _, .cons h r => by
    obtain ⟨u, rfl⟩ := h
    obtain ⟨a, b⟩ := tx_gives k t r
    refine ⟨fun y hy => ?_, ?_⟩
    · rcases List.mem_cons.mp hy with q | q
      · rw [q]
        exact PyProof.Rows.eqGives_str z k u t
      · exact a y q
    · rw [List.countP_cons, b, List.count_cons]
      rfl
def rCntT (K : PySem.W.Frag) : V → List V → Hp → VK → Prop := fun x xs H Q => ∃ (p : Addr) (zs : List Str) (k : Str), x = .ref p ∧ xs = [.str k] ∧ SqL K H p (zs.map V.str) ∧ Q (.int (zs.count k : Nat)) H
theorem mt_cntT {X : Cx} : MtR X "list.count" (rCntT X.K) := fun pins s σ H x xs v us Q I rx rxs h => by
  obtain ⟨p, zs, k, rfl, rfl, hs, q⟩ := h
  cases rx
  obtain ⟨u, rfl, t, rfl⟩ := rxs.one
  obtain ⟨its, rv, ⟨⟨cls, dd, data, sl⟩, n, ho, hc, hdn, hd⟩, hlen⟩ := I.list hs
  simp only at hc hd
  subst hc hd
  obtain ⟨g1, g2⟩ := tx_gives k t rv
  refine call_meets PySem.F.slot_list_count ⟨_, ho, rfl⟩ PySem.F.entry_list_count (PySem.F.args_list_count_2 _ _) (SeqAt.list_countAt p its.toArray n dd sl (.str k t) (isTx k)) ⟨ho, fun y hy => (g1 y (by simpa using hy)).at _ _, .int (zs.count k : Nat), H, I.tok _, ⟨s.toks, ?_⟩, q⟩
  show Value.int ((its.toArray.toList.countP (isTx k) : Nat) : Int) s.toks = _
  rw [List.toList_toArray, g2]
theorem dpa_txt {K : PySem.W.Frag} {H : Hp} : ∀ {zs : List Str} {vs : List V}, DpAll K H vs (zs.map PyData.str) → vs = zs.map V.str
  | [], _, .nil => rfl
  | z :: zs, _, .cons h r => by
    cases h
    rw [dpa_txt r]
    rfl
theorem pd_countT {X : Cx} {δ : De} {ω : Om} {a b : Expr} {pos apos : Pos} {zs : List Str} {k : Str} (ha : PL X δ ω a (zs.map .str)) (hb : PD X δ ω b (.str k)) (hbase : attributeBase a "count" X.env (eval a X.env) = eval a X.env := by rfl)
    (hfew : ((backTo pos (starEach [b] X.env)).all (fun x => !x.1) && (backToKw pos (keywordEach [] X.env)).all (fun x => x.1.isSome)
      && decide (([b] : List Expr).length + ([] : List Keyword).length + (if ([] : List Keyword).isEmpty then 0 else 1) < 30)) = true := by rfl)
    (hline : (apos.endLine == pos.line) = true := by rfl) (hst : starEach [b] X.env = (false, eval b X.env) :: starEach [] X.env := by rfl) : PD X δ ω (.Call (.Attribute a "count" apos) [b] [] pos) (.int ((zs.count k : Nat) : Int)) := fun σ H rl Q q =>
  we (pe_bm PySem.F.plainAttrs_list PySem.F.slot_list_count PySem.F.type_list_count mt_cntT pe_w (pa_cons pe_w pa_nil hst) hbase hfew hline hst) (ha σ H rl _ fun l vs H1 s1 h1 d1 => ⟨.inl ⟨rfl, vs, h1⟩, hb σ H1 (rl.mono s1) _ fun v H2 s2 d2 => by
    cases d2
    obtain rfl := dpa_txt d1
    exact ⟨l, zs, k, rfl, rfl, s2.seq h1, q _ H2 (s1.trans s2) (.int _)⟩⟩)
end FP

namespace FP
open PySem PySem.Spec PyProof.Rows L2 HotX L2H
theorem en_newT (a : Addr) (items : Array Value) : Meets (Builtin.«enumerate.__new__» ⟨[.type "enumerate", .ref a], []⟩) fun _ R s => s.heap.IsTuple a items ∧ R (.ok (.ret (.ref (s.heap.objs.size + 1)))) { s with heap := (s.heap.push { cls := .type "tuple_iterator", data := .fields #[.ref a, .int 0 0] }).push (er .none s.heap.objs.size 0 .none) } :=
  .of_wp fun prog w A R s h => by
    obtain ⟨hp, g, d, tk, os⟩ := s
    obtain ⟨ht, hr⟩ := h
    have sz : (hp.push { cls := .type "tuple_iterator", data := .fields #[.ref a, .int 0 0] }).objs.size = hp.objs.size + 1 := Heap.size_push ..
    have e0 := sub_enumerate
    have own : ∀ {A' : Around} {E : Value → Shared → Prop} {Q : Value → Shared → Prop}, Q (.ref hp.objs.size) ⟨hp.push { cls := .type "tuple_iterator", data := .fields #[.ref a, .int 0 0] }, g, d, tk, os⟩ → wpAny (model prog w) A' (pyIter (.ref a)) Q E ⟨hp, g, d, tk, os⟩ := fun q => wpAny_pyIter_tuple (s := ⟨hp, g, d, tk, os⟩) ht q
    obtain ⟨ob, ho, hcl, n, hdt⟩ := id ht
    obtain ⟨c0, dd, dt, sl⟩ := ob
    simp only at hcl hdt
    subst hcl
    subst hdt
    have hr : R (.ok (.ret (.ref (hp.push { cls := .type "tuple_iterator", data := .fields #[.ref a, .int 0 0] }).objs.size))) ⟨(hp.push { cls := .type "tuple_iterator", data := .fields #[.ref a, .int 0 0] }).push (er .none hp.objs.size 0 .none), g, d, tk, os⟩ := by rw [sz]; exact hr
    have ho : Heap.get? (Shared.heap ⟨hp, g, d, tk, os⟩) a = some { cls := .type "tuple", dict := dd, data := .seq items n, slots := sl } := ho
    wp_walk using wpAny_loadPart' ho, own
    refine wpAny_stack_any fun st => wpAny_pure ?_
    split
    · rename_i c _ _ _ _ _
      cases (c == Value.type "enumerate") <;> (wp_walk using wpAny_loadPart' ho, own; exact ⟨_, rfl, hr⟩)
    · wp_walk using wpAny_loadPart' ho, own
      exact ⟨_, rfl, hr⟩
def ItET (K : PySem.W.Frag) (a : Addr) : It :=
  ⟨fun i H => ∃ (xs : List V) (x : V), SqT K H a xs ∧ xs[i]? = some x, fun i H v H' => ∃ T x, v = .ref T ∧ H T = none ∧ H' = upd H T (.tup [.int (i : Nat), x]) ∧ ∀ xs, SqT K H a xs → xs[i]? = some x, fun i H => ∃ xs : List V, SqT K H a xs ∧ xs.length ≤ i⟩
theorem no_same {h : Heap} {a b : Addr} {o p : Obj} (h1 : h.get? a = some o) (h2 : h.get? b = some p) (ne : o.cls ≠ p.cls) : a ≠ b := fun e => by
  subst e
  rw [h1] at h2
  exact ne (congrArg Obj.cls (Option.some.inj h2))
theorem turn_enumT {P : Program} {w : World} {K : PySem.W.Frag} {elts : List Expr} {kk : Nat} {tpos : Pos} {a e it : Addr} (ne : e ≠ it) : Turn P w K (.Tuple elts kk tpos) (ItET K a) [e, it] e (fun i h => (∃ old, IsEnum h e it ((i : Nat) : Int) old) ∧ h.IsTupleIter it a i) where
  mem := List.mem_cons_self
  obj := fun i h st c hc => by
    obtain ⟨⟨_, g1⟩, o, g2, _, d⟩ := st
    rcases List.mem_cons.mp hc with rfl | hc
    · exact ⟨_, g1, nofun⟩
    · exact (List.mem_singleton.mp hc) ▸ ⟨o, g2, fun v q => by rw [d] at q; cases q⟩
  keep := fun i h h' st k => ⟨st.1.imp fun _ q => k e List.mem_cons_self _ q, let ⟨o, g, r⟩ := st.2; ⟨o, k it (by simp) o g, r⟩⟩
  item := by
    rintro X rfl rfl rfl calm i pins s σ H E I free st ⟨xs, x, hq, hx⟩
    obtain ⟨⟨old, he⟩, hit⟩ := st
    obtain ⟨its, rv, tp, _⟩ := I.tuple hq
    have tp : s.heap.IsTuple a its.toArray := tp
    obtain ⟨u, hu, ru⟩ := rv.get hx
    have old1 : ∀ c ∈ [e, it], c < s.heap.objs.size := fun c hc => by
      rcases List.mem_cons.mp hc with rfl | hc
      · exact Heap.lt_size he
      · obtain ⟨_, g, _⟩ := hit
        exact (List.mem_singleton.mp hc) ▸ Heap.lt_size g
    have lt : i < its.toArray.size := by
      rw [List.size_toArray]
      exact (List.getElem?_eq_some_iff.mp hu).1
    obtain ⟨oa, ga, ca, _⟩ := id tp
    obtain ⟨oi, gi, ci, _⟩ := id hit
    have ai : a ≠ it := no_same ga gi (by rw [ca, ci]; decide)
    have ea : e ≠ a := no_same he ga (by rw [ca]; show (Value.type "enumerate") ≠ Value.type "tuple"; decide)
    refine wpAny_pyNext_enum_itemD (Draws.tuple (prog := X.prog) (w := X.w) (A := X.A.in1) (I.ok.hd calm) it a ai its.toArray) he ⟨hit, tp⟩ lt ne (by simp [ne, ea]) fun v h1 tk pv out w1 hT sz k1 => ⟨_, rfl, wpAny_letOwnedTupleGo_enum (s := { s with heap := h1, toks := tk + 1 }) out fun h2 he2 sb => ?_⟩
    have ev : v = u := by
      have pv : its[i]? = some v := by simpa using pv
      rw [hu] at pv
      exact (Option.some.inj pv).symm
    subst ev
    have up : ∀ c, c ≠ e → h2.get? c = h1.get? c := fun c hc => sb.2 c hc
    have I1 : Inv X pins σ (upd H s.heap.objs.size (.tup [.int (i : Nat), x])) { s with heap := h2, toks := tk + 1 } := I.turnedNew (ch := [e, it]) (fun b ob nb q => by
      have nn : b ≠ e ∧ b ≠ it := by simpa using nb
      exact (up b nn.1).trans (k1 b ob nn.1 nn.2 q)) free (Nat.le_refl _) ⟨by show 2 ≤ sizeLine; decide, [.int i tk, v], .cons ⟨_, rfl⟩ (.cons ru .nil), _, (up _ (Nat.ne_of_gt (old1 e List.mem_cons_self))).trans hT, rfl, _, rfl⟩
    refine ⟨.ref s.heap.objs.size, _, I1, rfl, ⟨_, x, rfl, I.hok.fresh (Nat.le_refl _), rfl, fun ys hy => by rw [I.tuple_inj hy hq]; exact hx⟩, ⟨⟨_, by rw [Int.natCast_add]; exact he2⟩, let ⟨o, g, r⟩ := w1.1; ⟨o, (up it (fun z => ne z.symm)).trans g, r⟩⟩, fun b hb => ?_⟩
    rw [upd_ne (Nat.ne_of_lt (old1 b hb))]
    exact (free b hb).1
  done := by
    rintro X rfl rfl rfl calm i pins s σ H E I free st ⟨xs, hq, hx⟩
    obtain ⟨⟨old, he⟩, hit⟩ := st
    obtain ⟨its, rv, tp, _⟩ := I.tuple hq
    have tp : s.heap.IsTuple a its.toArray := tp
    obtain ⟨oa, ga, ca, _⟩ := id tp
    obtain ⟨oi, gi, ci, _⟩ := id hit
    have ai : a ≠ it := no_same ga gi (by rw [ca, ci]; decide)
    have hl := rv.length
    have ge : its.toArray.size ≤ i := by rw [List.size_toArray]; omega
    obtain ⟨f0, f1, f2, f3, f4, f5⟩ := free it (by simp)
    have hT : s.TypeIs (.ref e) "enumerate" := ⟨_, he, rfl⟩
    refine en_end (R := fun h' => Heap.ExtBut it s.heap h') he (fun Q' E' k => wpAny_nextOf_tuple_end (I.ok.hd calm) hit tp (Array.getElem?_eq_none ge) fun h' x eb ox => k h' x eb ox) fun h' eb => ⟨rfl, I.turned (t' := s.toks) (fun b o hb q => eb b o hb q) f0 f1 f3 f4 f5⟩
  self := fun A i s Q E st h => st.1.elim fun _ he => wpAny_pyIter_enum he h
def iEnumT (K : PySem.W.Frag) (ta : TA) : TI := fun σ H R => ta σ H fun vs H1 => ∃ a xs, vs = [.ref a] ∧ SqT K H1 a xs ∧ R (ItET K a) H1
theorem pi_enumT {X : Cx} {e : Expr} {ta : TA} {p pos tpos : Pos} {elts : List Expr} {kk : Nat} (hg : Gl X "enumerate") (hm : X.mg "enumerate" = none) (ha : PA X [e] ta) (hs : starEach [e] X.env = [(false, eval e X.env)] := by rfl) :
    PI X (.Tuple elts kk tpos) (.Call (.Name "enumerate" p) [e] [] pos) (iEnumT X.K ta) := ⟨fun pins s σ H R I h => by
  refine Call_ (ld_blt I hg hm boot_enumerate (PyProof.Rows.callWith_type1 (thn (ha.run pos pins s σ H _ I h) fun us s1 ⟨vs, H1, I1, r1, a, xs, ex, hq, q⟩ => ?_) hs rfl))
  subst ex
  rcases r1 with _ | ⟨⟨⟩, r1⟩
  cases r1
  obtain ⟨its, rv, tp, _⟩ := I1.tuple hq
  have tp : s1.heap.IsTuple a its.toArray := tp
  have sz : (s1.heap.push { cls := .type "tuple_iterator", data := .fields #[.ref a, .int 0 0] }).objs.size = s1.heap.objs.size + 1 := Heap.size_push ..
  have he : IsEnum ((s1.heap.push { cls := .type "tuple_iterator", data := .fields #[.ref a, .int 0 0] }).push (er .none s1.heap.objs.size 0 .none)) (s1.heap.objs.size + 1) s1.heap.objs.size 0 .none := by
    have z := Heap.get?_push_size (s1.heap.push { cls := .type "tuple_iterator", data := .fields #[.ref a, .int 0 0] }) (o := er .none s1.heap.objs.size 0 .none) rfl
    rw [sz] at z
    exact z
  refine callType_new F.called_enumerate (by decide) (F.typeCall_enumerate_1 _) (F.newCall_enumerate_1 _) (fun obj => F.args_object_init_2 obj _) F.entry_enumerate_new (en_newT a its.toArray) ⟨tp, ⟨_, he, rfl⟩, ?_⟩
  refine wpAny_pyIter_enum he ⟨_, [s1.heap.objs.size + 1, s1.heap.objs.size], _, _, H1, rfl, I1.kept (t' := s1.toks) (fun b o q => Heap.get?_push_of_some _ (Heap.get?_push_of_some _ q)), turn_enumT (Nat.succ_ne_self _), ⟨⟨.none, he⟩, _, Heap.get?_push_of_some _ (Heap.get?_push_size _ rfl), rfl, rfl⟩, fun b hb => ?_, q⟩
  have hle : s1.heap.objs.size ≤ b := by
    rcases List.mem_cons.mp hb with rfl | hb
    · exact Nat.le_succ _
    · exact Nat.le_of_eq (List.mem_singleton.mp hb).symm
  exact I1.fpOk hle (I1.hok.fresh hle)⟩
theorem wt_enumT {X : Cx} {δ : De} {ω : Om} {a : Expr} {pos p tpos : Pos} {elts : List Expr} {kk : Nat} {ds : List PyData} (hm : X.mg "enumerate" = none) (h : PD X δ ω a (.tuple ds)) (hg : Gl X "enumerate" := by rfl) (hs : starEach [a] X.env = [(false, eval a X.env)] := by rfl) (he : starEach [a] X.env = (false, eval a X.env) :: starEach [] X.env := by rfl) :
    PWt X δ ω (.Tuple elts kk tpos) (.Call (.Name "enumerate" p) [a] [] pos) (enumD ds) := by
  refine ⟨_, pi_enumT hg hm (pa_cons pe_w pa_nil he) hs, fun σ H rl R k => h σ H rl _ fun v H1 s1 d1 => ?_⟩
  cases d1 with
  | tup g1 g2 =>
    rename_i b vs
    have len := dpa_len g2
    refine ⟨b, vs, rfl, same_sqt hid_sub g1, k _ H1 s1 fun T H2 g => ⟨fun i hi => ?_, ?_, fun i y H3 hi w => ?_⟩⟩
    · rw [enumD_len] at hi
      obtain ⟨y, e1, _⟩ := dpa_get g2 (List.getElem?_eq_getElem hi)
      exact ⟨vs, y, ke_sqt g g1, e1⟩
    · exact ⟨vs, ke_sqt g g1, by rw [enumD_len]; exact Nat.le_of_eq len⟩
    · rw [enumD_len] at hi
      obtain ⟨T', x, e1, e2, e3, e4⟩ := w
      obtain ⟨y', q1, q2⟩ := dpa_get g2 (List.getElem?_eq_getElem hi)
      have e5 := e4 vs (ke_sqt g g1)
      rw [q1] at e5
      cases e5
      refine ⟨T', _, [.int (i : Int), ds[i]], e1, e2, e3, ?_, .cons (.int _) (.cons q2 .nil)⟩
      unfold enumD
      rw [List.getElem?_mapIdx, List.getElem?_eq_getElem hi]
      rfl
end FP

namespace FP
open PySem PySem.Spec PyProof.Rows L2
/-- data without lists -/
inductive NL : PyData → Prop
  | non : NL .none
  | bl (b : Bool) : NL (.bool b)
  | int (i : Int) : NL (.int i)
  | str (x : Str) : NL (.str x)
  | tup {ds : List PyData} : (∀ d ∈ ds, NL d) → NL (.tuple ds)
def NLs : Sd → Prop
  | .im d => NL d
  | .ad _ => True
section
variable {X : Cx} {W : WX} {T : List (Addr × Str)} {δ : De} {ps : List Addr} {os lent : Os} {e : Expr} {d dz : PyData} {D : Addr} {K : PySem.W.Frag}
theorem lend_same {H : Hp} : Same (hid (ads ⟨ps, os ++ lent⟩) H) (hid (ads ⟨ps, os⟩) H) := hid_more fun b hb => by
  rcases List.mem_append.mp hb with q | q
  · exact List.mem_append_left _ q
  · refine List.mem_append_right _ ?_
    show b ∈ (os ++ lent).map (·.1)
    rw [List.map_append]
    exact List.mem_append_left _ q
end
end FP

namespace FP
open PySem PySem.Spec PyProof.Rows L2
section
variable {X : Cx} {W : WX} {T : List (Addr × Str)} {δ : De} {ω : Om} {e o : Expr} {ss : List Stmt} {R : Out → Prop} {pos apos cpos : Pos} {z : Addr}
end
end FP

namespace FP
open PySem PySem.Spec PyProof.Rows L2
section
variable {X : Cx} {W : WX} {T : List (Addr × Str)} {δ : De} {ω : Om} {a b e : Expr} {r : List Expr} {pos p : Pos}
end
end FP

namespace FP
open PySem PySem.Spec PyProof.Rows L2
section
variable {X : Cx} {W : WX} {T : List (Addr × Str)} {δ : De} {ω : Om} {a : Expr} {pos p : Pos}
end
end FP

namespace FP
open PySem PySem.Spec PyProof.Rows L2
section
variable {X : Cx} {W : WX} {T : List (Addr × Str)} {δ : De} {ω : Om} {iter c elt : Expr} {pos : Pos} {R : Out → Prop}
end
end FP

namespace FP
open PySem PySem.Spec PyProof.Rows L2
theorem tree_out {K : PySem.W.Frag} {ps : List Addr} {os lent : Os} {H : Hp} (hp : ∀ p ∈ lent, p.1 ∉ ps) (ro : Ro K H ⟨ps, os ++ lent⟩) {a : Addr} {o : Od} (h : (a, o) ∈ lent) : a ∉ ads ⟨ps, os⟩ := fun q => by
  have nd : ((os ++ lent).map (·.1)).Nodup := ro.nd
  rw [List.map_append] at nd
  rcases List.mem_append.mp q with q | q
  · exact hp _ h q
  · exact (List.nodup_append.mp nd).2.2 a q a (List.mem_map.mpr ⟨_, h, rfl⟩) rfl
mutual
theorem tree_dp {K : PySem.W.Frag} {ps : List Addr} {os lent : Os} {H : Hp} (hp : ∀ p ∈ lent, p.1 ∉ ps) (ro : Ro K H ⟨ps, os ++ lent⟩) : ∀ {r : Sd} {d : PyData}, OwnD lent r d → ∀ {v : V}, SdV K (hid (ads ⟨ps, os ++ lent⟩) H) r v → Dp K (hid (ads ⟨ps, os⟩) H) v d
  | _, _, .im d, v, h => dpm lend_same h
  | _, _, .tup (a := a) m hs, v, h => by
    have h : v = .ref a := h
    subst h
    obtain ⟨vs, g1, g2⟩ := ro.ob a _ (List.mem_append_right _ m)
    exact .tup (SqT.of (hid_of (tree_out hp ro m) g1)) (tree_dps hp ro hs g2)
  | _, _, .lst (a := a) m hs, v, h => by
    have h : v = .ref a := h
    subst h
    obtain ⟨vs, g1, g2⟩ := ro.ob a _ (List.mem_append_right _ m)
    exact .lst (SqL.of (hid_of (tree_out hp ro m) g1)) (tree_dps hp ro hs g2)
theorem tree_dps {K : PySem.W.Frag} {ps : List Addr} {os lent : Os} {H : Hp} (hp : ∀ p ∈ lent, p.1 ∉ ps) (ro : Ro K H ⟨ps, os ++ lent⟩) : ∀ {rs : List Sd} {ds : List PyData}, OwnDs lent rs ds → ∀ {vs : List V}, Paired (SdV K (hid (ads ⟨ps, os ++ lent⟩) H)) rs vs → DpAll K (hid (ads ⟨ps, os⟩) H) vs ds
  | _, _, .nil, _, .nil => .nil
  | _, _, .cons h hs, _, .cons a b => .cons (tree_dp hp ro h a) (tree_dps hp ro hs b)
end
section
variable {X : Cx} {W : WX} {T : List (Addr × Str)} {δ : De} {ω : Om} {tg iter : Expr} {pos : Pos} {sa ss : List Stmt} {R : Out → Prop}
end
end FP

namespace FP
open PySem PySem.Spec PyProof.Rows L2
section
variable {X : Cx} {W : WX} {T : List (Addr × Str)} {δ : De} {ω : Om} {a e : Expr} {pos p : Pos} {R : Out → Prop}
end
end FP

namespace K41
open PySem PySem.Spec PyProof.Rows L2 FP
structure Bl (mg : Str → Option Value) : Prop where
  len : mg "len" = none
  range : mg "range" = none
  isi : mg "isinstance" = none
  int : mg "int" = none
  bool : mg "bool" = none
  str : mg "str" = none
  tuple : mg "tuple" = none
  all : mg "all" = none
  ord : mg "ord" = none
  min : mg "min" = none
  max : mg "max" = none
def isWhole : PyData → Bool
  | .int _ => true
  | _ => false
def isWithin (d : PyData) (lo hi : Int) : Bool := match d with
  | .int i => decide (lo ≤ i) && decide (i ≤ hi)
  | _ => false
def isTupleOf (d : PyData) (n : Int) : Bool := match d with
  | .tuple ds => decide ((ds.length : Int) = n)
  | _ => false
def okSign (c : Nat) : Bool := (decide (32 ≤ c) && decide (c ≤ 126)) && !decide (c = 37)
def areSigns (d : PyData) : Bool := match d with
  | .str z => z.cps.toList.all okSign
  | _ => false
def isSign (d : PyData) : Bool := match d with
  | .str z => z.cps.toList.all okSign && decide (z.length = 1)
  | _ => false
def isCell (d : PyData) : Bool := match d with
  | .tuple [a, b] => isSign a && isWithin b 0 7
  | _ => false
def isI : PyData → Bool
  | .int _ => true
  | .bool _ => true
  | _ => false
def isB : PyData → Bool
  | .bool _ => true
  | _ => false
def isS : PyData → Bool
  | .str _ => true
  | _ => false
def isT : PyData → Bool
  | .tuple _ => true
  | _ => false
def isL : PyData → Bool
  | .list _ => true
  | _ => false
theorem k_int : ∀ d : PyData, kitB (kindD d) "int" = some (isI d)
  | .none => (by decide +kernel : kitB "NoneType" "int" = some false)
  | .bool _ => (by decide +kernel : kitB "bool" "int" = some true)
  | .int _ => (by decide +kernel : kitB "int" "int" = some true)
  | .str _ => (by decide +kernel : kitB "str" "int" = some false)
  | .list _ => (by decide +kernel : kitB "list" "int" = some false)
  | .tuple _ => (by decide +kernel : kitB "tuple" "int" = some false)
  | .dict _ => (by decide +kernel : kitB "dict" "int" = some false)
theorem k_bool : ∀ d : PyData, kitB (kindD d) "bool" = some (isB d)
  | .none => (by decide +kernel : kitB "NoneType" "bool" = some false)
  | .bool _ => (by decide +kernel : kitB "bool" "bool" = some true)
  | .int _ => (by decide +kernel : kitB "int" "bool" = some false)
  | .str _ => (by decide +kernel : kitB "str" "bool" = some false)
  | .list _ => (by decide +kernel : kitB "list" "bool" = some false)
  | .tuple _ => (by decide +kernel : kitB "tuple" "bool" = some false)
  | .dict _ => (by decide +kernel : kitB "dict" "bool" = some false)
theorem k_str : ∀ d : PyData, kitB (kindD d) "str" = some (isS d)
  | .none => (by decide +kernel : kitB "NoneType" "str" = some false)
  | .bool _ => (by decide +kernel : kitB "bool" "str" = some false)
  | .int _ => (by decide +kernel : kitB "int" "str" = some false)
  | .str _ => (by decide +kernel : kitB "str" "str" = some true)
  | .list _ => (by decide +kernel : kitB "list" "str" = some false)
  | .tuple _ => (by decide +kernel : kitB "tuple" "str" = some false)
  | .dict _ => (by decide +kernel : kitB "dict" "str" = some false)
theorem k_tuple : ∀ d : PyData, kitB (kindD d) "tuple" = some (isT d)
  | .none => (by decide +kernel : kitB "NoneType" "tuple" = some false)
  | .bool _ => (by decide +kernel : kitB "bool" "tuple" = some false)
  | .int _ => (by decide +kernel : kitB "int" "tuple" = some false)
  | .str _ => (by decide +kernel : kitB "str" "tuple" = some false)
  | .list _ => (by decide +kernel : kitB "list" "tuple" = some false)
  | .tuple _ => (by decide +kernel : kitB "tuple" "tuple" = some true)
  | .dict _ => (by decide +kernel : kitB "dict" "tuple" = some false)
theorem k_list : ∀ d : PyData, kitB (kindD d) "list" = some (isL d)
  | .none => (by decide +kernel : kitB "NoneType" "list" = some false)
  | .bool _ => (by decide +kernel : kitB "bool" "list" = some false)
  | .int _ => (by decide +kernel : kitB "int" "list" = some false)
  | .str _ => (by decide +kernel : kitB "str" "list" = some false)
  | .list _ => (by decide +kernel : kitB "list" "list" = some true)
  | .tuple _ => (by decide +kernel : kitB "tuple" "list" = some false)
  | .dict _ => (by decide +kernel : kitB "dict" "list" = some false)
theorem bb_int : bootBuiltins "int" = some (.type "int") := by decide +kernel
theorem bb_bool : bootBuiltins "bool" = some (.type "bool") := by decide +kernel
theorem bb_str : bootBuiltins "str" = some (.type "str") := by decide +kernel
theorem bb_tuple : bootBuiltins "tuple" = some (.type "tuple") := by decide +kernel
theorem bb_list : bootBuiltins "list" = some (.type "list") := by decide +kernel
section
variable {P : Program} {w : World} {K : PySem.W.Frag} {mg : Str → Option Value} {base : Heap} {f : Addr} {fd : FuncData}
abbrev Df (K : PySem.W.Frag) (x : Str) (st : Stmt) (f : Addr) (fd : FuncData) : Prop := FunD K x x (defArgs st) (defBody st) (defScope st) [] [] f fd
def frWhole : List PyData → Rs → Prop := fun ds r => ∃ d, ds = [d] ∧ r = .ok (.bool (isWhole d))
theorem sc_whole : FnScope ["value"] ["value"] (defScope s_is_whole) := ⟨rfl, rfl, rfl, by decide +kernel, rfl, by decide +kernel, by decide +kernel⟩
theorem ok_whole (F : Df K "is_whole" s_is_whole f fd) (hm : mg "is_whole" = some (.ref f)) (B : Bl mg) : DefOk P w K mg base 1 "is_whole" frWhole := by
  refine def_ok F hm sc_whole (fun _ _ _ _ _ _ us hl => match us, hl with | [_], _ => rfl) (fun ds r h => by obtain ⟨d, rfl, _⟩ := h; rfl) (fun cdv A outer s H E qs ds r hr h => ?_)
  obtain ⟨d, rfl, rfl⟩ := h
  refine sd_ret (pd_and (pd_isi B.isi B.int bb_int (pd_var 0) (k_int d)) (fun _ => pd_one (pd_not (pd_isi B.isi B.bool bb_bool (pd_var 0) (k_bool d))))) ?_
  cases d <;> rfl
def frWithin : List PyData → Rs → Prop := fun ds r => ∃ d lo hi, ds = [d, .int lo, .int hi] ∧ r = .ok (.bool (isWithin d lo hi))
theorem sc_within : FnScope ["value", "least", "most"] ["value", "least", "most"] (defScope s_is_within) := ⟨rfl, rfl, rfl, by decide +kernel, rfl, by decide +kernel, by decide +kernel⟩
theorem ok_within (F : Df K "is_within" s_is_within f fd) (hm : mg "is_within" = some (.ref f)) (G1 : DefOk P w K mg base 1 "is_whole" frWhole) : DefOk P w K mg base 2 "is_within" frWithin := by
  refine def_ok F hm sc_within (fun _ _ _ _ _ _ us hl => match us, hl with | [_, _, _], _ => rfl) (fun ds r h => by obtain ⟨d, lo, hi, rfl, _⟩ := h; rfl) (fun cdv A outer s H E qs ds r hr h => ?_)
  obtain ⟨d, lo, hi, rfl, rfl⟩ := h
  cases hd : isWhole d with
  | false =>
    refine sd_ret (pd_andF (pd_call G1 hr (pds_cons (pd_var 0) pds_nil) ⟨d, rfl, by rw [hd]⟩)) ?_
    cases d <;> first | exact rfl | cases hd
  | true =>
    obtain ⟨i, rfl⟩ : ∃ i, d = .int i := by
      cases d <;> first | exact ⟨_, rfl⟩ | cases hd
    refine sd_ret (pd_and (pd_call G1 hr (pds_cons (pd_var 0) pds_nil) ⟨_, rfl, rfl⟩) (fun _ => pd_one (pd_chain op_le op_le rd_B0 (fun _ => rd_B0) (pd_var 1) (pd_var 0) (fun _ => pd_var 2)))) ?_
    exact rfl
def frTupleOf : List PyData → Rs → Prop := fun ds r => ∃ d n, ds = [d, .int n] ∧ r = .ok (.bool (isTupleOf d n))
theorem sc_tupleof : FnScope ["value", "many"] ["value", "many"] (defScope s_is_tuple_of) := ⟨rfl, rfl, rfl, by decide +kernel, rfl, by decide +kernel, by decide +kernel⟩
theorem ok_tupleof (F : Df K "is_tuple_of" s_is_tuple_of f fd) (hm : mg "is_tuple_of" = some (.ref f)) (B : Bl mg) : DefOk P w K mg base 1 "is_tuple_of" frTupleOf := by
  refine def_ok F hm sc_tupleof (fun _ _ _ _ _ _ us hl => match us, hl with | [_, _], _ => rfl) (fun ds r h => by obtain ⟨d, n, rfl, _⟩ := h; rfl) (fun cdv A outer s H E qs ds r hr h => ?_)
  obtain ⟨d, n, rfl, rfl⟩ := h
  by_cases hd : ∃ ds, d = .tuple ds
  · obtain ⟨ds, rfl⟩ := hd
    refine sd_ret (pd_and (pd_isi B.isi B.tuple bb_tuple (pd_var 0) (k_tuple _)) (fun _ => pd_one (pd_eqI (pd_lenT B.len (pd_var 0)) (pd_var 1)))) ?_
    exact rfl
  · have hk : kitB (kindD d) "tuple" = some false := by
      rw [k_tuple]
      cases d <;> first | rfl | exact absurd ⟨_, rfl⟩ hd
    refine sd_ret (pd_andF (pd_isi B.isi B.tuple bb_tuple (pd_var 0) hk)) ?_
    cases d <;> first | exact rfl | exact absurd ⟨_, rfl⟩ hd
def frSigns : List PyData → Rs → Prop := fun ds r => ∃ d, ds = [d] ∧ r = .ok (.bool (areSigns d)) ∧ ∀ z, d = .str z → z.length ≤ 1000
theorem sc_signs : FnScope ["value", "sign"] ["value"] (defScope s_are_signs) := ⟨rfl, rfl, rfl, by decide +kernel, rfl, by decide +kernel, by decide +kernel⟩
theorem rd_leS {K : PySem.W.Frag} {y z : Str} : RD K (fun x y H Q => ∃ i j, x = .str i ∧ y = .str j ∧ Q (.bl (!decide (j.cps.toList < i.cps.toList))) H) (.str y) (.str z) (.bool (!decide (z.cps.toList < y.cps.toList))) := fun ps x w H t hx hy Q q => by
  cases hx
  cases hy
  exact ⟨y, z, rfl, rfl, q _ H (Same.refl H) (.bl _)⟩
theorem le_one (a b : Nat) : (!decide (([b] : List Nat) < [a])) = decide (a ≤ b) := by
  by_cases h : a ≤ b
  · rw [decide_eq_true h, decide_eq_false]
    · rfl
    · intro z
      simp only [List.cons_lt_cons_iff] at z
      rcases z with z | ⟨_, z⟩
      · omega
      · exact absurd z (by simp)
  · rw [decide_eq_false h, decide_eq_true]
    · rfl
    · simp only [List.cons_lt_cons_iff]
      left
      omega
theorem ok_signs (F : Df K "are_signs" s_are_signs f fd) (hm : mg "are_signs" = some (.ref f)) (B : Bl mg) (hp : GlD K mg "PERCENT" (.int 37)) : DefOk P w K mg base 1 "are_signs" frSigns := by
  refine def_ok F hm sc_signs (fun _ _ _ _ _ _ us hl => match us, hl with | [_], _ => rfl) (fun ds r h => by obtain ⟨d, rfl, _⟩ := h; rfl) (fun cdv A outer s H E qs ds r hr h => ?_)
  obtain ⟨d, rfl, rfl, hz⟩ := h
  by_cases hd : ∃ z, d = .str z
  · obtain ⟨z, rfl⟩ := hd
    refine sd_ifF (pt_notd (k := true) (pt_bool (pd_isi B.isi B.str bb_str (pd_var 0) (k_str _)))) ?_
    have hl : (signsD z).length = z.length := by
      unfold signsD
      rw [List.length_map, Array.length_toList]
      rfl
    refine sd_ret (d := .bool ((z.cps.toList.map okSign).all id)) (pd_all rfl B.all (PN.pl (pn_lc (y := "sign") (j := 1) (items := signsD z) rfl sc_signs.nd (PWk.ws (wk_str (pd_var 0))) ?_ (blkOk_by (N := ["value", "sign"]) (sc := defScope s_are_signs) (by decide +kernel)) (fun _ _ _ _ _ => pg_name sc_signs.nd rfl (Or.inl rfl)) ?_ (by rw [hl]; exact Nat.le_trans (hz z rfl) (by decide))))) ?_
    · unfold signsD
      rw [List.length_map, List.length_map, List.length_map]
    · intro i d y hd hy D o s H C cl fp
      unfold signsD at hd
      rw [List.getElem?_map] at hd
      rw [List.getElem?_map, List.getElem?_map] at hy
      cases hc : z.cps.toList[i]? with
      | none =>
        rw [hc] at hd
        cases hd
      | some c =>
        rw [hc] at hd hy
        cases hd
        cases hy
        refine PD.eq (pd_and (pd_chain op_le_str op_le_str rd_leS (fun _ => rd_leS) pd_str (pd_var 1) (fun _ => pd_str)) (fun _ => pd_one (pd_neI (pd_ord B.ord (pd_var 1) rfl rfl) (pd_glob hp)))) ?_
        show PyData.bool ((!decide (([c] : List Nat) < [32]) && !decide (([126] : List Nat) < [c])) && !decide (((c : Nat) : Int) = 37)) = PyData.bool (okSign c)
        rw [le_one, le_one]
        unfold okSign
        have e : decide (((c : Nat) : Int) = 37) = decide (c = 37) := by
          by_cases h : c = 37
          · rw [decide_eq_true h, decide_eq_true (by omega)]
          · rw [decide_eq_false h, decide_eq_false (by omega)]
        rw [e]
    · show Rs.ok (.bool (z.cps.toList.all okSign)) = Rs.ok (.bool _)
      rw [List.all_map]
      rfl
  · have hk : kitB (kindD d) "str" = some false := by
      rw [k_str]
      cases d <;> first | rfl | exact absurd ⟨_, rfl⟩ hd
    refine sd_ifT (pt_notd (k := false) (pt_bool (pd_isi B.isi B.str bb_str (pd_var 0) hk))) (sd_ret pd_bl ?_)
    cases d <;> first | exact rfl | exact absurd ⟨_, rfl⟩ hd
end
end K41

namespace K41
open PySem PySem.Spec PyProof.Rows L2 FP
def smS (d : PyData) : Prop := ∀ z, d = .str z → z.length ≤ 1000
def smC (d : PyData) : Prop := ∀ ds, d = .tuple ds → ∀ x ∈ ds, smS x
def smR (d : PyData) : Prop := ∀ ds, d = .tuple ds → ds.length ≤ 1000 ∧ ∀ x ∈ ds, smC x
def smRs (d : PyData) : Prop := ∀ ds, d = .tuple ds → ds.length ≤ 1000 ∧ ∀ x ∈ ds, smR x
def smF (d : PyData) : Prop := ∀ ds, d = .tuple ds → ∀ x ∈ ds, smRs x
def lenT : PyData → Nat
  | .tuple ds => ds.length
  | _ => 0
def itemsT : PyData → List PyData
  | .tuple ds => ds
  | _ => []
def okSize (h w : PyData) : Bool := isWithin h 1 10 && isWithin w 1 20
def okRow (n : Nat) (c : PyData) : Bool := decide (lenT c = n) && (itemsT c).all isCell
def isRows (d : PyData) : Bool := match d with
  | .tuple (r0 :: rs) => (r0 :: rs).all isT && (okSize (.int (rs.length + 1 : Nat)) (.int (lenT r0 : Nat)) && (r0 :: rs).all (okRow (lenT r0)))
  | _ => false
def isFace (d : PyData) : Bool := match d with
  | .tuple [rows, row, col] => isRows rows && (isWithin row 0 ((lenT rows : Int) - 1) && isWithin col 0 ((lenT ((itemsT rows).headD .none) : Int) - 1))
  | _ => false
section
variable {P : Program} {w : World} {K : PySem.W.Frag} {mg : Str → Option Value} {base : Heap} {f C : Addr} {fd : FuncData}
def frSign : List PyData → Rs → Prop := fun ds r => ∃ d, ds = [d] ∧ r = .ok (.bool (isSign d)) ∧ smS d
theorem sc_sign : FnScope ["value"] ["value"] (defScope s_is_sign) := ⟨rfl, rfl, rfl, by decide +kernel, rfl, by decide +kernel, by decide +kernel⟩
theorem ok_sign (F : Df K "is_sign" s_is_sign f fd) (hm : mg "is_sign" = some (.ref f)) (B : Bl mg) (G1 : DefOk P w K mg base 1 "are_signs" frSigns) : DefOk P w K mg base 2 "is_sign" frSign := by
  refine def_ok F hm sc_sign (fun _ _ _ _ _ _ us hl => match us, hl with | [_], _ => rfl) (fun ds r h => by obtain ⟨d, rfl, _⟩ := h; rfl) (fun cdv A outer s H E qs ds r hr h => ?_)
  obtain ⟨d, rfl, rfl, hz⟩ := h
  by_cases hd : ∃ z, d = .str z
  · obtain ⟨z, rfl⟩ := hd
    refine sd_ret (pd_and (pd_call G1 hr (pds_cons (pd_var 0) pds_nil) ⟨_, rfl, rfl, hz⟩) (fun _ => pd_one (pd_eqI (pd_lenS B.len (pd_var 0) (Nat.le_trans (hz z rfl) (by decide))) pd_int))) ?_
    show Rs.ok (.bool (z.cps.toList.all okSign && decide (z.length = 1))) = Rs.ok (.bool (z.cps.toList.all okSign && decide (((z.length : Nat) : Int) = 1)))
    have e : decide (((z.length : Nat) : Int) = 1) = decide (z.length = 1) := by
      by_cases h : z.length = 1
      · rw [decide_eq_true h, decide_eq_true (by omega)]
      · rw [decide_eq_false h, decide_eq_false (by omega)]
    rw [e]
  · have e1 : areSigns d = false := by cases d <;> first | rfl | exact absurd ⟨_, rfl⟩ hd
    refine sd_ret (pd_andF (pd_call G1 hr (pds_cons (pd_var 0) pds_nil) ⟨_, rfl, by rw [e1], hz⟩)) ?_
    cases d <;> first | exact rfl | exact absurd ⟨_, rfl⟩ hd
def frCell : List PyData → Rs → Prop := fun ds r => ∃ d, ds = [d] ∧ r = .ok (.bool (isCell d)) ∧ smC d
theorem sc_cell : FnScope ["cell"] ["cell"] (defScope s_is_cell) := ⟨rfl, rfl, rfl, by decide +kernel, rfl, by decide +kernel, by decide +kernel⟩
theorem two_of {d : PyData} (h : isTupleOf d 2 = true) : ∃ a b, d = .tuple [a, b] := by
  cases d with
  | tuple ds =>
    have e : (ds.length : Int) = 2 := of_decide_eq_true h
    match ds, e with
    | [a, b], _ => exact ⟨a, b, rfl⟩
    | [], e => exact absurd e (by simp)
    | [_], e => exact absurd e (by simp)
    | _ :: _ :: _ :: r, e => exact absurd e (by simp only [List.length_cons]; omega)
  | _ => cases h
theorem ok_cell (F : Df K "is_cell" s_is_cell f fd) (hm : mg "is_cell" = some (.ref f)) (G1 : DefOk P w K mg base 1 "is_tuple_of" frTupleOf) (G2 : DefOk P w K mg base 2 "is_sign" frSign) (G3 : DefOk P w K mg base 2 "is_within" frWithin) (gi : GlD K mg "MOST_INK" (.int 7)) :
    DefOk P w K mg base 3 "is_cell" frCell := by
  refine def_ok F hm sc_cell (fun _ _ _ _ _ _ us hl => match us, hl with | [_], _ => rfl) (fun ds r h => by obtain ⟨d, rfl, _⟩ := h; rfl) (fun cdv A outer s H E qs ds r hr h => ?_)
  obtain ⟨d, rfl, rfl, hz⟩ := h
  cases ht : isTupleOf d 2 with
  | false =>
    refine sd_ret (pd_andF (pd_call (G1.mono (by decide)) hr (pds_cons (pd_var 0) (pds_cons pd_int pds_nil)) ⟨_, _, rfl, by rw [ht]⟩)) ?_
    have e : isCell d = false := by
      cases d with
      | tuple ds => match ds, ht with
        | [a, b], ht => cases ht
        | [], _ => rfl
        | [_], _ => rfl
        | _ :: _ :: _ :: _, _ => rfl
      | _ => rfl
    show Rs.ok (.bool (isCell d)) = _
    rw [e]
  | true =>
    obtain ⟨a, b, rfl⟩ := two_of ht
    refine sd_ret (pd_and (pd_call (G1.mono (by decide)) hr (pds_cons (pd_var 0) (pds_cons pd_int pds_nil)) ⟨_, _, rfl, rfl⟩) (fun _ =>
      pd_and (pd_call G2 hr (pds_cons (pd_ixT (d := a) (pd_var 0) pd_int rfl) pds_nil) ⟨_, rfl, rfl, hz _ rfl a (by simp)⟩) (fun _ =>
      pd_one (pd_call G3 hr (pds_cons (pd_ixT (d := b) (pd_var 0) pd_int rfl) (pds_cons pd_int (pds_cons (pd_glob gi) pds_nil))) ⟨_, _, _, rfl, rfl⟩)))) ?_
    exact rfl
def frSize (C : Addr) : List PyData → Rs → Prop := fun ds r => ∃ h w, ds = [h, w] ∧ r = if okSize h w then .ok .none else .er C
theorem sc_size : FnScope ["height", "width"] ["height", "width"] (defScope s_need_size) := ⟨rfl, rfl, rfl, by decide +kernel, rfl, by decide +kernel, by decide +kernel⟩
theorem ok_size (F : Df K "need_size" s_need_size f fd) (hm : mg "need_size" = some (.ref f)) (X1 : ExcF K mg "BadFace" C) (G1 : DefOk P w K mg base 2 "is_within" frWithin) (g1 : GlD K mg "MOST_ROWS" (.int 10)) (g2 : GlD K mg "MOST_COLUMNS" (.int 20)) :
    DefOk P w K mg base 3 "need_size" (frSize C) := by
  refine def_ok F hm sc_size (fun _ _ _ _ _ _ us hl => match us, hl with | [_, _], _ => rfl) (fun ds r h => by obtain ⟨_, _, rfl, _⟩ := h; rfl) (fun cdv A outer s H E qs ds r hr h => ?_)
  obtain ⟨a, b, rfl, rfl⟩ := h
  cases h1 : isWithin a 1 10 with
  | false =>
    refine sd_ifT (pt_notd (k := false) (pt_bool (pd_call G1 hr (pds_cons (pd_var 0) (pds_cons pd_int (pds_cons (pd_glob g1) pds_nil))) ⟨_, _, _, rfl, by rw [h1]⟩))) (sd_raise X1 (L2N.takes_of rfl rfl rfl rfl) ?_ rfl)
    show (if okSize a b = true then Rs.ok .none else Rs.er C) = Rs.er C
    unfold okSize
    rw [h1]
    rfl
  | true =>
    refine sd_ifF (pt_notd (k := true) (pt_bool (pd_call G1 hr (pds_cons (pd_var 0) (pds_cons pd_int (pds_cons (pd_glob g1) pds_nil))) ⟨_, _, _, rfl, by rw [h1]⟩))) ?_
    cases h2 : isWithin b 1 20 with
    | false =>
      refine sd_ifT (pt_notd (k := false) (pt_bool (pd_call G1 hr (pds_cons (pd_var 1) (pds_cons pd_int (pds_cons (pd_glob g2) pds_nil))) ⟨_, _, _, rfl, by rw [h2]⟩))) (sd_raise X1 (L2N.takes_of rfl rfl rfl rfl) ?_ rfl)
      show (if okSize a b = true then Rs.ok .none else Rs.er C) = Rs.er C
      unfold okSize
      rw [h1, h2]
      rfl
    | true =>
      refine sd_ifF (pt_notd (k := true) (pt_bool (pd_call G1 hr (pds_cons (pd_var 1) (pds_cons pd_int (pds_cons (pd_glob g2) pds_nil))) ⟨_, _, _, rfl, by rw [h2]⟩))) (sd_nil ?_)
      show (if okSize a b = true then Rs.ok .none else Rs.er C) = Rs.ok .none
      unfold okSize
      rw [h1, h2]
      rfl
def frRows (C : Addr) : List PyData → Rs → Prop := fun ds r => ∃ d, ds = [d] ∧ (r = if isRows d then .ok .none else .er C) ∧ smRs d
theorem sc_rows : FnScope ["rows", "cells", "cell"] ["rows"] (defScope s_need_rows) := ⟨rfl, rfl, rfl, by decide +kernel, rfl, by decide +kernel, by decide +kernel⟩
theorem isT_of {d : PyData} (h : isT d = true) : ∃ ds, d = .tuple ds := by
  cases d with
  | tuple ds => exact ⟨ds, rfl⟩
  | _ => cases h
theorem ok_rows (F : Df K "need_rows" s_need_rows f fd) (hm : mg "need_rows" = some (.ref f)) (B : Bl mg) (X1 : ExcF K mg "BadFace" C) (G1 : DefOk P w K mg base 3 "need_size" (frSize C)) (G2 : DefOk P w K mg base 3 "is_cell" frCell) :
    DefOk P w K mg base 4 "need_rows" (frRows C) := by
  refine def_ok F hm sc_rows (fun _ _ _ _ _ _ us hl => match us, hl with | [_], _ => rfl) (fun ds r h => by obtain ⟨_, rfl, _⟩ := h; rfl) (fun cdv A outer s H E qs ds r hr h => ?_)
  obtain ⟨d, rfl, er, hz⟩ := h
  have tk : L2N.Takes (cxOf (L2N.CX P w) P w K mg base ["rows", "cells", "cell"] "need_rows" (defScope s_need_rows) f cdv A outer s H E) (WOf E) := L2N.takes_of rfl rfl rfl rfl
  by_cases hd : ∃ rs, d = .tuple rs
  · obtain ⟨rs, rfl⟩ := hd
    obtain ⟨hz1, hz2⟩ := hz rs rfl
    have eall : (rs.map isT).all id = rs.all isT := by rw [List.all_map]; rfl
    refine sd_if (PWd.pt (pw_ord (pt_notd (pt_bool (pd_isi B.isi B.tuple bb_tuple (pd_var 0) (k_tuple _)))) (fun _ => pw_or1d (pt_notd (pt_bool (pd_all (bs := rs.map isT) rfl B.all
      (PN.pl (pn_lc (y := "cells") (j := 1) (items := rs) rfl sc_rows.nd (PWk.ws (wk_tup (pd_var 0))) (by rw [List.length_map, List.length_map]) (blkOk_by (N := ["rows", "cells", "cell"]) (sc := defScope s_need_rows) (by decide +kernel)) (fun _ _ _ _ _ => pg_name sc_rows.nd rfl (Or.inl rfl)) ?el (Nat.le_trans hz1 (by decide)))))))))) (fun hk => ?raise) (fun hk => sd_nil ?rest)
    case el =>
      intro i d y hd hy D o s H C cl fp
      rw [List.getElem?_map, List.getElem?_map, hd] at hy
      cases hy
      exact pd_isi B.isi B.tuple bb_tuple (pd_var 1) (k_tuple d)
    case raise =>
      rw [eall] at hk
      have hk2 : rs.all isT = false := by
        have : (false || !rs.all isT) = true := hk
        cases h : rs.all isT with
        | false => rfl
        | true => rw [h] at this; cases this
      refine sd_raise X1 tk ?_ rfl
      show r = Rs.er C
      rw [er]
      have e : isRows (.tuple rs) = false := by
        cases rs with
        | nil => rfl
        | cons r0 rs =>
          show ((r0 :: rs).all isT && _) = false
          rw [hk2]
          rfl
      rw [e]
      rfl
    case rest =>
      rw [eall] at hk
      have hk2 : rs.all isT = true := by
        have : (false || !rs.all isT) = false := hk
        cases h : rs.all isT with
        | true => rfl
        | false => rw [h] at this; cases this
      cases rs with
      | nil =>
        refine sd_ifT (pt_notd (k := false) (pt_truT (pd_var 0) rfl)) (sd_raise X1 tk ?_ rfl)
        show r = Rs.er C
        rw [er]
        rfl
      | cons r0 rs =>
        have ht0 : isT r0 = true := by
          rw [List.all_cons, Bool.and_eq_true] at hk2
          exact hk2.1
        obtain ⟨c0, rfl⟩ := isT_of ht0
        refine sd_ifF (pt_notd (k := true) (pt_truT (pd_var 0) rfl)) ?_
        refine sd_callX G1 hr tk (pds_cons (pd_lenT B.len (pd_var 0)) (pds_cons (pd_lenT B.len (pd_ixT (d := .tuple c0) (pd_var 0) pd_int atI0)) pds_nil)) ⟨_, _, rfl, rfl⟩ (fun d0 h0 => ?_) (fun C' h0 => ?_)
        · have hs : okSize (.int (((PyData.tuple c0 :: rs).length : Nat) : Int)) (.int ((c0.length : Nat) : Int)) = true := by
            cases h : okSize (.int (((PyData.tuple c0 :: rs).length : Nat) : Int)) (.int ((c0.length : Nat) : Int)) with
            | true => rfl
            | false => rw [h] at h0; cases h0
          have eR : isRows (.tuple (.tuple c0 :: rs)) = (PyData.tuple c0 :: rs).all (okRow c0.length) := by
            show ((PyData.tuple c0 :: rs).all isT && (okSize (.int (((PyData.tuple c0 :: rs).length : Nat) : Int)) (.int ((c0.length : Nat) : Int)) && (PyData.tuple c0 :: rs).all (okRow c0.length))) = _
            rw [hk2, hs]
            rfl
          rw [eR] at er
          generalize hrs : PyData.tuple c0 :: rs = all at *
          have hget0 : ∀ i d, all[i]? = some d → isT d = true := fun i d h => List.all_eq_true.mp hk2 d (List.mem_of_getElem? h)
          refine sd_for 1 (items := all) (fun i δ' ω' => ω' = ⟨qs, []⟩ ∧ δ'[0]? = some (some (.im (.tuple all))) ∧ δ'.length = 3 ∧ (all.take i).all (okRow c0.length) = true) (wk_tup (pd_var 0)) ⟨rfl, rfl, rfl, rfl⟩ (fun i d δ' ω' hi hv => ?_) (fun δ' ω' hv => sd_nil ?_) (pg_name sc_rows.nd rfl (Or.inl rfl)) (passes_of rfl) rfl
          · obtain ⟨rfl, h0', hl, hv⟩ := hv
            obtain ⟨cs, rfl⟩ := isT_of (hget0 i d hi)
            match δ', hl, h0' with
            | [_, y1, y2], _, h0' =>
              cases h0'
              have hi1 : (all.take (i + 1)).all (okRow c0.length) = okRow c0.length (.tuple cs) := by
                rw [List.take_add_one, hi, List.all_append, hv]
                simp
              have hat : atI all 0 = some (.tuple c0) := by
                rw [← hrs]
                exact atI0
              have bad : okRow c0.length (.tuple cs) = false → r = Rs.er C := fun z => by
                rw [er]
                have e : all.all (okRow c0.length) = false := by
                  cases h : all.all (okRow c0.length) with
                  | false => rfl
                  | true =>
                    rw [List.all_eq_true.mp h _ (List.mem_of_getElem? hi)] at z
                    cases z
                rw [e]
                rfl
              obtain ⟨hz3, hz4⟩ := hz2 _ (List.mem_of_getElem? hi) cs rfl
              refine sd_if (pt_cmpd op_ne rd_neI (pd_lenT B.len (pd_var 1)) (pd_lenT B.len (pd_ixT (d := .tuple c0) (pd_var 0) pd_int hat)) (nomark _)) (fun hk => ?_) (fun hk => sd_nil ?_)
              · refine sd_raise X1 tk (bad ?_) rfl
                have hne : ¬ cs.length = c0.length := fun z => by
                  rw [z] at hk
                  simp at hk
                show (decide (cs.length = c0.length) && _) = false
                rw [decide_eq_false hne]
                rfl
              · have heq : cs.length = c0.length := by
                  by_cases z : cs.length = c0.length
                  · exact z
                  · rw [decide_eq_false (by omega)] at hk
                    cases hk
                refine sd_if (pt_notd (pt_bool (pd_all (bs := cs.map isCell) rfl B.all (PN.pl (pn_lc (y := "cell") (j := 2) (items := cs) rfl sc_rows.nd (PWk.ws (wk_tup (pd_var 1))) (by rw [List.length_map, List.length_map]) (blkOk_by (N := ["rows", "cells", "cell"]) (sc := defScope s_need_rows) (by decide +kernel)) (fun _ _ _ _ _ => pg_name sc_rows.nd rfl (Or.inl rfl)) ?_ (Nat.le_trans hz3 (by decide))))))) (fun hk => ?_) (fun hk => sd_nil (sd_nil ?_))
                · intro i d y hd hy D o s H C cl fp
                  rw [List.getElem?_map, List.getElem?_map, hd] at hy
                  cases hy
                  exact pd_call G2 hr (pds_cons (pd_var 2) pds_nil) ⟨_, rfl, rfl, hz4 d (List.mem_of_getElem? hd)⟩
                · refine sd_raise X1 tk (bad ?_) rfl
                  have e : cs.all isCell = false := by
                    rw [List.all_map] at hk
                    have h2 : (!cs.all isCell) = true := hk
                    cases h : cs.all isCell with
                    | false => rfl
                    | true => rw [h] at h2; cases h2
                  show (_ && cs.all isCell) = false
                  rw [e, Bool.and_false]
                · refine ⟨rfl, rfl, rfl, ?_⟩
                  rw [hi1]
                  have e : cs.all isCell = true := by
                    rw [List.all_map] at hk
                    have h2 : (!cs.all isCell) = false := hk
                    cases h : cs.all isCell with
                    | true => rfl
                    | false => rw [h] at h2; cases h2
                  show (decide (cs.length = c0.length) && cs.all isCell) = true
                  rw [e, decide_eq_true heq]
                  rfl
          · obtain ⟨_, _, _, hv⟩ := hv
            rw [List.take_length] at hv
            show r = Rs.ok .none
            rw [er, hv]
            rfl
        · show r = Rs.er C'
          have hs : okSize (.int (((PyData.tuple c0 :: rs).length : Nat) : Int)) (.int ((c0.length : Nat) : Int)) = false := by
            cases h : okSize (.int (((PyData.tuple c0 :: rs).length : Nat) : Int)) (.int ((c0.length : Nat) : Int)) with
            | false => rfl
            | true => rw [h] at h0; cases h0
          rw [hs] at h0
          cases h0
          rw [er]
          have e : isRows (.tuple (.tuple c0 :: rs)) = false := by
            show ((PyData.tuple c0 :: rs).all isT && (okSize (.int (((PyData.tuple c0 :: rs).length : Nat) : Int)) (.int ((c0.length : Nat) : Int)) && _)) = false
            rw [hs, Bool.false_and, Bool.and_false]
          rw [e]
          rfl
  · have hk : kitB (kindD d) "tuple" = some false := by
      rw [k_tuple]
      cases d <;> first | rfl | exact absurd ⟨_, rfl⟩ hd
    refine sd_ifT (PWd.pt (pw_orT (pt_notd (k := false) (pt_bool (pd_isi B.isi B.tuple bb_tuple (pd_var 0) hk))))) (sd_raise X1 tk ?_ rfl)
    show r = Rs.er C
    rw [er]
    cases d <;> first | rfl | exact absurd ⟨_, rfl⟩ hd
end
end K41

namespace K41
open PySem PySem.Spec PyProof.Rows L2 FP
section
variable {P : Program} {w : World} {K : PySem.W.Frag} {mg : Str → Option Value} {base : Heap} {f C : Addr} {fd : FuncData}
def frFace (C : Addr) : List PyData → Rs → Prop := fun ds r => ∃ d, ds = [d] ∧ (r = if isFace d then .ok .none else .er C) ∧ smF d
theorem sc_face : FnScope ["face", "rows", "row", "column"] ["face"] (defScope s_need_face) := ⟨rfl, rfl, rfl, by decide +kernel, rfl, by decide +kernel, by decide +kernel⟩
theorem three_of {d : PyData} (h : isTupleOf d 3 = true) : ∃ a b c, d = .tuple [a, b, c] := by
  cases d with
  | tuple ds =>
    have e : (ds.length : Int) = 3 := of_decide_eq_true h
    match ds, e with
    | [a, b, c], _ => exact ⟨a, b, c, rfl⟩
    | [], e => exact absurd e (by simp)
    | [_], e => exact absurd e (by simp)
    | [_, _], e => exact absurd e (by simp)
    | _ :: _ :: _ :: _ :: r, e => exact absurd e (by simp only [List.length_cons]; omega)
  | _ => cases h
theorem rows_of {d : PyData} (h : isRows d = true) : ∃ c0 rs, d = .tuple (.tuple c0 :: rs) := by
  cases d with
  | tuple ds =>
    cases ds with
    | nil => cases h
    | cons r0 rs =>
      have h1 : ((r0 :: rs).all isT && _) = true := h
      rw [Bool.and_eq_true] at h1
      have h2 := h1.1
      rw [List.all_cons, Bool.and_eq_true] at h2
      obtain ⟨c0, rfl⟩ := isT_of h2.1
      exact ⟨c0, rs, rfl⟩
  | _ => cases h
theorem ok_face (F : Df K "need_face" s_need_face f fd) (hm : mg "need_face" = some (.ref f)) (B : Bl mg) (X1 : ExcF K mg "BadFace" C) (G1 : DefOk P w K mg base 1 "is_tuple_of" frTupleOf) (G2 : DefOk P w K mg base 4 "need_rows" (frRows C)) (G3 : DefOk P w K mg base 2 "is_within" frWithin) :
    DefOk P w K mg base 5 "need_face" (frFace C) := by
  refine def_ok F hm sc_face (fun _ _ _ _ _ _ us hl => match us, hl with | [_], _ => rfl) (fun ds r h => by obtain ⟨_, rfl, _⟩ := h; rfl) (fun cdv A outer s H E qs ds r hr h => ?_)
  obtain ⟨d, rfl, er, hz⟩ := h
  have tk : L2N.Takes (cxOf (L2N.CX P w) P w K mg base ["face", "rows", "row", "column"] "need_face" (defScope s_need_face) f cdv A outer s H E) (WOf E) := L2N.takes_of rfl rfl rfl rfl
  refine sd_if (pt_notd (pt_bool (pd_call (G1.mono (by decide)) hr (pds_cons (pd_var 0) (pds_cons pd_int pds_nil)) ⟨_, _, rfl, rfl⟩))) (fun hk => sd_raise X1 tk ?_ rfl) (fun hk => sd_nil ?_)
  · show r = Rs.er C
    rw [er]
    have e : isFace d = false := by
      cases d with
      | tuple ds => match ds, hk with
        | [], _ => rfl
        | [_], _ => rfl
        | [_, _], _ => rfl
        | [_, _, _], hk => cases hk
        | _ :: _ :: _ :: _ :: _, _ => rfl
      | _ => rfl
    rw [e]
    rfl
  · have ht : isTupleOf d 3 = true := by
      cases h : isTupleOf d 3 with
      | true => rfl
      | false => rw [h] at hk; cases hk
    obtain ⟨rows, row, col, rfl⟩ := three_of ht
    have hzr : smRs rows := hz _ rfl rows (by simp)
    refine sd_unp [1, 2, 3] (pd_var 0) (pg_tup rfl (pgs_cons (pg_name sc_face.nd rfl (.inl rfl)) (pgs_cons (pg_name sc_face.nd rfl (.inl rfl)) (pgs_cons (pg_name sc_face.nd rfl (.inl rfl)) pgs_nil)))) rfl rfl ?_
    refine sd_callX G2 hr tk (pds_cons (pd_var 1) pds_nil) ⟨_, rfl, rfl, hzr⟩ (fun d0 h0 => ?_) (fun C' h0 => ?_)
    · have hR : isRows rows = true := by
        cases h : isRows rows with
        | true => rfl
        | false => rw [h] at h0; cases h0
      obtain ⟨c0, rs, rfl⟩ := rows_of hR
      have eF : isFace (.tuple [.tuple (.tuple c0 :: rs), row, col]) = (isWithin row 0 ((((PyData.tuple c0 :: rs).length : Nat) : Int) - 1) && isWithin col 0 (((c0.length : Nat) : Int) - 1)) := by
        show (isRows _ && _) = _
        rw [hR]
        rfl
      rw [eF] at er
      refine sd_if (pt_notd (pt_bool (pd_call (G3.mono (by decide)) hr (pds_cons (pd_var 2) (pds_cons pd_int (pds_cons (pd_sub (pd_lenT B.len (pd_var 1)) pd_int) pds_nil))) ⟨_, _, _, rfl, rfl⟩))) (fun hk => sd_raise X1 tk ?_ rfl) (fun hk => sd_nil ?_)
      · show r = Rs.er C
        rw [er]
        have e : isWithin row 0 ((((PyData.tuple c0 :: rs).length : Nat) : Int) - 1) = false := by
          cases h : isWithin row 0 ((((PyData.tuple c0 :: rs).length : Nat) : Int) - 1) with
          | false => rfl
          | true => rw [h] at hk; cases hk
        rw [e]
        rfl
      · have e : isWithin row 0 ((((PyData.tuple c0 :: rs).length : Nat) : Int) - 1) = true := by
          cases h : isWithin row 0 ((((PyData.tuple c0 :: rs).length : Nat) : Int) - 1) with
          | true => rfl
          | false => rw [h] at hk; cases hk
        rw [e] at er
        refine sd_if (pt_notd (pt_bool (pd_call (G3.mono (by decide)) hr (pds_cons (pd_var 3) (pds_cons pd_int (pds_cons (pd_sub (pd_lenT B.len (pd_ixT (d := .tuple c0) (pd_var 1) pd_int atI0)) pd_int) pds_nil))) ⟨_, _, _, rfl, rfl⟩))) (fun hk => sd_raise X1 tk ?_ rfl) (fun hk => sd_nil (sd_nil ?_))
        · show r = Rs.er C
          rw [er]
          cases h : isWithin col 0 (((c0.length : Nat) : Int) - 1) with
          | false => rfl
          | true => rw [h] at hk; cases hk
        · show r = Rs.ok .none
          rw [er]
          cases h : isWithin col 0 (((c0.length : Nat) : Int) - 1) with
          | true => rfl
          | false => rw [h] at hk; cases hk
    · show r = Rs.er C'
      have e : isRows rows = false := by
        cases h : isRows rows with
        | false => rfl
        | true => rw [h] at h0; cases h0
      rw [e] at h0
      cases h0
      rw [er]
      have e2 : isFace (.tuple [rows, row, col]) = false := by
        show (isRows _ && _) = false
        rw [e]
        rfl
      rw [e2]
      rfl
def blankC : PyData := .tuple [.str (Str.ofString " "), .int 0]
def frBlankCells : List PyData → Rs → Prop := fun ds r => ∃ n : Int, ds = [.int n] ∧ -1000 ≤ n ∧ n ≤ 1000 ∧ r = .ok (.tuple (List.replicate n.toNat blankC))
theorem sc_bcells : FnScope ["width"] ["width"] (defScope s_blank_cells) := ⟨rfl, rfl, rfl, by decide +kernel, rfl, by decide +kernel, by decide +kernel⟩
theorem ok_bcells (F : Df K "blank_cells" s_blank_cells f fd) (hm : mg "blank_cells" = some (.ref f)) (g : GlD K mg "BLANK" blankC) : DefOk P w K mg base 1 "blank_cells" frBlankCells := by
  refine def_ok F hm sc_bcells (fun _ _ _ _ _ _ us hl => match us, hl with | [_], _ => rfl) (fun ds r h => by obtain ⟨_, rfl, _⟩ := h; rfl) (fun cdv A outer s H E qs ds r hr h => ?_)
  obtain ⟨n, rfl, h1, h2, rfl⟩ := h
  refine sd_ret (pd_rep1 (pd_tup (pds_cons (pd_glob g) pds_nil)) (pd_var 0) h1 h2) ?_
  exact rfl
theorem cut_to (ds : List PyData) (n : Nat) : FP.cutD ds none (some (n : Int)) = ds.take n := by
  unfold FP.cutD
  rw [HT.sIx_none, HT.sIx_nat, List.drop_zero, Nat.sub_zero]
  rcases Nat.le_total n ds.length with h | h
  · rw [Nat.min_eq_left h]
  · rw [Nat.min_eq_right h, List.take_length, List.take_of_length_le h]
theorem cut_from (ds : List PyData) (n : Nat) : FP.cutD ds (some (n : Int)) none = ds.drop n := by
  unfold FP.cutD
  rw [HT.sIx_none, HT.sIx_nat]
  rcases Nat.le_total n ds.length with h | h
  · rw [Nat.min_eq_left h, List.take_of_length_le (by rw [List.length_drop]; exact Nat.le_refl _)]
  · rw [Nat.min_eq_right h, List.drop_length, List.drop_of_length_le h, List.take_nil]
end
end K41

namespace K41
open PySem PySem.Spec PyProof.Rows L2 FP
theorem cell_of {d : PyData} (h : isCell d = true) : ∃ (c : Nat) (i : Int), d = .tuple [.str ⟨#[c]⟩, .int i] ∧ okSign c = true ∧ 0 ≤ i ∧ i ≤ 7 := by
  cases d with
  | tuple ds => match ds, h with
    | [], h => cases h
    | [_], h => cases h
    | _ :: _ :: _ :: _, h => cases h
    | [a, b], h =>
      have h1 : (isSign a && isWithin b 0 7) = true := h
      rw [Bool.and_eq_true] at h1
      obtain ⟨h1, h2⟩ := h1
      cases a with
      | str z =>
        cases b with
        | int i =>
          have h1 : (z.cps.toList.all okSign && decide (z.length = 1)) = true := h1
          have h2 : (decide (0 ≤ i) && decide (i ≤ 7)) = true := h2
          rw [Bool.and_eq_true, decide_eq_true_eq] at h1
          rw [Bool.and_eq_true, decide_eq_true_eq, decide_eq_true_eq] at h2
          obtain ⟨c⟩ := z
          have hs : c.toList.length = 1 := by rw [Array.length_toList]; exact h1.2
          match hc : c.toList, hs with
          | [k], _ =>
            have e : c = #[k] := Array.toList_inj.mp (by rw [hc])
            subst e
            have h3 := h1.1
            have h4 : ([k].all okSign) = true := h3
            rw [List.all_cons, Bool.and_eq_true] at h4
            exact ⟨k, i, rfl, h4.1, h2.1, h2.2⟩
        | _ => cases h2
      | _ => cases h1
  | _ => cases h
end K41

namespace K41
open PySem PySem.Spec PyProof.Rows L2 FP
section
variable {P : Program} {w : World} {K : PySem.W.Frag} {mg : Str → Option Value} {base : Heap} {f C : Addr} {fd : FuncData}
def cellAt (ns : List Int) (k : Nat) : Int := if ns = [] then (k : Int) * 7919 else ns.getD (k % ns.length) 0 + ((k / ns.length : Nat) : Int) * 104729
def frLCell : List PyData → Rs → Prop := fun ds r => ∃ (ns : List Int) (k : Nat), ds = [.list (ns.map .int), .int (k : Int)] ∧ ns.length ≤ 63 ∧ k ≤ 63 ∧ r = .ok (.int (cellAt ns k))
theorem sc_lcell : FnScope ["_law_script", "_law_k"] ["_law_script", "_law_k"] (defScope s__law_cell) := ⟨rfl, rfl, rfl, by decide +kernel, rfl, by decide +kernel, by decide +kernel⟩
theorem shp_ints (ns : List Int) : Shp 1 (.list (ns.map PyData.int)) := Shp.lst fun x h => by
  obtain ⟨n, _, rfl⟩ := List.mem_map.mp h
  exact .int n
theorem cmul_small {i j : Int} (h : -(2 ^ 64) < j ∧ j < 2 ^ 64) : CMul i j := .inr h
theorem ok_lcell (F : Df K "_law_cell" s__law_cell f fd) (hm : mg "_law_cell" = some (.ref f)) (B : Bl mg) : DefOk P w K mg base 1 "_law_cell" frLCell := by
  refine def_ok F hm sc_lcell (fun _ _ _ _ _ _ us hl => match us, hl with | [_, _], _ => rfl) (fun ds r h => by obtain ⟨_, _, rfl, _⟩ := h; rfl) (fun cdv A outer s H E qs ds r hr h => ?_)
  obtain ⟨ns, k, rfl, h1, h2, rfl⟩ := h
  refine sd_if (pt_cmpd (op_eqD hr.units) (rd_eqD (shp_ints ns).ok rfl) (pd_var 0) (PN.pd (pn_lst pds_nil)) (nomark _)) (fun hk => ?_) (fun hk => sd_nil ?_)
  · have e : ns = [] := by
      cases ns with
      | nil => rfl
      | cons n ns => cases hk
    subst e
    refine sd_ret (pd_mulS (cmul_small (by decide)) (pd_var 1) pd_int) ?_
    exact rfl
  · have hne : ns ≠ [] := fun e => by
      subst e
      cases hk
    have hl : 0 < ns.length := List.length_pos_iff.mpr hne
    have hlt : k % ns.length < ns.length := Nat.mod_lt _ hl
    have e1 : ((k : Int) % ((ns.map PyData.int).length : Nat) : Int) = ((k % ns.length : Nat) : Int) := by
      rw [List.length_map]
      omega
    have hat : atI (ns.map PyData.int) ((k : Int) % ((ns.map PyData.int).length : Nat) : Int) = some (.int (ns.getD (k % ns.length) 0)) := by
      rw [e1]
      refine atI_nat ?_
      rw [List.getElem?_map, List.getD_eq_getElem?_getD, List.getElem?_eq_getElem hlt]
      rfl
    have hL : (0 : Int) < (((ns.map PyData.int).length : Nat) : Int) := by rw [List.length_map]; omega
    refine sd_ret (pd_add (pd_ixL (PD.pl (pd_var 0)) (pd_mod hL (pd_var 1) (pd_lenL B.len (PD.pl (pd_var 0)))) hat) (pd_mulS (cmul_small (by decide)) (pd_fdiv (wide_div (b := 20) hL ?_ (by decide) (by decide)) (pd_var 1) (pd_lenL B.len (PD.pl (pd_var 0)))) pd_int)) ?_
    · rw [List.length_map]
      have : (2 : Nat) ^ 20 = 1048576 := by decide
      omega
    · show Rs.ok (.int (cellAt ns k)) = _
      unfold cellAt
      rw [if_neg hne]
      have e2 : ((k : Int) / (((ns.map PyData.int).length : Nat) : Int)) = ((k / ns.length : Nat) : Int) := by
        rw [List.length_map]
        omega
      rw [e2]
def M1 : Int := 340282366920938463463374607431768211507
def M2 : Int := 340282366920938463463374607431768211297
def M3 : Int := 18446744073709551557
def drawn (c k : Int) : Int :=
  let a := (c * 6364136223846793005 + (k + 1) * 1442695040888963407) % M1
  let b := a * a % M2
  ((b % M3 + 1) * (b / M3 + 1) * b) % M1
theorem M1p : (0 : Int) < M1 := by decide
theorem M2p : (0 : Int) < M2 := by decide
theorem M3p : (0 : Int) < M3 := by decide
def frDrawn : List PyData → Rs → Prop := fun ds r => ∃ c k : Int, ds = [.int c, .int k] ∧ r = .ok (.int (drawn c k))
theorem sc_drawn : FnScope ["_law_cell_here", "_law_k", "_law_more"] ["_law_cell_here", "_law_k"] (defScope s__law_drawn) := ⟨rfl, rfl, rfl, by decide +kernel, rfl, by decide +kernel, by decide +kernel⟩
theorem abs_lt {a : Int} {n : Nat} (h0 : 0 ≤ a) (h : a < ((2 ^ n : Nat) : Int)) : a.natAbs < 2 ^ n := by omega
theorem mod_abs (a : Int) {m : Int} (h : 0 < m) {n : Nat} (hm : m ≤ ((2 ^ n : Nat) : Int)) : (a % m).natAbs < 2 ^ n := abs_lt (Int.emod_nonneg _ (by omega)) (Int.lt_of_lt_of_le (Int.emod_lt_of_pos _ h) hm)
theorem ok_drawn (F : Df K "_law_drawn" s__law_drawn f fd) (hm : mg "_law_drawn" = some (.ref f)) : DefOk P w K mg base 1 "_law_drawn" frDrawn := by
  refine def_ok F hm sc_drawn (fun _ _ _ _ _ _ us hl => match us, hl with | [_, _], _ => rfl) (fun ds r h => by obtain ⟨_, _, rfl, _⟩ := h; rfl) (fun cdv A outer s H E qs ds r hr h => ?_)
  obtain ⟨c, k, rfl, rfl⟩ := h
  show SD _ _ _ _ _ _ (FP.Fin (.ok (.int (drawn c k))))
  refine sd_set 2 (pd_mod M1p (pd_add (pd_mulS (cmul_small (by decide)) (pd_var 0) pd_int) (pd_mulS (cmul_small (by decide)) (pd_add (pd_var 1) pd_int) pd_int)) pd_int) ?_ sc_drawn.nd
  have ha : ((c * 6364136223846793005 + (k + 1) * 1442695040888963407) % M1).natAbs < 2 ^ 129 := mod_abs _ M1p (by decide)
  have ed : drawn c k = (((((c * 6364136223846793005 + (k + 1) * 1442695040888963407) % M1) * ((c * 6364136223846793005 + (k + 1) * 1442695040888963407) % M1) % M2) % M3 + 1) * ((((c * 6364136223846793005 + (k + 1) * 1442695040888963407) % M1) * ((c * 6364136223846793005 + (k + 1) * 1442695040888963407) % M1) % M2) / M3 + 1) * (((c * 6364136223846793005 + (k + 1) * 1442695040888963407) % M1) * ((c * 6364136223846793005 + (k + 1) * 1442695040888963407) % M1) % M2)) % M1 := rfl
  rw [ed]
  generalize (c * 6364136223846793005 + (k + 1) * 1442695040888963407) % M1 = a at *
  refine sd_set 2 (pd_mod M2p (pd_mul (wide_mul ha ha (by decide) (by decide) (by decide)) (pd_var 2) (pd_var 2)) pd_int) ?_ sc_drawn.nd
  have hb : (a * a % M2).natAbs < 2 ^ 129 := mod_abs _ M2p (by decide)
  have hb0 : 0 ≤ a * a % M2 := Int.emod_nonneg _ (by decide)
  generalize a * a % M2 = b at *
  have h1 : (b % M3 + 1).natAbs < 2 ^ 65 := by
    have x1 := Int.emod_nonneg b (show M3 ≠ 0 by decide)
    have x2 := Int.emod_lt_of_pos b M3p
    have x3 : M3 + 1 < ((2 ^ 65 : Nat) : Int) := by decide
    exact abs_lt (by omega) (by omega)
  have h2 : (b / M3 + 1).natAbs < 2 ^ 130 := by
    have x1 : 0 ≤ b / M3 := Int.ediv_nonneg hb0 (by decide)
    have x2 : b / M3 ≤ b := Int.ediv_le_self _ hb0
    have x3 : b < ((2 ^ 129 : Nat) : Int) := by omega
    have x4 : ((2 ^ 129 : Nat) : Int) + 1 < ((2 ^ 130 : Nat) : Int) := by decide
    exact abs_lt (by omega) (by omega)
  have h3 : ((b % M3 + 1) * (b / M3 + 1)).natAbs < 2 ^ 195 := by
    rw [Int.natAbs_mul]
    calc (b % M3 + 1).natAbs * (b / M3 + 1).natAbs < 2 ^ 65 * 2 ^ 130 := Nat.mul_lt_mul'' h1 h2
      _ = 2 ^ 195 := by decide
  refine sd_set 2 (pd_mul (wide_mul h3 hb (by decide) (by decide) (by decide)) (pd_mul (wide_mul h1 h2 (by decide) (by decide) (by decide)) (pd_add (pd_mod M3p (pd_var 2) pd_int) pd_int) (pd_add (pd_fdiv (wide_div (b := 65) M3p (by decide) (by decide) (by decide)) (pd_var 2) pd_int) pd_int)) (pd_var 2)) ?_ sc_drawn.nd
  refine sd_ret (pd_mod M1p (pd_var 2) pd_int) ?_
  exact rfl
def sgs : List Nat := [32, 32, 97, 98, 126, 94]
def iks : List Int := [0, 0, 0, 1, 7]
def cellD (c : Nat) (i : Int) : PyData := .tuple [.str ⟨#[c]⟩, .int i]
def cellOfD (m : Int) : PyData := cellD (sgs.getD (m % 6).toNat 0) (iks.getD (m / 8 % 5).toNat 0)
def frCellOf : List PyData → Rs → Prop := fun ds r => ∃ m : Int, ds = [.int m] ∧ r = .ok (cellOfD m)
theorem sc_cellof : FnScope ["_law_more"] ["_law_more"] (defScope s__law_cell_of) := ⟨rfl, rfl, rfl, by decide +kernel, rfl, by decide +kernel, by decide +kernel⟩
theorem mod_nat (m : Int) (n : Nat) (h : 0 < n) : ∃ j : Nat, m % (n : Int) = (j : Int) ∧ j < n := ⟨(m % (n : Int)).toNat, by have := Int.emod_nonneg m (show (n : Int) ≠ 0 by omega); omega, by have := Int.emod_nonneg m (show (n : Int) ≠ 0 by omega); have := Int.emod_lt_of_pos m (show (0 : Int) < n by omega); omega⟩
theorem ok_cellof (F : Df K "_law_cell_of" s__law_cell_of f fd) (hm : mg "_law_cell_of" = some (.ref f)) : DefOk P w K mg base 1 "_law_cell_of" frCellOf := by
  refine def_ok F hm sc_cellof (fun _ _ _ _ _ _ us hl => match us, hl with | [_], _ => rfl) (fun ds r h => by obtain ⟨_, rfl, _⟩ := h; rfl) (fun cdv A outer s H E qs ds r hr h => ?_)
  obtain ⟨m, rfl, rfl⟩ := h
  obtain ⟨j1, e1, l1⟩ := mod_nat m 6 (by decide)
  obtain ⟨j2, e2, l2⟩ := mod_nat (m / 8) 5 (by decide)
  have e1 : m % 6 = (j1 : Int) := e1
  have e2 : m / 8 % 5 = (j2 : Int) := e2
  refine sd_ret (pd_tup (pds_cons (pd_ixL (d := .str ⟨#[sgs.getD j1 0]⟩) (PN.pl (pn_lst (pds_cons pd_str (pds_cons pd_str (pds_cons pd_str (pds_cons pd_str (pds_cons pd_str (pds_cons pd_str pds_nil)))))))) (pd_mod (by decide) (pd_var 0) pd_int) ?_)
    (pds_cons (pd_ixL (d := .int (iks.getD j2 0)) (PN.pl (pn_lst (pds_cons pd_int (pds_cons pd_int (pds_cons pd_int (pds_cons pd_int (pds_cons pd_int pds_nil))))))) (pd_mod (by decide) (pd_fdiv (wide_div (b := 20) (by decide) (by decide) (by decide) (by decide)) (pd_var 0) pd_int) pd_int) ?_) pds_nil))) ?_
  · rw [e1]
    refine atI_nat ?_
    match j1, l1 with
    | 0, _ => exact congrArg (fun z => some (PyData.str z)) (show Str.ofString " " = ⟨#[32]⟩ by decide +kernel)
    | 1, _ => exact congrArg (fun z => some (PyData.str z)) (show Str.ofString " " = ⟨#[32]⟩ by decide +kernel)
    | 2, _ => exact congrArg (fun z => some (PyData.str z)) (show Str.ofString "a" = ⟨#[97]⟩ by decide +kernel)
    | 3, _ => exact congrArg (fun z => some (PyData.str z)) (show Str.ofString "b" = ⟨#[98]⟩ by decide +kernel)
    | 4, _ => exact congrArg (fun z => some (PyData.str z)) (show Str.ofString "~" = ⟨#[126]⟩ by decide +kernel)
    | 5, _ => exact congrArg (fun z => some (PyData.str z)) (show Str.ofString "^" = ⟨#[94]⟩ by decide +kernel)
    | n + 6, h => omega
  · rw [e2]
    refine atI_nat ?_
    match j2, l2 with
    | 0, _ => rfl
    | 1, _ => rfl
    | 2, _ => rfl
    | 3, _ => rfl
    | 4, _ => rfl
    | n + 5, h => omega
  · show Rs.ok (cellD (sgs.getD (m % 6).toNat 0) (iks.getD (m / 8 % 5).toNat 0)) = _
    rw [e1, e2]
    rfl
def sizeD (m : Int) : Int × Int := (1 + m % (([3, 10] : List Int).getD (m / 16 % 2).toNat 1), 1 + m / 64 % (([4, 9, 20] : List Int).getD (m / 2048 % 3).toNat 1))
def frLSize : List PyData → Rs → Prop := fun ds r => ∃ m : Int, ds = [.int m] ∧ r = .ok (.tuple [.int (sizeD m).1, .int (sizeD m).2])
theorem sc_lsize : FnScope ["_law_more"] ["_law_more"] (defScope s__law_size) := ⟨rfl, rfl, rfl, by decide +kernel, rfl, by decide +kernel, by decide +kernel⟩
theorem size_le (m : Int) : 1 ≤ (sizeD m).1 ∧ (sizeD m).1 ≤ 10 ∧ 1 ≤ (sizeD m).2 ∧ (sizeD m).2 ≤ 20 := by
  obtain ⟨j1, e1, l1⟩ := mod_nat (m / 16) 2 (by decide)
  obtain ⟨j2, e2, l2⟩ := mod_nat (m / 2048) 3 (by decide)
  have e1 : m / 16 % 2 = (j1 : Int) := e1
  have e2 : m / 2048 % 3 = (j2 : Int) := e2
  unfold sizeD
  rw [e1, e2]
  show 1 ≤ 1 + m % (([3, 10] : List Int).getD j1 1) ∧ 1 + m % (([3, 10] : List Int).getD j1 1) ≤ 10 ∧ 1 ≤ 1 + m / 64 % (([4, 9, 20] : List Int).getD j2 1) ∧ 1 + m / 64 % (([4, 9, 20] : List Int).getD j2 1) ≤ 20
  have a1 : 1 ≤ 1 + m % (([3, 10] : List Int).getD j1 1) ∧ 1 + m % (([3, 10] : List Int).getD j1 1) ≤ 10 := by
    match j1, l1 with
    | 0, _ => show 1 ≤ 1 + m % 3 ∧ 1 + m % 3 ≤ 10; omega
    | 1, _ => show 1 ≤ 1 + m % 10 ∧ 1 + m % 10 ≤ 10; omega
    | n + 2, h => omega
  have a2 : 1 ≤ 1 + m / 64 % (([4, 9, 20] : List Int).getD j2 1) ∧ 1 + m / 64 % (([4, 9, 20] : List Int).getD j2 1) ≤ 20 := by
    match j2, l2 with
    | 0, _ => show 1 ≤ 1 + m / 64 % 4 ∧ 1 + m / 64 % 4 ≤ 20; omega
    | 1, _ => show 1 ≤ 1 + m / 64 % 9 ∧ 1 + m / 64 % 9 ≤ 20; omega
    | 2, _ => show 1 ≤ 1 + m / 64 % 20 ∧ 1 + m / 64 % 20 ≤ 20; omega
    | n + 3, h => omega
  exact ⟨a1.1, a1.2, a2.1, a2.2⟩
theorem ok_lsize (F : Df K "_law_size" s__law_size f fd) (hm : mg "_law_size" = some (.ref f)) : DefOk P w K mg base 1 "_law_size" frLSize := by
  refine def_ok F hm sc_lsize (fun _ _ _ _ _ _ us hl => match us, hl with | [_], _ => rfl) (fun ds r h => by obtain ⟨_, rfl, _⟩ := h; rfl) (fun cdv A outer s H E qs ds r hr h => ?_)
  obtain ⟨m, rfl, rfl⟩ := h
  obtain ⟨j1, e1, l1⟩ := mod_nat (m / 16) 2 (by decide)
  obtain ⟨j2, e2, l2⟩ := mod_nat (m / 2048) 3 (by decide)
  have e1 : m / 16 % 2 = (j1 : Int) := e1
  have e2 : m / 2048 % 3 = (j2 : Int) := e2
  have p1 : (0 : Int) < ([3, 10] : List Int).getD j1 1 := by
    match j1, l1 with
    | 0, _ => decide
    | 1, _ => decide
    | n + 2, h => omega
  have p2 : (0 : Int) < ([4, 9, 20] : List Int).getD j2 1 := by
    match j2, l2 with
    | 0, _ => decide
    | 1, _ => decide
    | 2, _ => decide
    | n + 3, h => omega
  refine sd_ret (pd_tup (pds_cons (pd_add pd_int (pd_mod p1 (pd_var 0) (pd_ixL (d := .int (([3, 10] : List Int).getD j1 1)) (PN.pl (pn_lst (pds_cons pd_int (pds_cons pd_int pds_nil)))) (pd_mod (by decide) (pd_fdiv (wide_div (b := 20) (by decide) (by decide) (by decide) (by decide)) (pd_var 0) pd_int) pd_int) ?_)))
    (pds_cons (pd_add pd_int (pd_mod p2 (pd_fdiv (wide_div (b := 20) (by decide) (by decide) (by decide) (by decide)) (pd_var 0) pd_int) (pd_ixL (d := .int (([4, 9, 20] : List Int).getD j2 1)) (PN.pl (pn_lst (pds_cons pd_int (pds_cons pd_int (pds_cons pd_int pds_nil))))) (pd_mod (by decide) (pd_fdiv (wide_div (b := 20) (by decide) (by decide) (by decide) (by decide)) (pd_var 0) pd_int) pd_int) ?_))) pds_nil))) ?_
  · rw [e1]
    refine atI_nat ?_
    match j1, l1 with
    | 0, _ => rfl
    | 1, _ => rfl
    | n + 2, h => omega
  · rw [e2]
    refine atI_nat ?_
    match j2, l2 with
    | 0, _ => rfl
    | 1, _ => rfl
    | 2, _ => rfl
    | n + 3, h => omega
  · show Rs.ok (.tuple [.int (1 + m % (([3, 10] : List Int).getD (m / 16 % 2).toNat 1)), .int (1 + m / 64 % (([4, 9, 20] : List Int).getD (m / 2048 % 3).toNat 1))]) = _
    rw [e1, e2]
    rfl
end
end K41

namespace K41
open PySem PySem.Spec PyProof.Rows L2 FP
section
variable {P : Program} {w : World} {K : PySem.W.Frag} {mg : Str → Option Value} {base : Heap} {f C : Addr} {fd : FuncData}
def rowL (m : Int) (wd j : Nat) : List PyData := if drawn m j % 3 = 0 then List.replicate wd blankC else (List.range wd).map fun (n : Nat) => cellOfD (drawn (drawn m j) n)
def rowsL (m : Int) (h wd : Nat) : List PyData := (List.range h).map fun (j : Nat) => .tuple (rowL m wd j)
def faceL (m : Int) (h wd : Nat) : PyData := .tuple [.tuple (rowsL m h wd), .int (m / 8 % (h : Int)), .int (m / 128 % (wd : Int))]
def frLFace : List PyData → Rs → Prop := fun ds r => ∃ (m : Int) (h wd : Nat), ds = [.int m, .int (h : Int), .int (wd : Int)] ∧ 1 ≤ h ∧ h ≤ 10 ∧ 1 ≤ wd ∧ wd ≤ 20 ∧ r = .ok (faceL m h wd)
abbrev NF : List Str := ["_law_more", "_law_height", "_law_width", "_law_rows", "_law_j", "_law_here", "_law_cells", "_law_n"]
theorem sc_lface : FnScope NF ["_law_more", "_law_height", "_law_width"] (defScope s__law_face) := ⟨rfl, rfl, rfl, by decide +kernel, rfl, by decide +kernel, by decide +kernel⟩
theorem rangeD_nat (n : Nat) : (rangeD 0 ((n : Nat) : Int).toNat).length = n := by
  rw [rangeD_len]
  omega
theorem rangeD_at {n i : Nat} {d : PyData} (h : (rangeD 0 ((n : Nat) : Int).toNat)[i]? = some d) : i < n ∧ d = .int (i : Int) := by
  have hl : i < n := by
    have := (List.getElem?_eq_some_iff.mp h).1
    rw [rangeD_nat] at this
    exact this
  have e : ((n : Nat) : Int).toNat = n := by omega
  rw [e, rangeD_get hl] at h
  cases h
  exact ⟨hl, by rw [Int.zero_add]⟩
theorem ok_lface (F : Df K "_law_face" s__law_face f fd) (hm : mg "_law_face" = some (.ref f)) (B : Bl mg) (G1 : DefOk P w K mg base 1 "_law_drawn" frDrawn) (G2 : DefOk P w K mg base 1 "_law_cell_of" frCellOf) : DefOk P w K mg base 2 "_law_face" frLFace := by
  refine def_ok F hm sc_lface (fun _ _ _ _ _ _ us hl => match us, hl with | [_, _, _], _ => rfl) (fun ds r h => by obtain ⟨_, _, _, rfl, _⟩ := h; rfl) (fun cdv A outer s H E qs ds r hr h => ?_)
  obtain ⟨m, h, wd, rfl, h1, h2, w1, w2, rfl⟩ := h
  refine sd_own 3 (pn_lst pds_nil) (fun D => ?_) sc_lface.nd
  refine sd_for 4 (items := rangeD 0 ((h : Nat) : Int).toNat) (fun i δ' ω' => ω' = omD ⟨qs, []⟩ D (.lst (((rowsL m h wd).take i).map .im)) ∧ ∃ y4 y5 y6 y7, δ' = [some (.im (.int m)), some (.im (.int h)), some (.im (.int wd)), some (.ad D), y4, y5, y6, y7])
    (wk_range1 B.range (pd_var 1) (by omega)) ⟨rfl, none, none, none, none, rfl⟩ ?_ ?_ (pg_name sc_lface.nd rfl (Or.inl rfl)) (passes_of rfl) rfl
  · rintro i d δ' ω' hd ⟨rfl, y4, y5, y6, y7, rfl⟩
    obtain ⟨hi, rfl⟩ := rangeD_at hd
    refine sd_set 5 (pd_call G1 hr (pds_cons (pd_var 0) (pds_cons (pd_var 4) pds_nil)) ⟨_, _, rfl, rfl⟩) ?_ sc_lface.nd
    refine sd_setLc 6 (y := "_law_n") (j := 7) (items := rangeD 0 ((wd : Nat) : Int).toNat) (ys := (List.range wd).map fun (n : Nat) => cellOfD (drawn (drawn m i) n)) rfl sc_lface.nd (PWk.ws (wk_range1 B.range (pd_var 2) (by omega))) (by rw [List.length_map, List.length_range, rangeD_nat])
      (blkOk_by (N := NF) (sc := defScope s__law_face) (by decide +kernel)) (fun _ _ _ _ _ => pg_name sc_lface.nd rfl (Or.inl rfl)) ?_ (by rw [rangeD_nat]; omega) (sw_true rfl rfl rfl (by decide +kernel)) ?_
    · intro j d y hd hy D o s H C cl fp
      obtain ⟨hj, rfl⟩ := rangeD_at hd
      rw [List.getElem?_map, List.getElem?_range hj] at hy
      cases hy
      exact pd_call G2 hr (pds_cons (pd_call G1 hr (pds_cons (pd_var 5) (pds_cons (pd_var 7) pds_nil)) ⟨_, _, rfl, rfl⟩) pds_nil) ⟨_, rfl, rfl⟩
    · refine sd_ifJ (fun δ' ω' => ω' = omD ⟨qs, []⟩ D (.lst (((rowsL m h wd).take i).map .im)) ∧ δ' = [some (.im (.int m)), some (.im (.int h)), some (.im (.int wd)), some (.ad D), some (.im (.int (i : Int))), some (.im (.int (drawn m i))), some (.im (.list (rowL m wd i))), y7])
        (pt_cmpd op_eq rd_eqI (pd_mod (by decide) (pd_var 5) pd_int) pd_int (nomark _)) (fun hk => ?_) (fun hk => sd_nil ⟨rfl, ?_⟩) ?_
      · refine sd_set 6 (PN.pd (pn_rep1 (PN.plt (pn_lst (pds_cons (pd_tup (pds_cons pd_str (pds_cons pd_int pds_nil))) pds_nil))) (pd_var 2) (by omega) (by omega))) (sd_nil ⟨rfl, ?_⟩) sc_lface.nd
        unfold rowL
        rw [if_pos (of_decide_eq_true hk)]
        rfl
      · unfold rowL
        rw [if_neg (of_decide_eq_false hk)]
        rfl
      · rintro δ' ω' ⟨rfl, rfl⟩
        refine sd_app 3 (pd_tupleL B.tuple (PD.pl (pd_var 6))) (sd_nil ⟨?_, _, _, _, _, rfl⟩) (by rw [List.length_take]; unfold rowsL; rw [List.length_map, List.length_range]; omega)
        have e : (rowsL m h wd)[i]? = some (.tuple (rowL m wd i)) := by
          unfold rowsL
          rw [List.getElem?_map, List.getElem?_range hi]
          rfl
        rw [List.take_add_one, e]
        rfl
  · rintro δ' ω' ⟨rfl, y4, y5, y6, y7, rfl⟩
    have hl : (rowsL m h wd).length = h := by
      unfold rowsL
      rw [List.length_map, List.length_range]
    have e : (rowsL m h wd).take (rangeD 0 ((h : Nat) : Int).toNat).length = rowsL m h wd := List.take_of_length_le (by rw [rangeD_nat, hl]; exact Nat.le_refl _)
    rw [e]
    have hh : (0 : Int) < (h : Int) := by omega
    have hw : (0 : Int) < (wd : Int) := by omega
    refine sd_ret (pd_tup (pds_cons (pd_tupleL B.tuple (pl_var 3 List.mem_cons_self)) (pds_cons (pd_mod hh (pd_fdiv (wide_div (b := 20) (by decide) (by decide) (by decide) (by decide)) (pd_var 0) pd_int) (pd_var 1)) (pds_cons (pd_mod hw (pd_fdiv (wide_div (b := 20) (by decide) (by decide) (by decide) (by decide)) (pd_var 0) pd_int) (pd_var 2)) pds_nil)))) ?_
    exact rfl
end
end K41

namespace K41
open PySem PySem.Spec PyProof.Rows L2 FP
def Row (wd : Nat) (x : PyData) : Prop := ∃ cs, x = .tuple cs ∧ cs.length = wd ∧ ∀ y ∈ cs, isCell y = true
structure Fc (h wd : Nat) (d : PyData) (rs : List PyData) (r c : Nat) : Prop where
  eq : d = .tuple [.tuple rs, .int (r : Int), .int (c : Int)]
  len : rs.length = h
  row : ∀ x ∈ rs, Row wd x
  hr : r < h
  hc : c < wd
  h10 : h ≤ 10
  w20 : wd ≤ 20
section
variable {h wd r c H W : Nat} {d : PyData} {rs : List PyData}
theorem Fc.face (F : Fc h wd d rs r c) : isFace d = true := by
  obtain ⟨rfl, hl, row, hr, hc, h10, w20⟩ := F
  match rs, hl, row with
  | [], hl, _ => simp at hl; omega
  | x0 :: rest, hl, row =>
    obtain ⟨c0, rfl, l0, a0⟩ := row x0 List.mem_cons_self
    have e1 : (PyData.tuple c0 :: rest).all isT = true := List.all_eq_true.mpr fun x hx => by
      obtain ⟨cs, rfl, _⟩ := row x hx
      rfl
    have e2 : okSize (.int ((rest.length + 1 : Nat) : Int)) (.int ((c0.length : Nat) : Int)) = true := by
      rw [List.length_cons] at hl
      show ((decide ((1 : Int) ≤ ((rest.length + 1 : Nat) : Int)) && decide (((rest.length + 1 : Nat) : Int) ≤ 10)) && (decide ((1 : Int) ≤ ((c0.length : Nat) : Int)) && decide (((c0.length : Nat) : Int) ≤ 20))) = true
      rw [decide_eq_true (by omega), decide_eq_true (by omega), decide_eq_true (by omega), decide_eq_true (by omega)]
      rfl
    have e3 : (PyData.tuple c0 :: rest).all (okRow c0.length) = true := List.all_eq_true.mpr fun x hx => by
      obtain ⟨cs, rfl, l, a⟩ := row x hx
      show (decide (cs.length = c0.length) && cs.all isCell) = true
      rw [decide_eq_true (by omega), List.all_eq_true.mpr a]
      rfl
    have e4 : isRows (.tuple (.tuple c0 :: rest)) = true := by
      show ((PyData.tuple c0 :: rest).all isT && (okSize (.int ((rest.length + 1 : Nat) : Int)) (.int ((c0.length : Nat) : Int)) && (PyData.tuple c0 :: rest).all (okRow c0.length))) = true
      rw [e1, e2, e3]
      rfl
    show (isRows _ && ((decide ((0 : Int) ≤ (r : Int)) && decide ((r : Int) ≤ (((PyData.tuple c0 :: rest).length : Nat) : Int) - 1)) && (decide ((0 : Int) ≤ (c : Int)) && decide ((c : Int) ≤ ((c0.length : Nat) : Int) - 1)))) = true
    rw [e4, decide_eq_true (by omega), decide_eq_true (by omega), decide_eq_true (by omega), decide_eq_true (by omega)]
    rfl
theorem sm_cell {y : PyData} (h : isCell y = true) : smC y := by
  obtain ⟨k, i, rfl, _⟩ := cell_of h
  intro ds e x hx
  cases e
  intro z ez
  rcases List.mem_cons.mp hx with q | q
  · subst q
    cases ez
    exact (by decide : (1 : Nat) ≤ 1000)
  · rcases List.mem_cons.mp q with q | q
    · subst q
      cases ez
    · cases q
theorem Fc.small (F : Fc h wd d rs r c) : smF d := by
  obtain ⟨rfl, hl, row, hr, hc, h10, w20⟩ := F
  intro ds e x hx
  cases e
  intro es ee
  subst ee
  rcases List.mem_cons.mp hx with q | q
  · cases q
    refine ⟨by omega, fun y hy => ?_⟩
    obtain ⟨cs, rfl, l, a⟩ := row y hy
    intro es ee
    cases ee
    exact ⟨by omega, fun z hz => sm_cell (a z hz)⟩
  · simp at q
theorem shp_cell {y : PyData} (h : isCell y = true) : Shp 1 y := by
  obtain ⟨k, i, rfl, hk, _⟩ := cell_of h
  refine .tup fun x hx => ?_
  rcases List.mem_cons.mp hx with q | q
  · subst q
    refine .str ?_
    unfold okSign at hk
    simp only [Bool.and_eq_true, decide_eq_true_eq] at hk
    show (#[k].all (· < 0x110000)) = true
    simp
    omega
  · rcases List.mem_cons.mp q with q | q
    · subst q
      exact .int i
    · cases q
theorem Fc.shp (F : Fc h wd d rs r c) : Shp 4 d := by
  obtain ⟨rfl, hl, row, hr, hc, h10, w20⟩ := F
  refine .tup fun x hx => ?_
  rcases List.mem_cons.mp hx with q | q
  · subst q
    refine .tup fun y hy => ?_
    obtain ⟨cs, rfl, l, a⟩ := row y hy
    exact .tup fun z hz => shp_cell (a z hz)
  · rcases List.mem_cons.mp q with q | q
    · subst q
      exact .int _
    · rcases List.mem_cons.mp q with q | q
      · subst q
        exact .int _
      · cases q
theorem blank_cell : isCell blankC = true := by decide +kernel
theorem iks_b (j : Nat) (h : j < 5) : 0 ≤ iks.getD j 0 ∧ iks.getD j 0 ≤ 7 := by
  match j, h with
  | 0, _ => decide
  | 1, _ => decide
  | 2, _ => decide
  | 3, _ => decide
  | 4, _ => decide
  | n + 5, h => omega
theorem sgs_b (j : Nat) (h : j < 6) : okSign (sgs.getD j 0) = true := by
  match j, h with
  | 0, _ => decide
  | 1, _ => decide
  | 2, _ => decide
  | 3, _ => decide
  | 4, _ => decide
  | 5, _ => decide
  | n + 6, h => omega
theorem cell_ok {k : Nat} {i : Int} (hk : okSign k = true) (h0 : 0 ≤ i) (h7 : i ≤ 7) : isCell (cellD k i) = true := by
  show (([k].all okSign && decide (1 = 1)) && (decide (0 ≤ i) && decide (i ≤ 7))) = true
  rw [List.all_cons, hk, decide_eq_true h0, decide_eq_true h7]
  rfl
theorem cellOf_ok (m : Int) : isCell (cellOfD m) = true := by
  obtain ⟨j1, e1, l1⟩ := mod_nat m 6 (by decide)
  obtain ⟨j2, e2, l2⟩ := mod_nat (m / 8) 5 (by decide)
  have e1 : m % 6 = (j1 : Int) := e1
  have e2 : m / 8 % 5 = (j2 : Int) := e2
  unfold cellOfD
  rw [e1, e2]
  exact cell_ok (sgs_b j1 l1) (iks_b j2 l2).1 (iks_b j2 l2).2
theorem rowL_row (m : Int) (wd j : Nat) : Row wd (.tuple (rowL m wd j)) := by
  refine ⟨_, rfl, ?_, fun y hy => ?_⟩
  · unfold rowL
    split
    · exact List.length_replicate
    · rw [List.length_map, List.length_range]
  · unfold rowL at hy
    split at hy
    · rw [(List.mem_replicate.mp hy).2]
      exact blank_cell
    · obtain ⟨n, _, rfl⟩ := List.mem_map.mp hy
      exact cellOf_ok _
end
end K41

namespace K41
open PySem PySem.Spec PyProof.Rows L2 FP
section
variable {P : Program} {w : World} {K : PySem.W.Frag} {mg : Str → Option Value} {base : Heap} {f C : Addr} {fd : FuncData}
def pushD (ts : List PyData) (i n : Nat) (d : PyData) : List PyData := (ts.take i ++ List.replicate n d ++ ts.drop i).take ts.length
def pullD (ts : List PyData) (i n : Nat) (d : PyData) : List PyData := (ts.take i ++ ts.drop (i + n)) ++ List.replicate (ts.length - (ts.take i ++ ts.drop (i + n)).length) d
def frPush : List PyData → Rs → Prop := fun ds r => ∃ (ts : List PyData) (i n : Nat) (d : PyData), ds = [.tuple ts, .int (i : Int), .int (n : Int), d] ∧ ts.length ≤ 100 ∧ i ≤ 100 ∧ n ≤ 100 ∧ r = .ok (.tuple (pushD ts i n d))
def frPull : List PyData → Rs → Prop := fun ds r => ∃ (ts : List PyData) (i n : Nat) (d : PyData), ds = [.tuple ts, .int (i : Int), .int (n : Int), d] ∧ ts.length ≤ 100 ∧ i ≤ 100 ∧ n ≤ 100 ∧ r = .ok (.tuple (pullD ts i n d))
theorem sc_push : FnScope ["things", "at", "many", "new"] ["things", "at", "many", "new"] (defScope s_pushed) := ⟨rfl, rfl, rfl, by decide +kernel, rfl, by decide +kernel, by decide +kernel⟩
theorem sc_pull : FnScope ["things", "at", "many", "new", "left"] ["things", "at", "many", "new"] (defScope s_pulled) := ⟨rfl, rfl, rfl, by decide +kernel, rfl, by decide +kernel, by decide +kernel⟩
theorem ok_push (F : Df K "pushed" s_pushed f fd) (hm : mg "pushed" = some (.ref f)) (B : Bl mg) : DefOk P w K mg base 1 "pushed" frPush := by
  refine def_ok F hm sc_push (fun _ _ _ _ _ _ us hl => match us, hl with | [_, _, _, _], _ => rfl) (fun ds r h => by obtain ⟨_, _, _, _, rfl, _⟩ := h; rfl) (fun cdv A outer s H E qs ds r hr h => ?_)
  obtain ⟨ts, i, n, d, rfl, h1, h2, h3, rfl⟩ := h
  have l1 := List.length_take_le i ts
  have l2 : (ts.drop i).length ≤ ts.length := by rw [List.length_drop]; omega
  refine sd_ret (d := .tuple (pushD ts i n d)) (PD.eq (pd_slT (i := none) (j := some ((ts.length : Nat) : Int)) (pd_catT (ds := ts.take i ++ List.replicate n d) (dt := ts.drop i) (pd_catT (ds := ts.take i) (dt := List.replicate n d) (PD.eq (pd_slT (i := none) (j := some ((i : Nat) : Int)) (pd_var 0) rfl ⟨_, rfl, pd_var 1⟩) (by rw [cut_to]))
    (PD.eq (pd_rep1 (k := (n : Int)) (pd_tup (pds_cons (pd_var 3) pds_nil)) (pd_var 2) (by omega) (by omega)) (by rw [show ((n : Nat) : Int).toNat = n by omega])) (by rw [List.length_replicate]; omega)) (PD.eq (pd_slT (i := some ((i : Nat) : Int)) (j := none) (pd_var 0) ⟨_, rfl, pd_var 1⟩ rfl) (by rw [cut_from])) (by rw [List.length_append, List.length_replicate]; omega)) rfl ⟨_, rfl, pd_lenT B.len (pd_var 0)⟩) (by rw [cut_to]; rfl)) rfl
theorem ok_pull (F : Df K "pulled" s_pulled f fd) (hm : mg "pulled" = some (.ref f)) (B : Bl mg) : DefOk P w K mg base 1 "pulled" frPull := by
  refine def_ok F hm sc_pull (fun _ _ _ _ _ _ us hl => match us, hl with | [_, _, _, _], _ => rfl) (fun ds r h => by obtain ⟨_, _, _, _, rfl, _⟩ := h; rfl) (fun cdv A outer s H E qs ds r hr h => ?_)
  obtain ⟨ts, i, n, d, rfl, h1, h2, h3, rfl⟩ := h
  have l1 := List.length_take_le i ts
  have l2 : (ts.drop (i + n)).length ≤ ts.length := by rw [List.length_drop]; omega
  refine sd_set 4 (d := .tuple (ts.take i ++ ts.drop (i + n))) (pd_catT (PD.eq (pd_slT (i := none) (j := some ((i : Nat) : Int)) (pd_var 0) rfl ⟨_, rfl, pd_var 1⟩) (by rw [cut_to])) (PD.eq (pd_slT (i := some (((i + n : Nat)) : Int)) (j := none) (pd_var 0) ⟨_, rfl, PD.eq (pd_add (pd_var 1) (pd_var 2)) (by congr 1)⟩ rfl) (by rw [cut_from])) (by omega)) ?_ sc_pull.nd
  have l3 : (ts.take i ++ ts.drop (i + n)).length ≤ ts.length := by
    rw [List.length_append, List.length_take, List.length_drop]
    omega
  refine sd_ret (PD.eq (pd_catT (pd_var 4) (PD.eq (pd_rep1 (k := (ts.length : Int) - ((ts.take i ++ ts.drop (i + n)).length : Int)) (pd_tup (pds_cons (pd_var 3) pds_nil)) (pd_sub (pd_lenT B.len (pd_var 0)) (pd_lenT B.len (pd_var 4))) (by omega) (by omega)) (by rw [show ((ts.length : Int) - ((ts.take i ++ ts.drop (i + n)).length : Int)).toNat = ts.length - (ts.take i ++ ts.drop (i + n)).length by omega])) (by rw [List.length_replicate]; omega)) rfl) rfl
def rollD (rs : List PyData) (wd : Nat) (by_ : Int) : List PyData := if by_ < 0 then pushD rs 0 (-by_).toNat (.tuple (List.replicate wd blankC)) else pullD rs 0 by_.toNat (.tuple (List.replicate wd blankC))
def frRoll : List PyData → Rs → Prop := fun ds r => ∃ (c0 : List PyData) (rs : List PyData) (by_ : Int), ds = [.tuple (.tuple c0 :: rs), .int by_] ∧ rs.length < 100 ∧ c0.length ≤ 100 ∧ -100 ≤ by_ ∧ by_ ≤ 100 ∧ r = .ok (.tuple (rollD (.tuple c0 :: rs) c0.length by_))
theorem sc_roll : FnScope ["rows", "by", "new"] ["rows", "by"] (defScope s_rolled) := ⟨rfl, rfl, rfl, by decide +kernel, rfl, by decide +kernel, by decide +kernel⟩
theorem ok_roll (F : Df K "rolled" s_rolled f fd) (hm : mg "rolled" = some (.ref f)) (B : Bl mg) (G1 : DefOk P w K mg base 1 "pushed" frPush) (G2 : DefOk P w K mg base 1 "pulled" frPull) (G3 : DefOk P w K mg base 1 "blank_cells" frBlankCells) : DefOk P w K mg base 2 "rolled" frRoll := by
  refine def_ok F hm sc_roll (fun _ _ _ _ _ _ us hl => match us, hl with | [_, _], _ => rfl) (fun ds r h => by obtain ⟨_, _, _, rfl, _⟩ := h; rfl) (fun cdv A outer s H E qs ds r hr h => ?_)
  obtain ⟨c0, rs, by_, rfl, h1, h2, h3, h4, rfl⟩ := h
  refine sd_set 2 (d := .tuple (List.replicate c0.length blankC)) (PD.eq (pd_call G3 hr (pds_cons (pd_lenT B.len (pd_ixT (pd_var 0) pd_int atI0)) pds_nil) ⟨_, rfl, by omega, by omega, rfl⟩) (by rw [show ((c0.length : Nat) : Int).toNat = c0.length by omega])) ?_ sc_roll.nd
  refine sd_if (pt_cmpd op_lt rd_B0 (pd_var 1) pd_int (nomark _)) (fun hk => ?_) (fun hk => sd_nil ?_)
  · have hlt := of_decide_eq_true hk
    refine sd_ret (pd_call G1 hr (pds_cons (pd_var 0) (pds_cons pd_int (pds_cons (pd_neg (pd_var 1)) (pds_cons (pd_var 2) pds_nil)))) ⟨_, 0, (-by_).toNat, _, by rw [show (((-by_).toNat : Nat) : Int) = -by_ by omega]; rfl, by simp; omega, by decide, by omega, rfl⟩) ?_
    unfold rollD
    rw [if_pos hlt]
    exact rfl
  · have hge := of_decide_eq_false hk
    refine sd_ret (pd_call G2 hr (pds_cons (pd_var 0) (pds_cons pd_int (pds_cons (pd_var 1) (pds_cons (pd_var 2) pds_nil)))) ⟨_, 0, by_.toNat, _, by rw [show ((by_.toNat : Nat) : Int) = by_ by omega]; rfl, by simp; omega, by decide, by omega, rfl⟩) ?_
    unfold rollD
    rw [if_neg hge]
    exact rfl
end
end K41

namespace K41
open PySem PySem.Spec PyProof.Rows L2 FP
section
variable {P : Program} {w : World} {K : PySem.W.Frag} {mg : Str → Option Value} {base : Heap} {f C : Addr} {fd : FuncData}
theorem rd_eqS {K : PySem.W.Frag} {y z : Str} : RD K rEq (.str y) (.str z) (.bool (decide (y = z))) := fun ps u v H _ hx hy Q k => by
  cases hx
  cases hy
  refine ⟨rfl, ?_⟩
  have e : decide (V.str y = V.str z) = decide (y = z) := by
    by_cases c : y = z
    · subst c
      simp
    · rw [decide_eq_false c, decide_eq_false (fun q => c (V.str.inj q))]
  rw [e]
  exact k _ H (Same.refl H) (.bl _)
theorem rd_neT {K : PySem.W.Frag} {y z : Str} : RD K rNe (.str y) (.str z) (.bool (!decide (y = z))) := fun ps u v H _ hx hy Q k => by
  cases hx
  cases hy
  refine ⟨rfl, ?_⟩
  have e : decide (V.str y = V.str z) = decide (y = z) := by
    by_cases c : y = z
    · subst c
      simp
    · rw [decide_eq_false c, decide_eq_false (fun q => c (V.str.inj q))]
  rw [e]
  exact k _ H (Same.refl H) (.bl _)
def geZ : PyData → Bool
  | .int i => decide (0 ≤ i)
  | _ => false
def neZ : PyData → Bool
  | .int i => !decide (i = 0)
  | _ => false
def neE : PyData → Bool
  | .str z => !decide (z = "")
  | _ => false
def isPlace (r c : PyData) : Bool := isWhole r && (geZ r && (isWhole c && geZ c))
def partRoll : List PyData → Bool
  | [b] => isWithin b (-10) 10 && neZ b
  | _ => false
def partPut : List PyData → Bool
  | [r, c, k, y] => isPlace r c && (isWithin k 0 7 && (areSigns y && neE y))
  | _ => false
def partCur : List PyData → Bool
  | [r, c] => isPlace r c
  | _ => false
def isPart : PyData → Bool
  | .tuple (.str z :: told) => if z = "roll" then partRoll told else if z = "put" then partPut told else if z = "cursor" then partCur told else false
  | _ => false
def okP (d : PyData) : Prop := ∀ x told, d = .tuple (x :: told) → told.length ≤ 100 ∧ ∀ y ∈ told, smS y
def frPlace : List PyData → Rs → Prop := fun ds s => ∃ r c, ds = [r, c] ∧ s = .ok (.bool (isPlace r c))
theorem sc_place : FnScope ["row", "column"] ["row", "column"] (defScope s_is_place) := ⟨rfl, rfl, rfl, by decide +kernel, rfl, by decide +kernel, by decide +kernel⟩
theorem whole_int {d : PyData} (h : isWhole d = true) : ∃ i, d = .int i := by
  cases d <;> first | exact ⟨_, rfl⟩ | cases h
theorem ok_isplace (F : Df K "is_place" s_is_place f fd) (hm : mg "is_place" = some (.ref f)) (G1 : DefOk P w K mg base 1 "is_whole" frWhole) : DefOk P w K mg base 2 "is_place" frPlace := by
  refine def_ok F hm sc_place (fun _ _ _ _ _ _ us hl => match us, hl with | [_, _], _ => rfl) (fun ds r h => by obtain ⟨_, _, rfl, _⟩ := h; rfl) (fun cdv A outer s H E qs ds r hr h => ?_)
  obtain ⟨r, c, rfl, rfl⟩ := h
  refine sd_ret (pd_and (x := isWhole r) (y := geZ r && (isWhole c && geZ c)) (pd_call G1 hr (pds_cons (pd_var 0) pds_nil) ⟨r, rfl, rfl⟩) (fun hr1 => ?_)) rfl
  obtain ⟨i, rfl⟩ := whole_int hr1
  refine pd_and (x := geZ (.int i)) (y := isWhole c && geZ c) (pd_ge (pd_var 0) pd_int) (fun _ => ?_)
  refine pd_and (x := isWhole c) (y := geZ c) (pd_call G1 hr (pds_cons (pd_var 1) pds_nil) ⟨c, rfl, rfl⟩) (fun hc1 => ?_)
  obtain ⟨j, rfl⟩ := whole_int hc1
  exact pd_one (pd_ge (pd_var 1) pd_int)
def frIsPart : List PyData → Rs → Prop := fun ds r => ∃ d, ds = [d] ∧ okP d ∧ r = .ok (.bool (isPart d))
abbrev NPt : List Str := ["part", "by", "row", "column", "ink", "text"]
theorem sc_part : FnScope NPt ["part"] (defScope s_is_part) := ⟨rfl, rfl, rfl, by decide +kernel, rfl, by decide +kernel, by decide +kernel⟩
theorem within_int {d : PyData} {a b : Int} (h : isWithin d a b = true) : ∃ i, d = .int i := by
  cases d <;> first | exact ⟨_, rfl⟩ | cases h
theorem signs_strP {d : PyData} (h : areSigns d = true) : ∃ z, d = .str z := by
  cases d <;> first | exact ⟨_, rfl⟩ | cases h
theorem ok_ispart (F : Df K "is_part" s_is_part f fd) (hm : mg "is_part" = some (.ref f)) (B : Bl mg) (g1 : GlD K mg "MOST_ROLL" (.int 10)) (g2 : GlD K mg "MOST_INK" (.int 7)) (GW : DefOk P w K mg base 2 "is_within" frWithin) (GP : DefOk P w K mg base 2 "is_place" frPlace) (GS : DefOk P w K mg base 1 "are_signs" frSigns) : DefOk P w K mg base 3 "is_part" frIsPart := by
  refine def_ok F hm sc_part (fun _ _ _ _ _ _ us hl => match us, hl with | [_], _ => rfl) (fun ds r h => by obtain ⟨_, rfl, _⟩ := h; rfl) (fun cdv A outer s H E qs ds r hr h => ?_)
  obtain ⟨d, rfl, sm, rfl⟩ := h
  have hr1 : Room 1 (A.deeper (envOfC "is_part" (defScope s_is_part) s.heap.objs.size f cdv)) := hr.mono (by decide)
  by_cases hd : ∃ ds, d = .tuple ds
  · obtain ⟨ds, rfl⟩ := hd
    cases ds with
    | nil => exact sd_ifT (PWd.pt (PWd.eq (pw_ord (pt_notd (pt_bool (pd_isi B.isi B.tuple bb_tuple (pd_var 0) (k_tuple _)))) (fun _ => pw_orT (pt_notd (k := false) (pt_truT (pd_var 0) rfl)))) rfl)) (sd_ret pd_bl rfl)
    | cons x told =>
      obtain ⟨sl, ss⟩ := sm x told rfl
      by_cases hx : ∃ z, x = .str z
      · obtain ⟨z, rfl⟩ := hx
        refine sd_ifF (PWd.pt (pw_ord (x := false) (y := false) (pt_notd (k := true) (pt_bool (pd_isi B.isi B.tuple bb_tuple (pd_var 0) (k_tuple _)))) (fun _ => pw_ord (x := false) (y := false) (pt_notd (k := true) (pt_truT (pd_var 0) rfl)) (fun _ => pw_or1d (pt_notd (k := true) (pt_bool (pd_isi B.isi B.str bb_str (pd_ixT (d := .str z) (pd_var 0) pd_int atI0) (k_str _)))))))) ?_
        refine sd_match (pd_var 0) ?_
        have no : isPart (.tuple (.str z :: told)) = false → SD (cxOf (L2N.CX P w) P w K mg base NPt "is_part" (defScope s_is_part) f cdv A outer s H E) (WOf E) [] ((defBody s_is_part).drop 2) [some (.im (.tuple (.str z :: told))), none, none, none, none, none] ⟨qs, []⟩ (Fin (.ok (.bool (isPart (.tuple (.str z :: told)))))) := by
          intro e
          rw [e]
          exact sd_ret pd_bl rfl
        match told, sl, ss with
        | [b], sl, ss =>
          by_cases hz : z = "roll"
          · subst hz
            refine mc_hit [1] rfl sc_part.nd rfl (by simp) rfl rfl (show capB NPt (defScope s_is_part) ["by"] [1] = true by decide +kernel) ?_
            refine sd_ret (pd_and (x := isWithin b (-10) 10) (y := neZ b) (pd_call GW (hr.mono (by decide)) (pds_cons (pd_var 1) (pds_cons (pd_neg (pd_glob g1)) (pds_cons (pd_glob g1) pds_nil))) ⟨b, -10, 10, rfl, rfl⟩) (fun hb => ?_)) rfl
            obtain ⟨i, rfl⟩ := within_int hb
            exact pd_one (pd_neI (pd_var 1) pd_int)
          · refine mc_word rfl hz rfl (by simp) (mc_len (by simp) (by simp) (mc_len (by simp) (by simp) (mc_nil (no ?_))))
            show (if z = "roll" then _ else if z = "put" then false else if z = "cursor" then false else false) = false
            rw [if_neg hz]
            split <;> (try split) <;> rfl
        | [r, c], sl, ss =>
          by_cases hz : z = "cursor"
          · subst hz
            refine mc_len (by simp) (by simp) (mc_len (by simp) (by simp) (mc_hit [2, 3] rfl sc_part.nd rfl (by simp) rfl rfl (show capB NPt (defScope s_is_part) ["row", "column"] [2, 3] = true by decide +kernel) ?_))
            exact sd_ret (pd_call GP (hr.mono (by decide)) (pds_cons (pd_var 2) (pds_cons (pd_var 3) pds_nil)) ⟨r, c, rfl, rfl⟩) rfl
          · refine mc_len (by simp) (by simp) (mc_len (by simp) (by simp) (mc_word rfl hz rfl (by simp) (mc_nil (no ?_))))
            show (if z = "roll" then false else if z = "put" then false else if z = "cursor" then _ else false) = false
            rw [if_neg hz]
            split <;> (try split) <;> rfl
        | [r, c, k, y], sl, ss =>
          by_cases hz : z = "put"
          · subst hz
            have sy := ss y (by simp)
            refine mc_len (by simp) (by simp) (mc_hit [2, 3, 4, 5] rfl sc_part.nd rfl (by simp) rfl rfl (show capB NPt (defScope s_is_part) ["row", "column", "ink", "text"] [2, 3, 4, 5] = true by decide +kernel) ?_)
            refine sd_ret (pd_and (x := isPlace r c) (y := isWithin k 0 7 && (areSigns y && neE y)) (pd_call GP (hr.mono (by decide)) (pds_cons (pd_var 2) (pds_cons (pd_var 3) pds_nil)) ⟨r, c, rfl, rfl⟩) (fun _ => ?_)) rfl
            refine pd_and (x := isWithin k 0 7) (y := areSigns y && neE y) (pd_call GW (hr.mono (by decide)) (pds_cons (pd_var 4) (pds_cons pd_int (pds_cons (pd_glob g2) pds_nil))) ⟨k, 0, 7, rfl, rfl⟩) (fun _ => ?_)
            refine pd_and (x := areSigns y) (y := neE y) (pd_call GS hr1 (pds_cons (pd_var 5) pds_nil) ⟨y, rfl, rfl, fun z e => sy z e⟩) (fun hs => ?_)
            obtain ⟨q, rfl⟩ := signs_strP hs
            exact pd_one (pd_cmp op_ne rd_neT (pd_var 5) pd_str (nomark _))
          · refine mc_len (by simp) (by simp) (mc_word rfl hz rfl (by simp) (mc_len (by simp) (by simp) (mc_nil (no ?_))))
            show (if z = "roll" then false else if z = "put" then _ else if z = "cursor" then false else false) = false
            rw [if_neg hz]
            split <;> (try split) <;> rfl
        | [], sl, ss =>
          refine mc_len (by simp) (by simp) (mc_len (by simp) (by simp) (mc_len (by simp) (by simp) (mc_nil (no ?_))))
          show (if z = "roll" then false else if z = "put" then false else if z = "cursor" then false else false) = false
          split <;> (try split) <;> (try split) <;> rfl
        | [a, b, c], sl, ss =>
          refine mc_len (by simp) (by simp) (mc_len (by simp) (by simp) (mc_len (by simp) (by simp) (mc_nil (no ?_))))
          show (if z = "roll" then false else if z = "put" then false else if z = "cursor" then false else false) = false
          split <;> (try split) <;> (try split) <;> rfl
        | a :: b :: c :: d :: e :: rest, sl, ss =>
          have hl : rest.length ≤ 100 := by
            simp only [List.length_cons] at sl
            omega
          have hz : ((.str z :: a :: b :: c :: d :: e :: rest : List PyData)).length ≤ 100000 := by
            simp only [List.length_cons]
            omega
          refine mc_len (by simp) hz (mc_len (by simp) hz (mc_len (by simp) hz (mc_nil (no ?_))))
          show (if z = "roll" then false else if z = "put" then false else if z = "cursor" then false else false) = false
          split <;> (try split) <;> (try split) <;> rfl
      · have nS : isS x = false := by
          cases x with
          | str q => exact absurd ⟨q, rfl⟩ hx
          | _ => rfl
        have e : isPart (.tuple (x :: told)) = false := by
          cases x with
          | str q => exact absurd ⟨q, rfl⟩ hx
          | _ => rfl
        rw [e]
        refine sd_ifT (PWd.pt (PWd.eq (pw_ord (x := false) (pt_notd (k := true) (pt_bool (pd_isi B.isi B.tuple bb_tuple (pd_var 0) (k_tuple _)))) (fun _ => pw_ord (x := false) (pt_notd (k := true) (pt_truT (pd_var 0) rfl)) (fun _ => pw_or1d (pt_notd (pt_bool (pd_isi B.isi B.str bb_str (pd_ixT (d := x) (pd_var 0) pd_int atI0) (k_str _))))))) (by rw [nS]; rfl))) (sd_ret pd_bl rfl)
  · have nT : isT d = false := by
      cases d with
      | tuple q => exact absurd ⟨q, rfl⟩ hd
      | _ => rfl
    have e : isPart d = false := by
      cases d with
      | tuple q => exact absurd ⟨q, rfl⟩ hd
      | _ => rfl
    rw [e]
    exact sd_ifT (PWd.pt (pw_orT (PTd.eq (pt_notd (pt_bool (pd_isi B.isi B.tuple bb_tuple (pd_var 0) (k_tuple _)))) (by rw [nT]; rfl)))) (sd_ret pd_bl rfl)
def areParts : PyData → Bool
  | .list xs => xs.all isPart
  | _ => false
def okPs (d : PyData) : Prop := ∀ xs, d = .list xs → ∀ x ∈ xs, okP x
def frNeedC (C : Addr) : List PyData → Rs → Prop := fun ds r => ∃ d, ds = [d] ∧ okPs d ∧ r = if areParts d then .ok .none else .er C
theorem sc_nc : FnScope ["change", "part"] ["change"] (defScope s_need_change) := ⟨rfl, rfl, rfl, by decide +kernel, rfl, by decide +kernel, by decide +kernel⟩
theorem ok_nc (F : Df K "need_change" s_need_change f fd) (hm : mg "need_change" = some (.ref f)) (B : Bl mg) (ml : mg "list" = none) (X1 : ExcF K mg "BadChange" C) (G1 : DefOk P w K mg base 3 "is_part" frIsPart) : DefOk P w K mg base 4 "need_change" (frNeedC C) := by
  refine def_ok F hm sc_nc (fun _ _ _ _ _ _ us hl => match us, hl with | [_], _ => rfl) (fun ds r h => by obtain ⟨_, rfl, _⟩ := h; rfl) (fun cdv A outer s H E qs ds r hr h => ?_)
  obtain ⟨d, rfl, sm, rfl⟩ := h
  have tk : L2N.Takes (cxOf (L2N.CX P w) P w K mg base ["change", "part"] "need_change" (defScope s_need_change) f cdv A outer s H E) (WOf E) := L2N.takes_of rfl rfl rfl rfl
  by_cases hd : ∃ xs, d = .list xs
  · obtain ⟨xs, rfl⟩ := hd
    refine sd_ifF (pt_notd (k := true) (pt_bool (pd_isi B.isi ml bb_list (pd_var 0) (k_list _)))) ?_
    refine sd_for 1 (items := xs) (fun i δ' ω' => (xs.take i).all isPart = true ∧ ω' = ⟨qs, []⟩ ∧ ∃ y1, δ' = [some (.im (.list xs)), y1]) (wk_lst (pd_var 0)) ⟨rfl, rfl, _, rfl⟩ ?_ ?_ (pg_name sc_nc.nd rfl (Or.inl rfl)) (passes_of rfl) rfl
    · rintro i d δ' ω' hd ⟨ha, rfl, y1, rfl⟩
      refine sd_if (pt_notd (pt_bool (pd_call G1 hr (pds_cons (pd_var 1) pds_nil) ⟨d, rfl, sm xs rfl d (List.mem_of_getElem? hd), rfl⟩))) (fun hk => ?_) (fun hk => sd_nil (sd_nil ⟨?_, rfl, _, rfl⟩))
      · have hf : isPart d = false := by
          cases e : isPart d with
          | false => rfl
          | true =>
            rw [e] at hk
            cases hk
        refine sd_raise X1 tk ?_ rfl
        show (if areParts (.list xs) = true then Rs.ok PyData.none else Rs.er C) = Rs.er C
        rw [if_neg]
        intro z
        have := List.all_eq_true.mp (show xs.all isPart = true from z) d (List.mem_of_getElem? hd)
        rw [hf] at this
        cases this
      · have hf : isPart d = true := by
          cases e : isPart d with
          | true => rfl
          | false =>
            rw [e] at hk
            cases hk
        rw [List.take_add_one, hd, List.all_append, ha]
        simp [hf]
    · rintro δ' ω' ⟨ha, rfl, y1, rfl⟩
      refine sd_nil ?_
      rw [List.take_length] at ha
      show (if areParts (.list xs) = true then Rs.ok PyData.none else Rs.er C) = Rs.ok PyData.none
      rw [if_pos (show areParts (.list xs) = true from ha)]
  · have nL : isL d = false := by
      cases d with
      | list q => exact absurd ⟨q, rfl⟩ hd
      | _ => rfl
    refine sd_ifT (PTd.eq (pt_notd (pt_bool (pd_isi B.isi ml bb_list (pd_var 0) (k_list _)))) (by rw [nL]; rfl)) (sd_raise X1 tk ?_ rfl)
    show (if areParts d = true then Rs.ok PyData.none else Rs.er C) = Rs.er C
    cases d with
    | list q => exact absurd ⟨q, rfl⟩ hd
    | _ => rfl
end
end K41

namespace K41
open PySem PySem.Spec PyProof.Rows L2 FP
section
variable {α β : Type}
def pushA (ts : List α) (i n : Nat) (d : α) : List α := (ts.take i ++ List.replicate n d ++ ts.drop i).take ts.length
def pullA (ts : List α) (i n : Nat) (d : α) : List α := (ts.take i ++ ts.drop (i + n)) ++ List.replicate (ts.length - (ts.take i ++ ts.drop (i + n)).length) d
theorem pushA_len (ts : List α) (i n : Nat) (d : α) : (pushA ts i n d).length = ts.length := by
  unfold pushA
  rw [List.length_take, List.length_append, List.length_append, List.length_replicate, List.length_take, List.length_drop]
  omega
theorem pullA_len (ts : List α) (i n : Nat) (d : α) : (pullA ts i n d).length = ts.length := by
  unfold pullA
  rw [List.length_append, List.length_append, List.length_replicate, List.length_take, List.length_drop]
  omega
theorem pushA_mem {ts : List α} {i n : Nat} {d x : α} (h : x ∈ pushA ts i n d) : x ∈ ts ∨ x = d := by
  have h := List.mem_of_mem_take h
  rcases List.mem_append.mp h with h | h
  · rcases List.mem_append.mp h with h | h
    · exact .inl (List.mem_of_mem_take h)
    · exact .inr (List.mem_replicate.mp h).2
  · exact .inl (List.mem_of_mem_drop h)
theorem pullA_mem {ts : List α} {i n : Nat} {d x : α} (h : x ∈ pullA ts i n d) : x ∈ ts ∨ x = d := by
  rcases List.mem_append.mp h with h | h
  · rcases List.mem_append.mp h with h | h
    · exact .inl (List.mem_of_mem_take h)
    · exact .inl (List.mem_of_mem_drop h)
  · exact .inr (List.mem_replicate.mp h).2
theorem pushA_map (g : α → β) (ts : List α) (i n : Nat) (d : α) : (pushA ts i n d).map g = pushA (ts.map g) i n (g d) := by
  unfold pushA
  rw [List.map_take, List.map_append, List.map_append, List.map_take, List.map_drop, List.map_replicate, List.length_map]
theorem pullA_map (g : α → β) (ts : List α) (i n : Nat) (d : α) : (pullA ts i n d).map g = pullA (ts.map g) i n (g d) := by
  unfold pullA
  rw [List.map_append, List.map_append, List.map_take, List.map_drop, List.map_replicate, List.length_map, List.length_append, List.length_append, List.length_take, List.length_take, List.length_drop, List.length_drop, List.length_map]
end
def blankR (w : Nat) : List PyData := List.replicate w blankC
def rollA (rs : List (List PyData)) (w : Nat) (n : Int) : List (List PyData) := if n < 0 then pushA rs 0 (-n).toNat (blankR w) else pullA rs 0 n.toNat (blankR w)
theorem blankR_ok {w : Nat} : (blankR w).length = w ∧ ∀ y ∈ blankR w, isCell y = true := ⟨List.length_replicate, fun y h => by
  rw [(List.mem_replicate.mp h).2]
  exact blank_cell⟩
theorem rollA_len (rs : List (List PyData)) (w : Nat) (n : Int) : (rollA rs w n).length = rs.length := by
  unfold rollA
  split
  · exact pushA_len _ _ _ _
  · exact pullA_len _ _ _ _
theorem rollA_mem {rs : List (List PyData)} {w : Nat} {n : Int} {r : List PyData} (h : r ∈ rollA rs w n) : r ∈ rs ∨ r = blankR w := by
  unfold rollA at h
  split at h
  · exact pushA_mem h
  · exact pullA_mem h
theorem roll_map (rs : List (List PyData)) (w : Nat) (n : Int) : rollD (rs.map .tuple) w n = (rollA rs w n).map .tuple := by
  unfold rollD rollA
  split
  · exact (pushA_map PyData.tuple rs 0 _ (blankR w)).symm
  · exact (pullA_map PyData.tuple rs 0 _ (blankR w)).symm
structure Sc where
  rows : List (List PyData)
  row : Nat
  col : Nat
  h : Nat
  w : Nat
structure Sc.Ok (s : Sc) : Prop where
  len : s.rows.length = s.h
  wid : ∀ r ∈ s.rows, r.length = s.w ∧ ∀ y ∈ r, isCell y = true
  hr : s.row < s.h
  hc : s.col < s.w
  h10 : s.h ≤ 10
  w20 : s.w ≤ 20
def Sc.d (s : Sc) : PyData := .tuple [.tuple (s.rows.map .tuple), .int (s.row : Int), .int (s.col : Int)]
theorem Sc.Ok.fc {s : Sc} (o : s.Ok) : Fc s.h s.w s.d (s.rows.map .tuple) s.row s.col :=
  ⟨rfl, by rw [List.length_map]; exact o.len, fun x hx => by
    obtain ⟨r, hr, rfl⟩ := List.mem_map.mp hx
    exact ⟨r, rfl, (o.wid r hr).1, (o.wid r hr).2⟩, o.hr, o.hc, o.h10, o.w20⟩
inductive Pt where
  | roll (n : Int)
  | put (r c k : Nat) (z : Str)
  | cur (r c : Nat)
def Pt.d : Pt → PyData
  | .roll n => .tuple [.str "roll", .int n]
  | .put r c k z => .tuple [.str "put", .int (r : Int), .int (c : Int), .int (k : Int), .str z]
  | .cur r c => .tuple [.str "cursor", .int (r : Int), .int (c : Int)]
def Pt.Ok : Pt → Prop
  | .roll n => -10 ≤ n ∧ n ≤ 10 ∧ n ≠ 0
  | .put _ _ k z => k ≤ 7 ∧ 1 ≤ z.length ∧ z.length ≤ 1000 ∧ ∀ c ∈ z.cps.toList, okSign c = true
  | .cur _ _ => True
def cellsZ (z : Str) (k : Nat) : List PyData := z.cps.toList.map fun x => cellD x (k : Int)
def putC (cs : List PyData) (c : Nat) (new : List PyData) : List PyData := cs.take c ++ new ++ cs.drop (c + new.length)
def Sc.part (s : Sc) : Pt → Option Sc
  | .roll n => some { s with rows := rollA s.rows s.w n }
  | .put r c k z => if r < s.h ∧ c + z.length ≤ s.w then some { s with rows := s.rows.set r (putC (s.rows.getD r []) c (cellsZ z k)) } else none
  | .cur r c => if r < s.h ∧ c + 1 ≤ s.w then some { s with row := r, col := c } else none
def Sc.all (s : Sc) : List Pt → Option Sc
  | [] => some s
  | p :: ps => match s.part p with
    | some t => t.all ps
    | none => none
theorem cellsZ_len (z : Str) (k : Nat) : (cellsZ z k).length = z.length := by
  unfold cellsZ
  rw [List.length_map, Array.length_toList]
  rfl
theorem cell_okN {c : Nat} {i : Nat} (hc : okSign c = true) (hi : i ≤ 7) : isCell (cellD c (i : Int)) = true := by
  show ((([c] : List Nat).all okSign && decide (([c] : List Nat).length = 1)) && (decide ((0 : Int) ≤ (i : Int)) && decide ((i : Int) ≤ 7))) = true
  rw [decide_eq_true (show (0 : Int) ≤ (i : Int) by omega), decide_eq_true (show (i : Int) ≤ 7 by omega)]
  simp [hc]
theorem cellsZ_ok {z : Str} {k : Nat} (hk : k ≤ 7) (h : ∀ c ∈ z.cps.toList, okSign c = true) : ∀ y ∈ cellsZ z k, isCell y = true := fun y hy => by
  obtain ⟨c, hc, rfl⟩ := List.mem_map.mp hy
  exact cell_okN (h c hc) hk
theorem putC_len {cs new : List PyData} {c : Nat} (h : c + new.length ≤ cs.length) : (putC cs c new).length = cs.length := by
  unfold putC
  rw [List.length_append, List.length_append, List.length_take, List.length_drop]
  omega
theorem Sc.Ok.row_at {s : Sc} (o : s.Ok) {r : Nat} (h : r < s.h) : s.rows[r]? = some (s.rows.getD r []) ∧ (s.rows.getD r []).length = s.w ∧ ∀ y ∈ s.rows.getD r [], isCell y = true := by
  have hl : r < s.rows.length := by rw [o.len]; exact h
  have e : s.rows.getD r [] = s.rows[r] := by rw [List.getD_eq_getElem?_getD, List.getElem?_eq_getElem hl]; rfl
  rw [e, List.getElem?_eq_getElem hl]
  exact ⟨rfl, o.wid _ (List.getElem_mem hl)⟩
theorem Sc.Ok.part {s t : Sc} {p : Pt} (o : s.Ok) (hp : p.Ok) (e : s.part p = some t) : t.Ok ∧ t.h = s.h ∧ t.w = s.w := by
  cases p with
  | roll n =>
    cases e
    refine ⟨⟨(rollA_len _ _ _).trans o.len, fun r hr => ?_, o.hr, o.hc, o.h10, o.w20⟩, rfl, rfl⟩
    rcases rollA_mem hr with q | q
    · exact o.wid r q
    · rw [q]
      exact blankR_ok
  | put r c k z =>
    replace e : (if r < s.h ∧ c + z.length ≤ s.w then some { s with rows := s.rows.set r (putC (s.rows.getD r []) c (cellsZ z k)) } else none) = some t := e
    split at e
    · rename_i hh
      cases e
      obtain ⟨a1, a2, a3⟩ := o.row_at hh.1
      refine ⟨⟨List.length_set.trans o.len, fun x hx => ?_, o.hr, o.hc, o.h10, o.w20⟩, rfl, rfl⟩
      rcases List.mem_or_eq_of_mem_set hx with q | q
      · exact o.wid x q
      · subst q
        refine ⟨(putC_len (by rw [cellsZ_len, a2]; exact hh.2)).trans a2, fun y hy => ?_⟩
        unfold putC at hy
        rcases List.mem_append.mp hy with q | q
        · rcases List.mem_append.mp q with q | q
          · exact a3 y (List.mem_of_mem_take q)
          · exact cellsZ_ok hp.1 hp.2.2.2 y q
        · exact a3 y (List.mem_of_mem_drop q)
    · cases e
  | cur r c =>
    replace e : (if r < s.h ∧ c + 1 ≤ s.w then some { s with row := r, col := c } else none) = some t := e
    split at e
    · rename_i hh
      cases e
      exact ⟨⟨o.len, o.wid, hh.1, by have := hh.2; show c < s.w; omega, o.h10, o.w20⟩, rfl, rfl⟩
    · cases e
theorem Pt.is {p : Pt} (h : p.Ok) : isPart p.d = true := by
  cases p with
  | roll n =>
    obtain ⟨h1, h2, h3⟩ := h
    show ((decide ((-10 : Int) ≤ n) && decide (n ≤ 10)) && !decide (n = 0)) = true
    rw [decide_eq_true h1, decide_eq_true h2, decide_eq_false h3]
    rfl
  | put r c k z =>
    obtain ⟨h1, h2, h3, h4⟩ := h
    have hz : ¬ z = "" := fun e => by
      subst e
      exact absurd h2 (by decide)
    show (true && (decide ((0 : Int) ≤ (r : Int)) && (true && decide ((0 : Int) ≤ (c : Int)))) && ((decide ((0 : Int) ≤ (k : Int)) && decide ((k : Int) ≤ 7)) && (z.cps.toList.all okSign && !decide (z = "")))) = true
    rw [decide_eq_true (by omega), decide_eq_true (by omega), decide_eq_true (by omega), decide_eq_true (by omega), List.all_eq_true.mpr h4, decide_eq_false hz]
    rfl
  | cur r c =>
    show (true && (decide ((0 : Int) ≤ (r : Int)) && (true && decide ((0 : Int) ≤ (c : Int))))) = true
    rw [decide_eq_true (by omega), decide_eq_true (by omega)]
    rfl
theorem Pt.okP {p : Pt} (h : p.Ok) : K41.okP p.d := by
  intro x told e
  cases p with
  | roll n =>
    cases e
    exact ⟨(show 1 ≤ 100 by decide), fun y hy => by rw [List.mem_singleton.mp hy]; exact fun z e => by cases e⟩
  | put r c k z =>
    cases e
    refine ⟨(show 4 ≤ 100 by decide), fun y hy => ?_⟩
    simp only [List.mem_cons, List.not_mem_nil, or_false] at hy
    rcases hy with rfl | rfl | rfl | rfl
    · exact fun z e => by cases e
    · exact fun z e => by cases e
    · exact fun z e => by cases e
    · intro q e
      cases e
      exact h.2.2.1
  | cur r c =>
    cases e
    refine ⟨(show 2 ≤ 100 by decide), fun y hy => ?_⟩
    simp only [List.mem_cons, List.not_mem_nil, or_false] at hy
    rcases hy with rfl | rfl <;> exact fun z e => by cases e
theorem parts_are {ps : List Pt} (h : ∀ p ∈ ps, p.Ok) : areParts (.list (ps.map Pt.d)) = true := List.all_eq_true.mpr fun x hx => by
  obtain ⟨p, hp, rfl⟩ := List.mem_map.mp hx
  exact Pt.is (h p hp)
theorem parts_ok {ps : List Pt} (h : ∀ p ∈ ps, p.Ok) : okPs (.list (ps.map Pt.d)) := by
  intro xs e x hx
  cases e
  obtain ⟨p, hp, rfl⟩ := List.mem_map.mp hx
  exact Pt.okP (h p hp)
end K41

namespace K41
open PySem PySem.Spec PyProof.Rows L2 FP
section
variable {P : Program} {w : World} {K : PySem.W.Frag} {mg : Str → Option Value} {base : Heap} {f C CF CB : Addr} {fd : FuncData}
theorem rows_form {s : Sc} (o : s.Ok) : ∃ c0 rest, s.rows = c0 :: rest ∧ c0.length = s.w ∧ rest.length < 10 := by
  have h1 := o.len
  have h2 := o.hr
  have h3 := o.h10
  match e : s.rows, h1 with
  | [], h1 => simp at h1; omega
  | c0 :: rest, h1 => exact ⟨c0, rest, rfl, (o.wid c0 (by rw [e]; exact List.mem_cons_self)).1, by simp at h1; omega⟩
theorem roll_call {s : Sc} (o : s.Ok) {n : Int} (h1 : -100 ≤ n) (h2 : n ≤ 100) : frRoll [.tuple (s.rows.map .tuple), .int n] (.ok (.tuple ((rollA s.rows s.w n).map .tuple))) := by
  obtain ⟨c0, rest, e, l, lr⟩ := rows_form o
  have w20 := o.w20
  refine ⟨c0, rest.map .tuple, n, by rw [e]; rfl, by rw [List.length_map]; omega, by omega, h1, h2, ?_⟩
  rw [← roll_map, e, l]
  rfl
def frNp (CB : Addr) : List PyData → Rs → Prop := fun ds q => ∃ (s : Sc) (r c n : Nat), s.Ok ∧ ds = [.tuple (s.rows.map .tuple), .int (r : Int), .int (c : Int), .int (n : Int)] ∧ q = if r < s.h ∧ c + n ≤ s.w then .ok .none else .er CB
theorem sc_np : FnScope ["rows", "row", "column", "many"] ["rows", "row", "column", "many"] (defScope s_need_places) := ⟨rfl, rfl, rfl, by decide +kernel, rfl, by decide +kernel, by decide +kernel⟩
theorem ok_np (F : Df K "need_places" s_need_places f fd) (hm : mg "need_places" = some (.ref f)) (B : Bl mg) (X1 : ExcF K mg "BadChange" CB) : DefOk P w K mg base 1 "need_places" (frNp CB) := by
  refine def_ok F hm sc_np (fun _ _ _ _ _ _ us hl => match us, hl with | [_, _, _, _], _ => rfl) (fun ds r h => by obtain ⟨_, _, _, _, _, rfl, _⟩ := h; rfl) (fun cdv A outer s H E qs ds r hr h => ?_)
  obtain ⟨t, r, c, n, o, rfl, rfl⟩ := h
  have tk : L2N.Takes (cxOf (L2N.CX P w) P w K mg base ["rows", "row", "column", "many"] "need_places" (defScope s_need_places) f cdv A outer s H E) (WOf E) := L2N.takes_of rfl rfl rfl rfl
  obtain ⟨c0, rest, e, l, lr⟩ := rows_form o
  have hl : (t.rows.map PyData.tuple).length = t.h := by rw [List.length_map]; exact o.len
  refine sd_if (pt_cmpd op_ge rd_B0 (pd_var 1) (pd_lenT B.len (pd_var 0)) (nomark _)) (fun hk => ?_) (fun hk => sd_nil ?_)
  · have hk := of_decide_eq_true hk
    rw [hl] at hk
    refine sd_raise X1 tk ?_ rfl
    show (if r < t.h ∧ c + n ≤ t.w then Rs.ok PyData.none else Rs.er CB) = Rs.er CB
    rw [if_neg (by omega)]
  · have hk := of_decide_eq_false hk
    rw [hl] at hk
    refine sd_if (pt_cmpd op_gt rd_B0 (pd_add (pd_var 2) (pd_var 3)) (pd_lenT B.len (pd_ixT (d := .tuple c0) (pd_var 0) pd_int (atI_nat (j := 0) (by rw [e]; rfl)))) (nomark _)) (fun hk2 => ?_) (fun hk2 => sd_nil (sd_nil ?_))
    · have hk2 := of_decide_eq_true hk2
      refine sd_raise X1 tk ?_ rfl
      show (if r < t.h ∧ c + n ≤ t.w then Rs.ok PyData.none else Rs.er CB) = Rs.er CB
      rw [if_neg (by omega)]
    · have hk2 := of_decide_eq_false hk2
      show (if r < t.h ∧ c + n ≤ t.w then Rs.ok PyData.none else Rs.er CB) = Rs.ok PyData.none
      rw [if_pos (by omega)]
def frCs : List PyData → Rs → Prop := fun ds q => ∃ (z : Str) (k : Nat), z.length ≤ 1000 ∧ ds = [.str z, .int (k : Int)] ∧ q = .ok (.tuple (cellsZ z k))
theorem sc_cs : FnScope ["text", "ink", "sign"] ["text", "ink"] (defScope s_cells_of) := ⟨rfl, rfl, rfl, by decide +kernel, rfl, by decide +kernel, by decide +kernel⟩
theorem ok_cs (F : Df K "cells_of" s_cells_of f fd) (hm : mg "cells_of" = some (.ref f)) (B : Bl mg) : DefOk P w K mg base 1 "cells_of" frCs := by
  refine def_ok F hm sc_cs (fun _ _ _ _ _ _ us hl => match us, hl with | [_, _], _ => rfl) (fun ds r h => by obtain ⟨_, _, _, rfl, _⟩ := h; rfl) (fun cdv A outer s H E qs ds r hr h => ?_)
  obtain ⟨z, k, hz, rfl, rfl⟩ := h
  have hl : (signsD z).length = z.length := by
    unfold signsD
    rw [List.length_map, Array.length_toList]
    rfl
  refine sd_ret (pd_tupleL B.tuple (PN.pl (pn_lc (y := "sign") (j := 2) (items := signsD z) (ys := cellsZ z k) rfl sc_cs.nd (PWk.ws (wk_str (pd_var 0))) (by rw [hl, cellsZ_len]) (blkOk_by (N := ["text", "ink", "sign"]) (sc := defScope s_cells_of) (by decide +kernel)) (fun _ _ _ _ _ => pg_name sc_cs.nd rfl (Or.inl rfl)) ?_ (by rw [hl]; omega)))) rfl
  intro i d y hd hy D o s H C cl fp
  unfold signsD at hd
  unfold cellsZ at hy
  rw [List.getElem?_map] at hd hy
  cases hc : z.cps.toList[i]? with
  | none =>
    rw [hc] at hd
    cases hd
  | some c =>
    rw [hc] at hd hy
    cases hd
    cases hy
    exact pd_tup (pds_cons (pd_var 2) (pds_cons (pd_var 1) pds_nil))
def frWp : List PyData → Rs → Prop := fun ds q => ∃ (rs : List (List PyData)) (cs : List PyData) (r c : Nat) (new : List PyData), rs[r]? = some cs ∧ rs.length ≤ 100 ∧ cs.length ≤ 100 ∧ new.length ≤ 1000 ∧ ds = [.tuple (rs.map .tuple), .int (r : Int), .int (c : Int), .tuple new] ∧ q = .ok (.tuple ((rs.set r (putC cs c new)).map .tuple))
abbrev NWp : List Str := ["rows", "row", "column", "new", "cells", "put"]
theorem sc_wp : FnScope NWp ["rows", "row", "column", "new"] (defScope s_with_put) := ⟨rfl, rfl, rfl, by decide +kernel, rfl, by decide +kernel, by decide +kernel⟩
theorem ok_wp (F : Df K "with_put" s_with_put f fd) (hm : mg "with_put" = some (.ref f)) (B : Bl mg) : DefOk P w K mg base 1 "with_put" frWp := by
  refine def_ok F hm sc_wp (fun _ _ _ _ _ _ us hl => match us, hl with | [_, _, _, _], _ => rfl) (fun ds r h => by obtain ⟨_, _, _, _, _, _, _, _, _, rfl, _⟩ := h; rfl) (fun cdv A outer s H E qs ds r hr h => ?_)
  obtain ⟨rs, cs, r, c, new, hx, l1, l2, l3, rfl, rfl⟩ := h
  have hlt := (List.getElem?_eq_some_iff.mp hx).1
  have t1 : (cs.take c).length ≤ cs.length := by rw [List.length_take]; omega
  have t2 : (cs.drop (c + new.length)).length ≤ cs.length := by rw [List.length_drop]; omega
  refine sd_set 4 (d := .tuple cs) (pd_ixT (pd_var 0) (pd_var 1) (atI_nat (j := r) (by rw [List.getElem?_map, hx]; rfl))) ?_ sc_wp.nd
  refine sd_set 5 (d := .tuple (putC cs c new)) (pd_catT (ds := cs.take c ++ new) (dt := cs.drop (c + new.length)) (pd_catT (ds := cs.take c) (dt := new) (PD.eq (pd_slT (i := none) (j := some ((c : Nat) : Int)) (pd_var 4) rfl ⟨_, rfl, pd_var 2⟩) (by rw [cut_to])) (pd_var 3) (by omega)) (PD.eq (pd_slT (i := some (((c + new.length : Nat)) : Int)) (j := none) (pd_var 4) ⟨_, rfl, PD.eq (pd_add (pd_var 2) (pd_lenT B.len (pd_var 3))) rfl⟩ rfl) (by rw [cut_from])) (by rw [List.length_append]; omega)) ?_ sc_wp.nd
  have m1 := List.length_take_le r (rs.map PyData.tuple)
  have m2 : ((rs.map PyData.tuple).drop (r + 1)).length ≤ rs.length := by rw [List.length_drop, List.length_map]; omega
  refine sd_ret (d := .tuple (((rs.map PyData.tuple).take r ++ [PyData.tuple (putC cs c new)]) ++ (rs.map PyData.tuple).drop (r + 1))) ?_ ?_
  · exact pd_catT (ds := (rs.map PyData.tuple).take r ++ [PyData.tuple (putC cs c new)]) (dt := (rs.map PyData.tuple).drop (r + 1)) (pd_catT (ds := (rs.map PyData.tuple).take r) (dt := [PyData.tuple (putC cs c new)]) (PD.eq (pd_slT (i := none) (j := some ((r : Nat) : Int)) (pd_var 0) rfl ⟨_, rfl, pd_var 1⟩) (by rw [cut_to])) (pd_tup (pds_cons (pd_var 5) pds_nil)) (by simp only [List.length_cons, List.length_nil]; omega)) (PD.eq (pd_slT (i := some (((r + 1 : Nat)) : Int)) (j := none) (pd_var 0) ⟨_, rfl, PD.eq (pd_add (pd_var 1) pd_int) rfl⟩ rfl) (by rw [cut_from])) (by rw [List.length_append]; simp only [List.length_cons, List.length_nil]; omega)
  show Rs.ok (.tuple ((rs.set r (putC cs c new)).map .tuple)) = _
  rw [List.map_set, List.set_eq_take_append_cons_drop, if_pos (by rw [List.length_map]; exact hlt)]
  simp
def frPart (CB : Addr) : List PyData → Rs → Prop := fun ds q => ∃ (s : Sc) (p : Pt), s.Ok ∧ p.Ok ∧ ds = [s.d, p.d] ∧ q = match s.part p with | some t => .ok t.d | none => .er CB
abbrev NPd : List Str := ["face", "part", "rows", "row", "column", "by", "at_row", "at_column", "ink", "text", "to_row", "to_column"]
theorem sc_pd : FnScope NPd ["face", "part"] (defScope s_part_done) := ⟨rfl, rfl, rfl, by decide +kernel, rfl, by decide +kernel, by decide +kernel⟩
theorem ok_pd (F : Df K "part_done" s_part_done f fd) (hm : mg "part_done" = some (.ref f)) (B : Bl mg) (GR : DefOk P w K mg base 2 "rolled" frRoll) (GN : DefOk P w K mg base 1 "need_places" (frNp CB)) (GC : DefOk P w K mg base 1 "cells_of" frCs) (GW : DefOk P w K mg base 1 "with_put" frWp) : DefOk P w K mg base 3 "part_done" (frPart CB) := by
  refine def_ok F hm sc_pd (fun _ _ _ _ _ _ us hl => match us, hl with | [_, _], _ => rfl) (fun ds r h => by obtain ⟨_, _, _, _, rfl, _⟩ := h; rfl) (fun cdv A outer s H E qs ds r hr h => ?_)
  obtain ⟨t, p, o, hp, rfl, rfl⟩ := h
  have tk : L2N.Takes (cxOf (L2N.CX P w) P w K mg base NPd "part_done" (defScope s_part_done) f cdv A outer s H E) (WOf E) := L2N.takes_of rfl rfl rfl rfl
  have hr1 : Room 1 (A.deeper (envOfC "part_done" (defScope s_part_done) s.heap.objs.size f cdv)) := hr.mono (by decide)
  have h10 := o.h10
  have w20 := o.w20
  refine sd_unp [2, 3, 4] (ds := [.tuple (t.rows.map .tuple), .int (t.row : Int), .int (t.col : Int)]) (pd_var 0) (pg_tup rfl (pgs_cons (pg_name sc_pd.nd rfl (Or.inl rfl)) (pgs_cons (pg_name sc_pd.nd rfl (Or.inl rfl)) (pgs_cons (pg_name sc_pd.nd rfl (Or.inl rfl)) pgs_nil)))) rfl rfl ?_
  refine sd_match (pd_var 1) ?_
  cases p with
  | roll n =>
    refine mc_hit [5] rfl sc_pd.nd rfl (by simp) rfl rfl (show capB NPd (defScope s_part_done) ["by"] [5] = true by decide +kernel) ?_
    exact sd_ret (pd_tup (pds_cons (pd_call GR (hr.mono (by decide)) (pds_cons (pd_var 2) (pds_cons (pd_var 5) pds_nil)) (roll_call o (by have := hp.1; omega) (by have := hp.2.1; omega))) (pds_cons (pd_var 3) (pds_cons (pd_var 4) pds_nil)))) rfl
  | put r c k z =>
    have hz := hp.2.2.1
    have ez : (z.length : Int) = ((z.length : Nat) : Int) := rfl
    refine mc_len (by simp) (by simp) (mc_hit [6, 7, 8, 9] rfl sc_pd.nd rfl (by simp) rfl rfl (show capB NPd (defScope s_part_done) ["at_row", "at_column", "ink", "text"] [6, 7, 8, 9] = true by decide +kernel) ?_)
    have ep : t.part (.put r c k z) = if r < t.h ∧ c + z.length ≤ t.w then some { t with rows := t.rows.set r (putC (t.rows.getD r []) c (cellsZ z k)) } else none := rfl
    refine sd_callX GN hr1 tk (pds_cons (pd_var 2) (pds_cons (pd_var 6) (pds_cons (pd_var 7) (pds_cons (pd_lenS B.len (pd_var 9) (by omega)) pds_nil)))) ⟨t, r, c, z.length, o, rfl, rfl⟩ (fun d1 e1 => ?_) (fun Z e1 => ?_)
    · have hh : r < t.h ∧ c + z.length ≤ t.w := by
        by_cases hh : r < t.h ∧ c + z.length ≤ t.w
        · exact hh
        · rw [if_neg hh] at e1
          cases e1
      rw [ep, if_pos hh]
      obtain ⟨a1, a2, a3⟩ := o.row_at hh.1
      exact sd_ret (pd_tup (pds_cons (pd_call GW hr1 (pds_cons (pd_var 2) (pds_cons (pd_var 6) (pds_cons (pd_var 7) (pds_cons (pd_call GC hr1 (pds_cons (pd_var 9) (pds_cons (pd_var 8) pds_nil)) ⟨z, k, hz, rfl, rfl⟩) pds_nil)))) ⟨t.rows, _, r, c, cellsZ z k, a1, by rw [o.len]; omega, by rw [a2]; omega, by rw [cellsZ_len]; omega, rfl, rfl⟩) (pds_cons (pd_var 3) (pds_cons (pd_var 4) pds_nil)))) rfl
    · have hh : ¬ (r < t.h ∧ c + z.length ≤ t.w) := fun hh => by
        rw [if_pos hh] at e1
        cases e1
      rw [if_neg hh] at e1
      cases e1
      show (match t.part (.put r c k z) with | some t => Rs.ok t.d | none => Rs.er CB) = Rs.er CB
      rw [ep, if_neg hh]
  | cur r c =>
    refine mc_len (by simp) (by simp) (mc_len (by simp) (by simp) (mc_hit [10, 11] rfl sc_pd.nd rfl (by simp) rfl rfl (show capB NPd (defScope s_part_done) ["to_row", "to_column"] [10, 11] = true by decide +kernel) ?_))
    have ep : t.part (.cur r c) = if r < t.h ∧ c + 1 ≤ t.w then some { t with row := r, col := c } else none := rfl
    refine sd_callX GN hr1 tk (pds_cons (pd_var 2) (pds_cons (pd_var 10) (pds_cons (pd_var 11) (pds_cons pd_int pds_nil)))) ⟨t, r, c, 1, o, rfl, rfl⟩ (fun d1 e1 => ?_) (fun Z e1 => ?_)
    · have hh : r < t.h ∧ c + 1 ≤ t.w := by
        by_cases hh : r < t.h ∧ c + 1 ≤ t.w
        · exact hh
        · rw [if_neg hh] at e1
          cases e1
      rw [ep, if_pos hh]
      exact sd_ret (pd_tup (pds_cons (pd_var 2) (pds_cons (pd_var 10) (pds_cons (pd_var 11) pds_nil)))) rfl
    · have hh : ¬ (r < t.h ∧ c + 1 ≤ t.w) := fun hh => by
        rw [if_pos hh] at e1
        cases e1
      rw [if_neg hh] at e1
      cases e1
      show (match t.part (.cur r c) with | some t => Rs.ok t.d | none => Rs.er CB) = Rs.er CB
      rw [ep, if_neg hh]
end
end K41

namespace K41
open PySem PySem.Spec PyProof.Rows L2 FP
theorem Sc.all_app : ∀ (ps qs : List Pt) (s : Sc), s.all (ps ++ qs) = match s.all ps with | some t => t.all qs | none => none
  | [], qs, s => rfl
  | p :: ps, qs, s => by
    show (match s.part p with | some t => t.all (ps ++ qs) | none => none) = match (match s.part p with | some t => t.all ps | none => none) with | some t => t.all qs | none => none
    cases s.part p with
    | none => rfl
    | some t => exact Sc.all_app ps qs t
theorem Sc.all_snoc {ps : List Pt} {i : Nat} {p : Pt} {s t : Sc} (h : s.all (ps.take i) = some t) (e : ps[i]? = some p) : s.all (ps.take (i + 1)) = t.part p := by
  rw [List.take_add_one, e, Sc.all_app, h]
  show (match t.part p with | some u => some u | none => none) = t.part p
  cases t.part p <;> rfl
theorem Sc.all_none {ps : List Pt} {i : Nat} {s : Sc} (h : s.all (ps.take i) = none) : s.all ps = none := by
  rw [← List.take_append_drop i ps, Sc.all_app, h]
theorem Sc.Ok.all : ∀ {ps : List Pt} {s t : Sc}, s.Ok → (∀ p ∈ ps, p.Ok) → s.all ps = some t → t.Ok ∧ t.h = s.h ∧ t.w = s.w
  | [], s, t, o, _, e => by
    cases e
    exact ⟨o, rfl, rfl⟩
  | p :: ps, s, t, o, hp, e => by
    replace e : (match s.part p with | some t => t.all ps | none => none) = some t := e
    cases e1 : s.part p with
    | none =>
      rw [e1] at e
      cases e
    | some u =>
      rw [e1] at e
      obtain ⟨o1, a1, a2⟩ := o.part (hp p List.mem_cons_self) e1
      obtain ⟨o2, b1, b2⟩ := Sc.Ok.all o1 (fun q hq => hp q (List.mem_cons_of_mem _ hq)) e
      exact ⟨o2, b1.trans a1, b2.trans a2⟩
def rsOf (CB : Addr) : Option Sc → Rs
  | some t => .ok t.d
  | none => .er CB
def Pt.cost : Pt → Nat
  | .roll _ => 4
  | .put _ _ _ z => 4 + z.length
  | .cur _ _ => 3
def costL (ps : List Pt) : List Int := ps.map fun (p : Pt) => ((p.cost : Nat) : Int)
def costs (ps : List Pt) : Int := (costL ps).sum
section
variable {P : Program} {w : World} {K : PySem.W.Frag} {mg : Str → Option Value} {base : Heap} {f C CF CB : Addr} {fd : FuncData}
def frParts (CB : Addr) : List PyData → Rs → Prop := fun ds q => ∃ (s : Sc) (ps : List Pt), s.Ok ∧ (∀ p ∈ ps, p.Ok) ∧ ds = [s.d, .list (ps.map Pt.d)] ∧ q = rsOf CB (s.all ps)
abbrev NPs : List Str := ["face", "change", "now", "part"]
theorem sc_pds : FnScope NPs ["face", "change"] (defScope s_parts_done) := ⟨rfl, rfl, rfl, by decide +kernel, rfl, by decide +kernel, by decide +kernel⟩
theorem ok_pds (F : Df K "parts_done" s_parts_done f fd) (hm : mg "parts_done" = some (.ref f)) (G : DefOk P w K mg base 3 "part_done" (frPart CB)) : DefOk P w K mg base 4 "parts_done" (frParts CB) := by
  refine def_ok F hm sc_pds (fun _ _ _ _ _ _ us hl => match us, hl with | [_, _], _ => rfl) (fun ds r h => by obtain ⟨_, _, _, _, rfl, _⟩ := h; rfl) (fun cdv A outer s H E qs ds r hr h => ?_)
  obtain ⟨t, ps, o, hp, rfl, rfl⟩ := h
  have tk : L2N.Takes (cxOf (L2N.CX P w) P w K mg base NPs "parts_done" (defScope s_parts_done) f cdv A outer s H E) (WOf E) := L2N.takes_of rfl rfl rfl rfl
  refine sd_set 2 (pd_var 0) ?_ sc_pds.nd
  refine sd_for 3 (items := ps.map Pt.d) (fun i δ' ω' => ∃ u : Sc, u.Ok ∧ t.all (ps.take i) = some u ∧ ω' = ⟨qs, []⟩ ∧ ∃ y3, δ' = [some (.im t.d), some (.im (.list (ps.map Pt.d))), some (.im u.d), y3]) (wk_lst (pd_var 1)) ⟨t, o, rfl, rfl, _, rfl⟩ ?_ ?_ (pg_name sc_pds.nd rfl (Or.inl rfl)) (passes_of rfl) rfl
  · rintro i d δ' ω' hd ⟨u, ou, eu, rfl, y3, rfl⟩
    rw [List.getElem?_map] at hd
    cases e : ps[i]? with
    | none =>
      rw [e] at hd
      cases hd
    | some p =>
      rw [e] at hd
      cases hd
      have hp1 := hp p (List.mem_of_getElem? e)
      have es := Sc.all_snoc eu e
      refine sd_setX 2 (PR.ex (pr_call G hr tk (pds_cons (pd_var 2) (pds_cons (pd_var 3) pds_nil)) ⟨u, p, ou, hp1, rfl, rfl⟩) (fun d e1 => ?_) (fun Z e1 => ?_)) sc_pds.nd
      · cases ep : u.part p with
        | none =>
          rw [ep] at e1
          cases e1
        | some v =>
          rw [ep] at e1
          cases e1
          exact sd_nil ⟨v, (ou.part hp1 ep).1, es.trans ep, rfl, _, rfl⟩
      · cases ep : u.part p with
        | some v =>
          rw [ep] at e1
          cases e1
        | none =>
          rw [ep] at e1
          cases e1
          show rsOf CB (t.all ps) = Rs.er CB
          rw [Sc.all_none (es.trans ep)]
          rfl
  · rintro δ' ω' ⟨u, ou, eu, rfl, y3, rfl⟩
    rw [List.length_map, List.take_length] at eu
    rw [eu]
    exact sd_ret (pd_var 2) rfl
def frChanged (CF CB : Addr) : List PyData → Rs → Prop := fun ds q =>
  (∃ (s : Sc) (ps : List Pt), s.Ok ∧ (∀ p ∈ ps, p.Ok) ∧ ds = [s.d, .list (ps.map Pt.d)] ∧ q = rsOf CB (s.all ps)) ∨
  (∃ d e, isFace d = false ∧ smF d ∧ ds = [d, e] ∧ q = .er CF) ∨
  (∃ (s : Sc) (e : PyData), s.Ok ∧ okPs e ∧ areParts e = false ∧ ds = [s.d, e] ∧ q = .er CB)
theorem sc_chd : FnScope ["face", "change"] ["face", "change"] (defScope s_changed) := ⟨rfl, rfl, rfl, by decide +kernel, rfl, by decide +kernel, by decide +kernel⟩
theorem ok_changed (F : Df K "changed" s_changed f fd) (hm : mg "changed" = some (.ref f)) (GF : DefOk P w K mg base 5 "need_face" (frFace CF)) (GN : DefOk P w K mg base 4 "need_change" (frNeedC CB)) (GP : DefOk P w K mg base 4 "parts_done" (frParts CB)) : DefOk P w K mg base 6 "changed" (frChanged CF CB) := by
  refine def_ok F hm sc_chd (fun _ _ _ _ _ _ us hl => match us, hl with | [_, _], _ => rfl) (fun ds r h => by rcases h with ⟨_, _, _, _, rfl, _⟩ | ⟨_, _, _, _, rfl, _⟩ | ⟨_, _, _, _, _, rfl, _⟩ <;> rfl) (fun cdv A outer s H E qs ds r hr h => ?_)
  have tk : L2N.Takes (cxOf (L2N.CX P w) P w K mg base ["face", "change"] "changed" (defScope s_changed) f cdv A outer s H E) (WOf E) := L2N.takes_of rfl rfl rfl rfl
  have hr4 : Room 4 (A.deeper (envOfC "changed" (defScope s_changed) s.heap.objs.size f cdv)) := hr.mono (by decide)
  rcases h with ⟨t, ps, o, hp, rfl, rfl⟩ | ⟨d, e, nf, sm, rfl, rfl⟩ | ⟨t, e, o, sm, np, rfl, rfl⟩
  · have Fa := o.fc
    refine sd_callX GF hr tk (pds_cons (pd_var 0) pds_nil) ⟨t.d, rfl, rfl, Fa.small⟩ (fun d1 e1 => ?_) (fun Z e1 => ?_)
    · refine sd_callX GN hr4 tk (pds_cons (pd_var 1) pds_nil) ⟨_, rfl, parts_ok hp, rfl⟩ (fun d2 e2 => ?_) (fun Z e2 => ?_)
      · exact sd_retX (PR.ex (pr_call GP hr4 tk (pds_cons (pd_var 0) (pds_cons (pd_var 1) pds_nil)) ⟨t, ps, o, hp, rfl, rfl⟩) (fun d e3 => e3) (fun Z e3 => e3))
      · rw [parts_are hp] at e2
        cases e2
    · rw [Fa.face] at e1
      cases e1
  · refine sd_callX GF hr tk (pds_cons (pd_var 0) pds_nil) ⟨d, rfl, rfl, sm⟩ (fun d1 e1 => ?_) (fun Z e1 => ?_)
    · rw [nf] at e1
      cases e1
    · rw [nf] at e1
      cases e1
      rfl
  · have Fa := o.fc
    refine sd_callX GF hr tk (pds_cons (pd_var 0) pds_nil) ⟨t.d, rfl, rfl, Fa.small⟩ (fun d1 e1 => ?_) (fun Z e1 => ?_)
    · refine sd_callX GN hr4 tk (pds_cons (pd_var 1) pds_nil) ⟨_, rfl, sm, rfl⟩ (fun d2 e2 => ?_) (fun Z e2 => ?_)
      · rw [np] at e2
        cases e2
      · rw [np] at e2
        cases e2
        rfl
    · rw [Fa.face] at e1
      cases e1
def frPc : List PyData → Rs → Prop := fun ds q => ∃ p : Pt, p.Ok ∧ ds = [p.d] ∧ q = .ok (.int (p.cost : Int))
theorem sc_pc : FnScope ["part"] ["part"] (defScope s_part_cost) := ⟨rfl, rfl, rfl, by decide +kernel, rfl, by decide +kernel, by decide +kernel⟩
theorem ok_pc (F : Df K "part_cost" s_part_cost f fd) (hm : mg "part_cost" = some (.ref f)) (B : Bl mg) (g1 : GlD K mg "ROLL_COST" (.int 4)) (g2 : GlD K mg "CURSOR_COST" (.int 3)) (g3 : GlD K mg "PUT_COST" (.int 4)) : DefOk P w K mg base 1 "part_cost" frPc := by
  refine def_ok F hm sc_pc (fun _ _ _ _ _ _ us hl => match us, hl with | [_], _ => rfl) (fun ds r h => by obtain ⟨_, _, rfl, _⟩ := h; rfl) (fun cdv A outer s H E qs ds r hr h => ?_)
  obtain ⟨p, hp, rfl, rfl⟩ := h
  cases p with
  | roll n => exact sd_ifT (PTd.eq (pt_cmpd op_eq rd_eqS (pd_ixT (d := .str "roll") (pd_var 0) pd_int atI0) pd_str (nomark _)) (by decide +kernel)) (sd_ret (pd_glob g1) rfl)
  | cur r c =>
    refine sd_ifF (PTd.eq (pt_cmpd op_eq rd_eqS (pd_ixT (d := .str "cursor") (pd_var 0) pd_int atI0) pd_str (nomark _)) (by decide +kernel)) ?_
    exact sd_ifT (PTd.eq (pt_cmpd op_eq rd_eqS (pd_ixT (d := .str "cursor") (pd_var 0) pd_int atI0) pd_str (nomark _)) (by decide +kernel)) (sd_ret (pd_glob g2) rfl)
  | put r c k z =>
    have hz := hp.2.2.1
    refine sd_ifF (PTd.eq (pt_cmpd op_eq rd_eqS (pd_ixT (d := .str "put") (pd_var 0) pd_int atI0) pd_str (nomark _)) (by decide +kernel)) ?_
    refine sd_ifF (PTd.eq (pt_cmpd op_eq rd_eqS (pd_ixT (d := .str "put") (pd_var 0) pd_int atI0) pd_str (nomark _)) (by decide +kernel)) ?_
    refine sd_ret (d := .int (4 + (z.length : Int))) (pd_add (pd_glob g3) (pd_lenS B.len (pd_ixT (d := .str z) (pd_var 0) (pd_neg pd_int) (atI_last (xs := [.str "put", .int (r : Int), .int (c : Int), .int (k : Int)]))) (by omega))) ?_
    show Rs.ok (.int ((4 + z.length : Nat) : Int)) = _
    rw [Int.natCast_add]
    rfl
def frCp : List PyData → Rs → Prop := fun ds q => ∃ ps : List Pt, (∀ p ∈ ps, p.Ok) ∧ ps.length ≤ 1000 ∧ ds = [.list (ps.map Pt.d)] ∧ q = .ok (.int (costs ps))
theorem sc_cp : FnScope ["change", "part"] ["change"] (defScope s_cost_of_parts) := ⟨rfl, rfl, rfl, by decide +kernel, rfl, by decide +kernel, by decide +kernel⟩
theorem ok_cp (F : Df K "cost_of_parts" s_cost_of_parts f fd) (hm : mg "cost_of_parts" = some (.ref f)) (ms : mg "sum" = none) (G : DefOk P w K mg base 1 "part_cost" frPc) : DefOk P w K mg base 2 "cost_of_parts" frCp := by
  refine def_ok F hm sc_cp (fun _ _ _ _ _ _ us hl => match us, hl with | [_], _ => rfl) (fun ds r h => by obtain ⟨_, _, _, rfl, _⟩ := h; rfl) (fun cdv A outer s H E qs ds r hr h => ?_)
  obtain ⟨ps, hp, hl, rfl, rfl⟩ := h
  refine sd_ret (pd_sumI (ns := costL ps) rfl ms (PN.pl (pn_lc (y := "part") (j := 1) (items := ps.map Pt.d) (ys := (costL ps).map .int) rfl sc_cp.nd (PWk.ws (wk_lst (pd_var 0))) (by simp [costL]) (blkOk_by (N := ["change", "part"]) (sc := defScope s_cost_of_parts) (by decide +kernel)) (fun _ _ _ _ _ => pg_name sc_cp.nd rfl (Or.inl rfl)) ?_ (by rw [List.length_map]; omega)))) rfl
  intro i d y hd hy D o s H C cl fp
  rw [List.getElem?_map] at hd
  unfold costL at hy
  rw [List.getElem?_map, List.getElem?_map] at hy
  cases e : ps[i]? with
  | none =>
    rw [e] at hd
    cases hd
  | some p =>
    rw [e] at hd hy
    cases hd
    cases hy
    exact pd_call G hr (pds_cons (pd_var 1) pds_nil) ⟨p, hp p (List.mem_of_getElem? e), rfl, rfl⟩
def frCost (CB : Addr) : List PyData → Rs → Prop := fun ds q => (∃ ps : List Pt, (∀ p ∈ ps, p.Ok) ∧ ps.length ≤ 1000 ∧ ds = [.list (ps.map Pt.d)] ∧ q = .ok (.int (costs ps))) ∨ ∃ e, okPs e ∧ areParts e = false ∧ ds = [e] ∧ q = .er CB
theorem sc_cost : FnScope ["change"] ["change"] (defScope s_cost) := ⟨rfl, rfl, rfl, by decide +kernel, rfl, by decide +kernel, by decide +kernel⟩
theorem ok_cost (F : Df K "cost" s_cost f fd) (hm : mg "cost" = some (.ref f)) (GN : DefOk P w K mg base 4 "need_change" (frNeedC CB)) (G : DefOk P w K mg base 2 "cost_of_parts" frCp) : DefOk P w K mg base 5 "cost" (frCost CB) := by
  refine def_ok F hm sc_cost (fun _ _ _ _ _ _ us hl => match us, hl with | [_], _ => rfl) (fun ds r h => by rcases h with ⟨_, _, _, rfl, _⟩ | ⟨_, _, _, rfl, _⟩ <;> rfl) (fun cdv A outer s H E qs ds r hr h => ?_)
  have tk : L2N.Takes (cxOf (L2N.CX P w) P w K mg base ["change"] "cost" (defScope s_cost) f cdv A outer s H E) (WOf E) := L2N.takes_of rfl rfl rfl rfl
  rcases h with ⟨ps, hp, hl, rfl, rfl⟩ | ⟨e, sm, np, rfl, rfl⟩
  · refine sd_callX GN hr tk (pds_cons (pd_var 0) pds_nil) ⟨_, rfl, parts_ok hp, rfl⟩ (fun d2 e2 => ?_) (fun Z e2 => ?_)
    · exact sd_ret (pd_call G (hr.mono (by decide)) (pds_cons (pd_var 0) pds_nil) ⟨ps, hp, hl, rfl, rfl⟩) rfl
    · rw [parts_are hp] at e2
      cases e2
  · refine sd_callX GN hr tk (pds_cons (pd_var 0) pds_nil) ⟨e, rfl, sm, rfl⟩ (fun d2 e2 => ?_) (fun Z e2 => ?_)
    · rw [np] at e2
      cases e2
    · rw [np] at e2
      cases e2
      rfl
end
end K41

namespace K41
open PySem PySem.Spec PyProof.Rows L2 FP
def sgN : PyData → Nat
  | .tuple (.str z :: _) => z.cps.toList.headD 0
  | _ => 0
def inkN : PyData → Nat
  | .tuple (_ :: .int k :: _) => k.toNat
  | _ => 0
theorem cell_eq {d : PyData} (h : isCell d = true) : d = cellD (sgN d) (inkN d : Int) ∧ okSign (sgN d) = true ∧ inkN d ≤ 7 := by
  obtain ⟨c, i, rfl, h1, h2, h3⟩ := cell_of h
  refine ⟨?_, h1, ?_⟩
  · show cellD c i = cellD c (i.toNat : Int)
    rw [show ((i.toNat : Nat) : Int) = i by omega]
  · show i.toNat ≤ 7
    omega
def seg (cs : List PyData) (f l : Nat) : List PyData := (cs.drop f).take (l + 1 - f)
def alike (cs : List PyData) (f l : Nat) : Prop := ∀ i, f ≤ i → i ≤ l → inkN (cs.getD i .none) = inkN (cs.getD f .none)
instance {cs : List PyData} {f l : Nat} : Decidable (alike cs f l) :=
  decidable_of_iff (∀ i, i < l + 1 → f ≤ i → inkN (cs.getD i .none) = inkN (cs.getD f .none)) ⟨fun h i h1 h2 => h i (by omega) h1, fun h i h1 h2 => h i h2 (by omega)⟩
def worth (cs : List PyData) (a b : Nat) : Bool := decide ((b : Int) - (a : Int) - 1 < 4) && decide (alike cs a b)
def stepS (cs : List PyData) (sp : List (Nat × Nat)) (c : Nat) : List (Nat × Nat) := match sp.getLast? with
  | some p => if worth cs p.2 c = true then sp.dropLast ++ [(p.1, c)] else sp ++ [(c, c)]
  | none => sp ++ [(c, c)]
structure SpanOk (cs : List PyData) (p : Nat × Nat) : Prop where
  le : p.1 ≤ p.2
  lt : p.2 < cs.length
  ink : alike cs p.1 p.2
theorem step_cases (cs : List PyData) (sp : List (Nat × Nat)) (c : Nat) : stepS cs sp c = sp ++ [(c, c)] ∨ ∃ sp0 p, sp = sp0 ++ [p] ∧ alike cs p.2 c ∧ stepS cs sp c = sp0 ++ [(p.1, c)] := by
  unfold stepS
  rcases List.eq_nil_or_concat sp with e | ⟨sp0, p, e⟩
  · subst e
    exact .inl rfl
  · rw [List.concat_eq_append] at e
    subst e
    have e1 : (sp0 ++ [p]).getLast? = some p := by rw [List.getLast?_append]; rfl
    rw [e1]
    show (if worth cs p.2 c = true then _ else _) = _ ∨ _
    by_cases hw : worth cs p.2 c = true
    · rw [if_pos hw]
      refine .inr ⟨sp0, p, rfl, ?_, ?_⟩
      · unfold worth at hw
        exact of_decide_eq_true (by rw [Bool.and_eq_true] at hw; exact hw.2)
      · show (if worth cs p.2 c = true then _ else _) = _
        rw [if_pos hw, List.dropLast_concat]
    · rw [if_neg hw]
      exact .inl rfl
theorem spans_inv (cs : List PyData) : ∀ (us : List Nat) (sp : List (Nat × Nat)), (∀ p ∈ sp, SpanOk cs p ∧ ∀ c ∈ us, p.2 < c) → us.Pairwise (· < ·) → (∀ c ∈ us, c < cs.length) →
    (∀ p ∈ us.foldl (stepS cs) sp, SpanOk cs p) ∧ (∀ p ∈ sp, ∃ q ∈ us.foldl (stepS cs) sp, q.1 ≤ p.1 ∧ p.2 ≤ q.2) ∧ ∀ c ∈ us, ∃ q ∈ us.foldl (stepS cs) sp, q.1 ≤ c ∧ c ≤ q.2
  | [], sp, h, _, _ => ⟨fun p hp => (h p hp).1, fun p hp => ⟨p, hp, Nat.le_refl _, Nat.le_refl _⟩, fun c hc => (List.not_mem_nil hc).elim⟩
  | c :: us, sp, h, hp, hl => by
    obtain ⟨hp1, hp2⟩ := List.pairwise_cons.mp hp
    have hc := hl c List.mem_cons_self
    have self : SpanOk cs (c, c) := ⟨Nat.le_refl _, hc, fun i h1 h2 => by
      have h1 : c ≤ i := h1
      have h2 : i ≤ c := h2
      rw [show i = c by omega]⟩
    have key : (∀ p ∈ stepS cs sp c, SpanOk cs p ∧ ∀ d ∈ us, p.2 < d) ∧ (∀ p ∈ sp, ∃ q ∈ stepS cs sp c, q.1 ≤ p.1 ∧ p.2 ≤ q.2) ∧ ∃ q ∈ stepS cs sp c, q.1 ≤ c ∧ c ≤ q.2 := by
      rcases step_cases cs sp c with e | ⟨sp0, p, rfl, al, e⟩
      · rw [e]
        refine ⟨fun p hp => ?_, fun p hp => ⟨p, List.mem_append_left _ hp, Nat.le_refl _, Nat.le_refl _⟩, (c, c), List.mem_append_right _ List.mem_cons_self, Nat.le_refl _, Nat.le_refl _⟩
        rcases List.mem_append.mp hp with q | q
        · exact ⟨(h p q).1, fun d hd => (h p q).2 d (List.mem_cons_of_mem _ hd)⟩
        · rw [List.mem_singleton.mp q]
          exact ⟨self, fun d hd => hp1 d hd⟩
      · rw [e]
        have hpm : p ∈ sp0 ++ [p] := List.mem_append_right _ List.mem_cons_self
        obtain ⟨ok, lts⟩ := h p hpm
        have lpc := lts c List.mem_cons_self
        have le1 := ok.le
        refine ⟨fun q hq => ?_, fun q hq => ?_, (p.1, c), List.mem_append_right _ List.mem_cons_self, by show p.1 ≤ c; omega, Nat.le_refl _⟩
        · rcases List.mem_append.mp hq with z | z
          · have hz := h q (List.mem_append_left _ z)
            exact ⟨hz.1, fun d hd => hz.2 d (List.mem_cons_of_mem _ hd)⟩
          · rw [List.mem_singleton.mp z]
            refine ⟨⟨by show p.1 ≤ c; omega, hc, fun i h1 h2 => ?_⟩, fun d hd => hp1 d hd⟩
            have h1 : p.1 ≤ i := h1
            have h2 : i ≤ c := h2
            have e2 := ok.ink p.2 le1 (Nat.le_refl _)
            by_cases hi : i ≤ p.2
            · exact ok.ink i h1 hi
            · exact (al i (by omega) h2).trans e2
        · rcases List.mem_append.mp hq with z | z
          · exact ⟨q, List.mem_append_left _ z, Nat.le_refl _, Nat.le_refl _⟩
          · rw [List.mem_singleton.mp z]
            exact ⟨(p.1, c), List.mem_append_right _ List.mem_cons_self, Nat.le_refl _, by show p.2 ≤ c; omega⟩
    obtain ⟨k1, k2, k3⟩ := key
    obtain ⟨i1, i2, i3⟩ := spans_inv cs us (stepS cs sp c) k1 hp2 fun d hd => hl d (List.mem_cons_of_mem _ hd)
    refine ⟨i1, fun p hp => ?_, fun d hd => ?_⟩
    · obtain ⟨q, hq, a, b⟩ := k2 p hp
      obtain ⟨r, hr, a2, b2⟩ := i2 q hq
      exact ⟨r, hr, by omega, by omega⟩
    · rcases List.mem_cons.mp hd with e | e
      · subst e
        obtain ⟨q, hq, a, b⟩ := k3
        obtain ⟨r, hr, a2, b2⟩ := i2 q hq
        exact ⟨r, hr, by omega, by omega⟩
      · exact i3 d e
/-- the columns in which two rows are unlike -/
def unlike (old new : List PyData) : List Nat := (List.range new.length).filter fun c => PyData.eqv (old.getD c .none) (new.getD c .none) = false
end K41

namespace K41
open PySem PySem.Spec PyProof.Rows L2 FP
theorem eqv_cell {a b : PyData} (ha : isCell a = true) (hb : isCell b = true) : PyData.eqv a b = true ↔ a = b := by
  obtain ⟨c, i, rfl, _⟩ := cell_of ha
  obtain ⟨d, j, rfl, _⟩ := cell_of hb
  have e : PyData.eqv (.tuple [.str ⟨#[c]⟩, .int i]) (.tuple [.str ⟨#[d]⟩, .int j]) = (((⟨#[c]⟩ : Str) == ⟨#[d]⟩) && ((i == j) && true)) := by
    simp only [PyData.eqv, PyData.eqvAll]
  rw [e, Bool.and_true, Bool.and_eq_true, beq_iff_eq, beq_iff_eq]
  constructor
  · rintro ⟨h1, h2⟩
    rw [h1, h2]
  · intro h
    injection h with h
    injection h with h1 h2
    injection h1 with h1
    injection h2 with h2
    injection h2 with h2
    exact ⟨h1, h2⟩
def segsF (new : List PyData) (cs : List PyData) (sp : List (Nat × Nat)) : List PyData := sp.foldl (fun cs p => putC cs p.1 (seg new p.1 p.2)) cs
theorem seg_len {new : List PyData} {f l : Nat} (h1 : f ≤ l) (h2 : l < new.length) : (seg new f l).length = l + 1 - f := by
  unfold seg
  rw [List.length_take, List.length_drop]
  omega
theorem putC_at {cs new : List PyData} {c i : Nat} (h : c + new.length ≤ cs.length) : (putC cs c new)[i]? = if c ≤ i ∧ i < c + new.length then new[i - c]? else cs[i]? := by
  unfold putC
  have lc : (cs.take c).length = c := by rw [List.length_take]; omega
  by_cases h1 : i < c
  · rw [if_neg (by omega), List.append_assoc, List.getElem?_append_left (by rw [lc]; exact h1), List.getElem?_take_of_lt h1]
  · by_cases h2 : i < c + new.length
    · rw [if_pos ⟨by omega, h2⟩, List.append_assoc, List.getElem?_append_right (by rw [lc]; omega), lc, List.getElem?_append_left (by omega)]
    · rw [if_neg (by omega), List.getElem?_append_right (by rw [List.length_append, lc]; omega), List.length_append, lc, List.getElem?_drop]
      congr 1
      omega
theorem seg_at {new : List PyData} {f l i : Nat} (h1 : f ≤ i) (h2 : i ≤ l) : (seg new f l)[i - f]? = new[i]? := by
  unfold seg
  rw [List.getElem?_take_of_lt (by omega), List.getElem?_drop]
  congr 1
  omega
theorem segs_get {new : List PyData} : ∀ (sp : List (Nat × Nat)) (cs : List PyData), cs.length = new.length → (∀ p ∈ sp, SpanOk new p) →
    (segsF new cs sp).length = new.length ∧ ∀ i, ((∃ p ∈ sp, p.1 ≤ i ∧ i ≤ p.2) → (segsF new cs sp)[i]? = new[i]?) ∧ ((¬ ∃ p ∈ sp, p.1 ≤ i ∧ i ≤ p.2) → (segsF new cs sp)[i]? = cs[i]?)
  | [], cs, hl, _ => ⟨hl, fun i => ⟨fun ⟨p, hp, _⟩ => (List.not_mem_nil hp).elim, fun _ => rfl⟩⟩
  | p :: sp, cs, hl, h => by
    have ok := h p List.mem_cons_self
    have sl := seg_len ok.le ok.lt
    have le := ok.le
    have lt := ok.lt
    have fit : p.1 + (seg new p.1 p.2).length ≤ cs.length := by rw [sl]; omega
    obtain ⟨a, b⟩ := segs_get sp (putC cs p.1 (seg new p.1 p.2)) ((putC_len fit).trans hl) fun q hq => h q (List.mem_cons_of_mem _ hq)
    refine ⟨a, fun i => ?_⟩
    obtain ⟨b1, b2⟩ := b i
    have at1 := putC_at (i := i) fit
    rw [sl] at at1
    by_cases hs : ∃ q ∈ sp, q.1 ≤ i ∧ i ≤ q.2
    · refine ⟨fun _ => b1 hs, fun hn => ?_⟩
      obtain ⟨q, hq, hh⟩ := hs
      exact (hn ⟨q, List.mem_cons_of_mem _ hq, hh⟩).elim
    · have e2 := b2 hs
      by_cases hi : p.1 ≤ i ∧ i ≤ p.2
      · rw [if_pos ⟨hi.1, by omega⟩, seg_at hi.1 hi.2] at at1
        exact ⟨fun _ => e2.trans at1, fun hn => (hn ⟨p, List.mem_cons_self, hi⟩).elim⟩
      · rw [if_neg (by omega)] at at1
        refine ⟨fun hq => ?_, fun _ => e2.trans at1⟩
        obtain ⟨q, hq, hh⟩ := hq
        rcases List.mem_cons.mp hq with z | z
        · subst z
          exact (hi hh).elim
        · exact (hs ⟨q, z, hh⟩).elim
def spans (old new : List PyData) : List (Nat × Nat) := (unlike old new).foldl (stepS new) []
theorem unlike_pw (old new : List PyData) : (unlike old new).Pairwise (· < ·) := List.Pairwise.filter _ List.pairwise_lt_range
theorem spans_ok {old new : List PyData} : ∀ p ∈ spans old new, SpanOk new p :=
  (spans_inv new (unlike old new) [] (fun p hp => (List.not_mem_nil hp).elim) (unlike_pw old new) fun c hc => List.mem_range.mp (List.mem_filter.mp hc).1).1
theorem spans_new {old new : List PyData} (hl : old.length = new.length) (h1 : ∀ y ∈ old, isCell y = true) (h2 : ∀ y ∈ new, isCell y = true) : segsF new old (spans old new) = new := by
  obtain ⟨a, b⟩ := segs_get (spans old new) old hl spans_ok
  have cov := (spans_inv new (unlike old new) [] (fun p hp => (List.not_mem_nil hp).elim) (unlike_pw old new) fun c hc => List.mem_range.mp (List.mem_filter.mp hc).1).2.2
  refine List.ext_getElem? fun i => ?_
  obtain ⟨b1, b2⟩ := b i
  by_cases hs : ∃ p ∈ spans old new, p.1 ≤ i ∧ i ≤ p.2
  · exact b1 hs
  · rw [b2 hs]
    by_cases hi : i < new.length
    · have ho : i < old.length := by omega
      have nu : i ∉ unlike old new := fun hm => hs (cov i hm)
      have hd : ¬ (PyData.eqv (old.getD i .none) (new.getD i .none) = false) := fun z => nu (List.mem_filter.mpr ⟨List.mem_range.mpr hi, decide_eq_true z⟩)
      have e1 : old.getD i .none = old[i] := by rw [List.getD_eq_getElem?_getD, List.getElem?_eq_getElem ho]; rfl
      have e2 : new.getD i .none = new[i] := by rw [List.getD_eq_getElem?_getD, List.getElem?_eq_getElem hi]; rfl
      rw [e1, e2, Bool.not_eq_false, eqv_cell (h1 _ (List.getElem_mem ho)) (h2 _ (List.getElem_mem hi))] at hd
      rw [List.getElem?_eq_getElem ho, List.getElem?_eq_getElem hi, hd]
    · rw [List.getElem?_eq_none (by omega), List.getElem?_eq_none (by omega)]
def textOf (new : List PyData) (p : Nat × Nat) : Str := ⟨((seg new p.1 p.2).map sgN).toArray⟩
def putOf (r : Nat) (new : List PyData) (p : Nat × Nat) : Pt := .put r p.1 (inkN (new.getD p.1 .none)) (textOf new p)
theorem textOf_len {new : List PyData} {p : Nat × Nat} (o : SpanOk new p) : (textOf new p).length = p.2 + 1 - p.1 := by
  show ((seg new p.1 p.2).map sgN).toArray.size = _
  rw [List.size_toArray, List.length_map, seg_len o.le o.lt]
theorem seg_mem {new : List PyData} {f l : Nat} {y : PyData} (h : y ∈ seg new f l) : y ∈ new := List.mem_of_mem_drop (List.mem_of_mem_take h)
theorem put_cells {new : List PyData} {p : Nat × Nat} (o : SpanOk new p) (h2 : ∀ y ∈ new, isCell y = true) : cellsZ (textOf new p) (inkN (new.getD p.1 .none)) = seg new p.1 p.2 := by
  unfold cellsZ textOf
  show (((seg new p.1 p.2).map sgN).toArray.toList).map _ = _
  rw [List.toList_toArray, List.map_map]
  have le := o.le
  have lt := o.lt
  have sl := seg_len le lt
  refine List.ext_getElem? fun j => ?_
  rw [List.getElem?_map]
  cases e : (seg new p.1 p.2)[j]? with
  | none => rfl
  | some y =>
    have hj : j < p.2 + 1 - p.1 := by rw [← sl]; exact (List.getElem?_eq_some_iff.mp e).1
    have e2 := seg_at (new := new) (f := p.1) (l := p.2) (i := p.1 + j) (by omega) (by omega)
    rw [show p.1 + j - p.1 = j by omega, e] at e2
    have ey : new.getD (p.1 + j) .none = y := by rw [List.getD_eq_getElem?_getD, ← e2]; rfl
    have ik := o.ink (p.1 + j) (by omega) (by omega)
    rw [ey] at ik
    obtain ⟨c1, c2, c3⟩ := cell_eq (h2 y (List.mem_of_getElem? e2.symm))
    show some (cellD (sgN y) ((inkN (new.getD p.1 .none) : Nat) : Int)) = some y
    rw [← ik, ← c1]
theorem putOf_ok {r : Nat} {new : List PyData} {p : Nat × Nat} (o : SpanOk new p) (h2 : ∀ y ∈ new, isCell y = true) (hl : new.length ≤ 20) : (putOf r new p).Ok := by
  have le := o.le
  have lt := o.lt
  have hp : p.1 < new.length := by omega
  have e : new.getD p.1 .none = new[p.1] := by rw [List.getD_eq_getElem?_getD, List.getElem?_eq_getElem hp]; rfl
  refine ⟨?_, ?_, ?_, fun c hc => ?_⟩
  · rw [e]
    exact (cell_eq (h2 _ (List.getElem_mem hp))).2.2
  · rw [textOf_len o]
    omega
  · rw [textOf_len o]
    omega
  · have hc : c ∈ ((seg new p.1 p.2).map sgN).toArray.toList := hc
    rw [List.toList_toArray] at hc
    obtain ⟨y, hy, rfl⟩ := List.mem_map.mp hc
    exact (cell_eq (h2 y (seg_mem hy))).2.1
theorem row_puts {new : List PyData} {r : Nat} (h2 : ∀ y ∈ new, isCell y = true) : ∀ (sp : List (Nat × Nat)) (t : Sc), (∀ p ∈ sp, SpanOk new p) → r < t.h → t.rows.length = t.h → new.length = t.w →
    t.all (sp.map (putOf r new)) = some { t with rows := t.rows.set r (segsF new (t.rows.getD r []) sp) }
  | [], t, _, hr, hl, _ => by
    have hlt : r < t.rows.length := by omega
    have e : t.rows.getD r [] = t.rows[r] := by rw [List.getD_eq_getElem?_getD, List.getElem?_eq_getElem hlt]; rfl
    show some t = some { t with rows := t.rows.set r (t.rows.getD r []) }
    rw [e, List.set_getElem_self]
  | p :: sp, t, h, hr, hl, hw => by
    have ok := h p List.mem_cons_self
    have le := ok.le
    have lt := ok.lt
    have e1 : t.part (putOf r new p) = some { t with rows := t.rows.set r (putC (t.rows.getD r []) p.1 (seg new p.1 p.2)) } := by
      show (if r < t.h ∧ p.1 + (textOf new p).length ≤ t.w then some { t with rows := t.rows.set r (putC (t.rows.getD r []) p.1 (cellsZ (textOf new p) (inkN (new.getD p.1 .none)))) } else none) = _
      rw [if_pos ⟨hr, by rw [textOf_len ok]; omega⟩, put_cells ok h2]
    show (match t.part (putOf r new p) with | some t => t.all (sp.map (putOf r new)) | none => none) = _
    rw [e1]
    show Sc.all { t with rows := t.rows.set r (putC (t.rows.getD r []) p.1 (seg new p.1 p.2)) } (sp.map (putOf r new)) = _
    rw [row_puts h2 sp { t with rows := t.rows.set r (putC (t.rows.getD r []) p.1 (seg new p.1 p.2)) } (fun q hq => h q (List.mem_cons_of_mem _ hq)) hr (by show (t.rows.set _ _).length = t.h; rw [List.length_set]; exact hl) hw]
    have eg : (t.rows.set r (putC (t.rows.getD r []) p.1 (seg new p.1 p.2))).getD r [] = putC (t.rows.getD r []) p.1 (seg new p.1 p.2) := by
      rw [List.getD_eq_getElem?_getD, List.getElem?_set_self (by omega)]
      rfl
    show some { t with rows := (t.rows.set r _).set r (segsF new ((t.rows.set r _).getD r []) sp) } = _
    rw [eg, List.set_set]
    rfl
def putsAt (old new : List (List PyData)) (r : Nat) : List Pt := (spans (old.getD r []) (new.getD r [])).map (putOf r (new.getD r []))
def putsTo (old new : List (List PyData)) (n : Nat) : List Pt := (List.range n).flatMap (putsAt old new)
theorem putsTo_succ (old new : List (List PyData)) (n : Nat) : putsTo old new (n + 1) = putsTo old new n ++ putsAt old new n := by
  unfold putsTo
  rw [List.range_succ, List.flatMap_append]
  simp
theorem puts_done {s o : Sc} (hs : s.Ok) (ho : o.Ok) (hh : o.h = s.h) (hw : o.w = s.w) : ∀ n, n ≤ s.h → s.all (putsTo s.rows o.rows n) = some { s with rows := o.rows.take n ++ s.rows.drop n }
  | 0, _ => rfl
  | n + 1, hn => by
    have ih := puts_done hs ho hh hw n (by omega)
    rw [putsTo_succ, Sc.all_app, ih]
    obtain ⟨a1, a2, a3⟩ := hs.row_at (show n < s.h by omega)
    obtain ⟨b1, b2, b3⟩ := ho.row_at (show n < o.h by omega)
    have ls := hs.len
    have lo := ho.len
    have lt : (o.rows.take n).length = n := by rw [List.length_take]; omega
    have eg : (o.rows.take n ++ s.rows.drop n).getD n [] = s.rows.getD n [] := by
      rw [List.getD_eq_getElem?_getD, List.getElem?_append_right (by omega), lt, Nat.sub_self, List.getElem?_drop, Nat.add_zero, List.getD_eq_getElem?_getD]
    have q := row_puts (r := n) b3 (spans (s.rows.getD n []) (o.rows.getD n [])) { s with rows := o.rows.take n ++ s.rows.drop n } spans_ok (show n < s.h by omega) (by show (o.rows.take n ++ s.rows.drop n).length = s.h; rw [List.length_append, lt, List.length_drop]; omega) (by rw [b2, hw])
    show Sc.all { s with rows := o.rows.take n ++ s.rows.drop n } (putsAt s.rows o.rows n) = _
    refine q.trans ?_
    show some { s with rows := (o.rows.take n ++ s.rows.drop n).set n (segsF (o.rows.getD n []) ((o.rows.take n ++ s.rows.drop n).getD n []) (spans (s.rows.getD n []) (o.rows.getD n []))) } = _
    rw [eg, spans_new (by rw [a2, b2, hw]) a3 b3, List.set_append_right _ _ (by omega), lt, Nat.sub_self]
    have ed : s.rows.drop n = s.rows.getD n [] :: s.rows.drop (n + 1) := by
      have hlt : n < s.rows.length := by omega
      rw [List.drop_eq_getElem_cons hlt, List.getD_eq_getElem?_getD, List.getElem?_eq_getElem hlt]
      rfl
    rw [ed, List.set_cons_zero, List.take_add_one, b1]
    simp
def chg (s o : Sc) (b : Int) : List Pt := ((if b ≠ 0 then [Pt.roll b] else []) ++ putsTo (rollA s.rows s.w b) o.rows s.h) ++ (if s.row = o.row ∧ s.col = o.col then [] else [Pt.cur o.row o.col])
theorem roll0 (rs : List (List PyData)) (w : Nat) : rollA rs w 0 = rs := by
  unfold rollA pullA
  rw [if_neg (by decide)]
  simp
theorem rolled_ok {s : Sc} (hs : s.Ok) (b : Int) : ({ s with rows := rollA s.rows s.w b } : Sc).Ok :=
  ⟨(rollA_len _ _ _).trans hs.len, fun r hr => by
    rcases rollA_mem hr with q | q
    · exact hs.wid r q
    · rw [q]
      exact blankR_ok, hs.hr, hs.hc, hs.h10, hs.w20⟩
theorem chg_done {s o : Sc} (hs : s.Ok) (ho : o.Ok) (hh : o.h = s.h) (hw : o.w = s.w) (b : Int) : s.all (chg s o b) = some o := by
  have e1 : s.all (if b ≠ 0 then [Pt.roll b] else []) = some { s with rows := rollA s.rows s.w b } := by
    by_cases hb : b ≠ 0
    · rw [if_pos hb]
      rfl
    · rw [if_neg hb]
      have : b = 0 := by omega
      subst this
      rw [roll0]
      rfl
  have e2 := puts_done (rolled_ok hs b) ho hh hw s.h (Nat.le_refl _)
  have lo := ho.len
  have e3 : o.rows.take s.h ++ (rollA s.rows s.w b).drop s.h = o.rows := by
    rw [List.take_of_length_le (by omega), List.drop_eq_nil_of_le (by rw [rollA_len, hs.len]; exact Nat.le_refl _), List.append_nil]
  unfold chg
  rw [Sc.all_app, Sc.all_app, e1]
  show (match Sc.all { s with rows := rollA s.rows s.w b } (putsTo (rollA s.rows s.w b) o.rows s.h) with | some t => t.all (if s.row = o.row ∧ s.col = o.col then [] else [Pt.cur o.row o.col]) | none => none) = _
  have e2' : Sc.all { s with rows := rollA s.rows s.w b } (putsTo (rollA s.rows s.w b) o.rows s.h) = some { s with rows := o.rows } := by
    refine e2.trans ?_
    show some { s with rows := o.rows.take s.h ++ (rollA s.rows s.w b).drop s.h } = _
    rw [e3]
  rw [e2']
  show Sc.all { s with rows := o.rows } _ = _
  have hr := ho.hr
  have hc := ho.hc
  obtain ⟨o1, o2, o3, o4, o5⟩ := o
  simp only at hh hw hr hc ⊢
  subst hh hw
  by_cases hq : s.row = o2 ∧ s.col = o3
  · rw [if_pos hq, ← hq.1, ← hq.2]
    rfl
  · rw [if_neg hq]
    show (match (if o2 < s.h ∧ o3 + 1 ≤ s.w then some ({ s with rows := o1, row := o2, col := o3 } : Sc) else none) with | some t => some t | none => none) = _
    rw [if_pos ⟨hr, hc⟩]
theorem chg_ok {s o : Sc} (hs : s.Ok) (ho : o.Ok) (hh : o.h = s.h) (hw : o.w = s.w) {b : Int} (h1 : -10 ≤ b) (h2 : b ≤ 10) : ∀ p ∈ chg s o b, p.Ok := by
  intro p hp
  unfold chg at hp
  rcases List.mem_append.mp hp with q | q
  · rcases List.mem_append.mp q with q | q
    · by_cases hb : b ≠ 0
      · rw [if_pos hb] at q
        rw [List.mem_singleton.mp q]
        exact ⟨h1, h2, hb⟩
      · rw [if_neg hb] at q
        exact (List.not_mem_nil q).elim
    · unfold putsTo at q
      obtain ⟨r, hr, q⟩ := List.mem_flatMap.mp q
      have hr := List.mem_range.mp hr
      obtain ⟨b1, b2, b3⟩ := ho.row_at (show r < o.h by omega)
      obtain ⟨x, hx, rfl⟩ := List.mem_map.mp q
      have := ho.w20
      exact putOf_ok (spans_ok x hx) b3 (by omega)
  · split at q
    · exact (List.not_mem_nil q).elim
    · rw [List.mem_singleton.mp q]
      trivial
end K41

namespace K41
open PySem PySem.Spec PyProof.Rows L2 FP
theorem cut_mid (ds : List PyData) {i j : Nat} (hi : i ≤ j) (hj : j ≤ ds.length) : FP.cutD ds (some (i : Int)) (some (j : Int)) = (ds.drop i).take (j - i) := by
  unfold FP.cutD
  rw [HT.sIx_nat, HT.sIx_nat, Nat.min_eq_left hj, Nat.min_eq_left (Nat.le_trans hi hj)]
theorem cut_seg (cs : List PyData) {f l : Nat} (h1 : f ≤ l) (h2 : l < cs.length) : FP.cutD cs (some (f : Int)) (some ((l + 1 : Nat) : Int)) = seg cs f l := cut_mid cs (by omega) (by omega)
section
variable {P : Program} {w : World} {K : PySem.W.Frag} {mg : Str → Option Value} {base : Heap} {f C CF CB : Addr} {fd : FuncData}
def frPo : List PyData → Rs → Prop := fun ds q => ∃ (r a b : Nat) (cs : List PyData), SpanOk cs (a, b) ∧ (∀ y ∈ cs, isCell y = true) ∧ cs.length ≤ 20 ∧ ds = [.int (r : Int), .int (a : Int), .int (b : Int), .tuple cs] ∧ q = .ok (putOf r cs (a, b)).d
abbrev NPo : List Str := ["row", "first", "last", "cells", "text", "cell"]
theorem sc_po : FnScope NPo ["row", "first", "last", "cells"] (defScope s_put_of) := ⟨rfl, rfl, rfl, by decide +kernel, rfl, by decide +kernel, by decide +kernel⟩
theorem cell_sg {y : PyData} (h : isCell y = true) : ∃ k, y = .tuple [.str ⟨#[sgN y]⟩, .int k] ∧ k = (inkN y : Int) := ⟨_, (cell_eq h).1, rfl⟩
theorem ok_po (F : Df K "put_of" s_put_of f fd) (hm : mg "put_of" = some (.ref f)) : DefOk P w K mg base 1 "put_of" frPo := by
  refine def_ok F hm sc_po (fun _ _ _ _ _ _ us hl => match us, hl with | [_, _, _, _], _ => rfl) (fun ds r h => by obtain ⟨_, _, _, _, _, _, _, rfl, _⟩ := h; rfl) (fun cdv A outer sh H E qs ds q hr h => ?_)
  obtain ⟨r, a, b, cs, so, hc, hl, rfl, rfl⟩ := h
  have le : a ≤ b := so.le
  have lt : b < cs.length := so.lt
  have sl := seg_len le lt
  refine sd_set 4 (d := .str (textOf cs (a, b))) (PD.eq (pd_join (ys := ((seg cs a b).map sgN).map fun c => (⟨#[c]⟩ : Str)) pd_str (PN.pl (pn_lc (y := "cell") (j := 5) (items := seg cs a b) (ys := (((seg cs a b).map sgN).map fun c => (⟨#[c]⟩ : Str)).map .str) rfl sc_po.nd (PWk.ws (wk_tup (PD.eq (pd_slT (i := some (a : Int)) (j := some ((b + 1 : Nat) : Int)) (pd_var 3) ⟨_, rfl, pd_var 1⟩ ⟨_, rfl, PD.eq (pd_add (pd_var 2) pd_int) (by rw [Int.natCast_add]; rfl)⟩) (by rw [cut_seg cs le lt])))) (by simp) (blkOk_by (N := NPo) (sc := defScope s_put_of) (by decide +kernel)) (fun _ _ _ _ _ => pg_name sc_po.nd rfl (Or.inl rfl)) ?el (by rw [sl]; omega))) ?sz) (by rw [glued_ones]; rfl)) ?rest sc_po.nd
  case sz =>
    have e1 : ∀ cs : List Nat, ((cs.map fun c => (⟨#[c]⟩ : Str)).map (·.length)).sum = cs.length := by
      intro cs
      induction cs with
      | nil => rfl
      | cons c cs ih =>
        rw [List.map_cons, List.map_cons, List.sum_cons, ih, List.length_cons]
        show 1 + cs.length = _
        omega
    have e2 : (Str.ofString "").length = 0 := by decide +kernel
    rw [e1, e2, List.length_map, sl]
    omega
  case el =>
    intro i d y hd hy D o s H C cl fp
    rw [List.getElem?_map, List.getElem?_map, List.getElem?_map, hd] at hy
    cases hy
    obtain ⟨k, e, _⟩ := cell_sg (hc d (seg_mem (List.mem_of_getElem? hd)))
    exact pd_ixT (ds := [.str ⟨#[sgN d]⟩, .int k]) (PD.eq (pd_var 5) e) pd_int atI0
  case rest =>
    have ha : a < cs.length := by omega
    have hy : cs[a]? = some cs[a] := List.getElem?_eq_getElem ha
    have eg : cs.getD a .none = cs[a] := by rw [List.getD_eq_getElem?_getD, hy]; rfl
    obtain ⟨k, e, ek⟩ := cell_sg (hc _ (List.getElem_mem ha))
    refine sd_ret (d := (putOf r cs (a, b)).d) (PD.eq (pd_tup (pds_cons pd_str (pds_cons (pd_var 0) (pds_cons (pd_var 1) (pds_cons (pd_ixT (d := .int k) (pd_ixT (d := .tuple [.str ⟨#[sgN cs[a]]⟩, .int k]) (pd_var 3) (pd_var 1) (atI_nat (by rw [hy]; exact congrArg some e))) pd_int atI1) (pds_cons (pd_var 4) pds_nil)))))) ?_) rfl
    show _ = PyData.tuple [.str "put", .int (r : Int), .int (a : Int), .int ((inkN (cs.getD a .none) : Nat) : Int), .str (textOf cs (a, b))]
    rw [eg, ek]
def frWj : List PyData → Rs → Prop := fun ds q => ∃ (a b : Nat) (cs : List PyData), a ≤ b ∧ b < cs.length ∧ (∀ y ∈ cs, isCell y = true) ∧ cs.length ≤ 20 ∧ ds = [.tuple cs, .int (a : Int), .int (b : Int)] ∧ q = .ok (.bool (worth cs a b))
abbrev NWj : List Str := ["cells", "last", "column", "inks", "cell"]
theorem sc_wj : FnScope NWj ["cells", "last", "column"] (defScope s_is_worth_joining) := ⟨rfl, rfl, rfl, by decide +kernel, rfl, by decide +kernel, by decide +kernel⟩
theorem alike_seg {cs : List PyData} {a b : Nat} (h1 : a ≤ b) (h2 : b < cs.length) : alike cs a b ↔ ∀ y ∈ seg cs a b, inkN y = inkN (cs.getD a .none) := by
  constructor
  · intro h y hy
    obtain ⟨j, hj⟩ := List.getElem?_of_mem hy
    have hl := (List.getElem?_eq_some_iff.mp hj).1
    rw [seg_len h1 h2] at hl
    have e := seg_at (new := cs) (f := a) (l := b) (i := a + j) (by omega) (by omega)
    rw [show a + j - a = j by omega, hj] at e
    have := h (a + j) (by omega) (by omega)
    rwa [List.getD_eq_getElem?_getD, ← e] at this
  · intro h i hi1 hi2
    have e := seg_at (new := cs) (f := a) (l := b) hi1 hi2
    have hi : i < cs.length := by omega
    rw [List.getElem?_eq_getElem hi] at e
    have := h _ (List.mem_of_getElem? e)
    have eg : cs.getD i .none = cs[i] := by rw [List.getD_eq_getElem?_getD, List.getElem?_eq_getElem hi]; rfl
    rw [eg]
    exact this
theorem ok_wj (F : Df K "is_worth_joining" s_is_worth_joining f fd) (hm : mg "is_worth_joining" = some (.ref f)) (B : Bl mg) (g : GlD K mg "PUT_COST" (.int 4)) : DefOk P w K mg base 1 "is_worth_joining" frWj := by
  refine def_ok F hm sc_wj (fun _ _ _ _ _ _ us hl => match us, hl with | [_, _, _], _ => rfl) (fun ds r h => by obtain ⟨_, _, _, _, _, _, _, rfl, _⟩ := h; rfl) (fun cdv A outer sh H E qs ds q hr h => ?_)
  obtain ⟨a, b, cs, le, lt, hc, hl, rfl, rfl⟩ := h
  have sl := seg_len le lt
  have ha : a < cs.length := by omega
  have eg : cs.getD a .none = cs[a] := by rw [List.getD_eq_getElem?_getD, List.getElem?_eq_getElem ha]; rfl
  refine sd_ownLc 3 (y := "cell") (j := 4) (items := seg cs a b) (ys := ((seg cs a b).map fun y => (inkN y : Int)).map .int) rfl sc_wj.nd (PWk.ws (wk_tup (PD.eq (pd_slT (i := some (a : Int)) (j := some ((b + 1 : Nat) : Int)) (pd_var 0) ⟨_, rfl, pd_var 1⟩ ⟨_, rfl, PD.eq (pd_add (pd_var 2) pd_int) (by rw [Int.natCast_add]; rfl)⟩) (by rw [cut_seg cs le lt])))) (by simp) (blkOk_by (N := NWj) (sc := defScope s_is_worth_joining) (by decide +kernel)) (fun _ _ _ _ _ => pg_name sc_wj.nd rfl (Or.inl rfl)) ?el (by rw [sl]; omega) rfl (fun D => ?rest)
  case el =>
    intro i d y hd hy D o s H C cl fp
    rw [List.getElem?_map, List.getElem?_map, hd] at hy
    cases hy
    obtain ⟨k, e, ek⟩ := cell_sg (hc d (seg_mem (List.mem_of_getElem? hd)))
    exact PD.eq (pd_ixT (ds := [.str ⟨#[sgN d]⟩, .int k]) (d := .int k) (PD.eq (pd_var 4) e) pd_int atI1) (congrArg PyData.int ek)
  case rest =>
    have e0 : (seg cs a b)[0]? = some cs[a] := by
      have e := seg_at (new := cs) (f := a) (l := b) (i := a) (Nat.le_refl _) le
      rw [Nat.sub_self] at e
      rw [e, List.getElem?_eq_getElem ha]
    have at0 : atI (((seg cs a b).map fun y => (inkN y : Int)).map PyData.int) 0 = some (.int (inkN cs[a] : Int)) := atI_nat (j := 0) (by rw [List.getElem?_map, List.getElem?_map, e0]; rfl)
    refine sd_ret (d := .bool (worth cs a b)) (PD.eq (pd_and (pd_lt (pd_sub (pd_sub (pd_var 2) (pd_var 1)) pd_int) (pd_glob g)) (fun _ => pd_one (pd_eqI (pd_count (pl_var 3 List.mem_cons_self) (pd_ixL (pl_var 3 List.mem_cons_self) pd_int at0)) (pd_lenL B.len (pl_var 3 List.mem_cons_self))))) ?_) rfl
    congr 1
    unfold worth
    congr 1
    have e1 : decide (alike cs a b) = decide (∀ y ∈ seg cs a b, inkN y = inkN (cs.getD a .none)) := by
      rw [decide_eq_decide]
      exact alike_seg le lt
    rw [e1, decide_eq_decide, eg, List.length_map]
    constructor
    · intro h y hy
      have h2 : ((seg cs a b).map fun y => (inkN y : Int)).count (inkN cs[a] : Int) = ((seg cs a b).map fun y => (inkN y : Int)).length := by omega
      have := List.count_eq_length.mp h2 _ (List.mem_map.mpr ⟨y, hy, rfl⟩)
      omega
    · intro h
      have h2 := List.count_eq_length (a := (inkN cs[a] : Int)) (l := (seg cs a b).map fun y => (inkN y : Int)) |>.mpr (fun x hx => by
        obtain ⟨y, hy, rfl⟩ := List.mem_map.mp hx
        rw [h y hy])
      omega
def spD (p : Nat × Nat) : PyData := .tuple [.int (p.1 : Int), .int (p.2 : Int)]
def frSp : List PyData → Rs → Prop := fun ds q => ∃ (old new : List PyData), old.length = new.length ∧ (∀ y ∈ old, isCell y = true) ∧ (∀ y ∈ new, isCell y = true) ∧ new.length ≤ 20 ∧ ds = [.tuple old, .tuple new] ∧ q = .ok (.list ((spans old new).map spD))
abbrev NSp : List Str := ["old", "new", "spans", "column", "unlike"]
theorem sc_sp : FnScope NSp ["old", "new"] (defScope s_spans_to_put) := ⟨rfl, rfl, rfl, by decide +kernel, rfl, by decide +kernel, by decide +kernel⟩
theorem pick_if {p : Nat → Bool} {g : Nat → PyData} : ∀ l : List Nat, pick (l.map fun i => if p i = true then some (g i) else none) = (l.filter p).map g
  | [] => rfl
  | i :: l => by
    have ih := pick_if (p := p) (g := g) l
    unfold pick at ih ⊢
    rw [List.map_cons, List.filter_cons, List.filterMap_cons]
    by_cases h : p i = true
    · rw [if_pos h, if_pos h]
      show g i :: _ = _
      rw [ih]
      rfl
    · rw [if_neg h, if_neg h]
      exact ih
theorem step_last (cs : List PyData) : ∀ (us : List Nat) (sp : List (Nat × Nat)), ∀ p ∈ us.foldl (stepS cs) sp, p.2 ∈ us ∨ ∃ q ∈ sp, p.2 = q.2
  | [], sp, p, hp => .inr ⟨p, hp, rfl⟩
  | c :: us, sp, p, hp => by
    rcases step_last cs us (stepS cs sp c) p hp with h | ⟨q, hq, e⟩
    · exact .inl (List.mem_cons_of_mem _ h)
    · rcases step_cases cs sp c with z | ⟨sp0, x, rfl, _, z⟩
      · rw [z] at hq
        rcases List.mem_append.mp hq with y | y
        · exact .inr ⟨q, y, e⟩
        · rw [List.mem_singleton.mp y] at e
          exact .inl (by rw [e]; exact List.mem_cons_self)
      · rw [z] at hq
        rcases List.mem_append.mp hq with y | y
        · exact .inr ⟨q, List.mem_append_left _ y, e⟩
        · rw [List.mem_singleton.mp y] at e
          exact .inl (by rw [e]; exact List.mem_cons_self)
theorem fold_len (cs : List PyData) : ∀ (us : List Nat) (sp : List (Nat × Nat)), (us.foldl (stepS cs) sp).length ≤ sp.length + us.length
  | [], sp => Nat.le_refl _
  | c :: us, sp => by
    have ih := fold_len cs us (stepS cs sp c)
    have h1 : (stepS cs sp c).length ≤ sp.length + 1 := by
      rcases step_cases cs sp c with z | ⟨sp0, x, rfl, _, z⟩
      · rw [z]; simp
      · rw [z]; simp
    show (us.foldl (stepS cs) (stepS cs sp c)).length ≤ _
    rw [List.length_cons]
    omega
theorem unlike_len (old new : List PyData) : (unlike old new).length ≤ new.length := by
  unfold unlike
  exact Nat.le_trans (List.length_filter_le _ _) (by rw [List.length_range]; exact Nat.le_refl _)
theorem ixN_last {α : Type} (xs : List α) (x : α) : ixN (xs ++ [x]).length (-1) = some xs.length := by
  unfold ixN
  rw [if_neg (by decide), if_pos (by simp; omega)]
  congr 1
  simp
  omega
theorem ok_sp (F : Df K "spans_to_put" s_spans_to_put f fd) (hm : mg "spans_to_put" = some (.ref f)) (B : Bl mg) (G : DefOk P w K mg base 1 "is_worth_joining" frWj) : DefOk P w K mg base 2 "spans_to_put" frSp := by
  refine def_ok F hm sc_sp (fun _ _ _ _ _ _ us hl => match us, hl with | [_, _], _ => rfl) (fun ds r h => by obtain ⟨_, _, _, _, _, _, rfl, _⟩ := h; rfl) (fun cdv A outer sh H E qs ds q hr h => ?_)
  obtain ⟨old, new, hl, ho, hn, h20, rfl, rfl⟩ := h
  have hr1 := hr
  refine sd_ownP 2 (pn_lst pds_nil) (fun D1 hD1 => ?_) sc_sp.nd
  refine sd_ownLcIf 4 (y := "column") (j := 3) (items := rangeD 0 ((new.length : Nat) : Int).toNat) (sel := (List.range new.length).map fun c => if decide (PyData.eqv (old.getD c .none) (new.getD c .none) = false) = true then some (.int (c : Int)) else none) rfl sc_sp.nd (PWk.ws (wk_range1 (j := (new.length : Int)) B.range (pd_lenT B.len (pd_var 1)) (by omega))) (by rw [rangeD_nat]; simp) (blkOk_by (N := NSp) (sc := defScope s_spans_to_put) (by decide +kernel)) (fun _ _ _ _ _ => pg_name sc_sp.nd rfl (Or.inl rfl)) ?ht ?he (by rw [rangeD_nat]; omega) (fun D2 => ?rest)
  case ht =>
    intro i d sv hd hy D o s H C cl fp
    obtain ⟨hi, rfl⟩ := rangeD_at hd
    have hi : i < new.length := by simpa using hi
    rw [List.getElem?_map, List.getElem?_range hi] at hy
    cases hy
    have h2 : i < old.length := by omega
    have e1 : old.getD i .none = old[i] := by rw [List.getD_eq_getElem?_getD, List.getElem?_eq_getElem h2]; rfl
    have e2 : new.getD i .none = new[i] := by rw [List.getD_eq_getElem?_getD, List.getElem?_eq_getElem hi]; rfl
    refine PTd.eq (pt_cmpd (op_neD hr.units) (rd_neD ((shp_cell (ho _ (List.getElem_mem h2))).ok (by decide)) ((shp_cell (hn _ (List.getElem_mem hi))).ok (by decide))) (pd_ixT (d := old[i]) (pd_var 0) (pd_var 3) (atI_nat (List.getElem?_eq_getElem h2))) (pd_ixT (d := new[i]) (pd_var 1) (pd_var 3) (atI_nat (List.getElem?_eq_getElem hi))) (nomark _)) ?_
    show (!PyData.eqv old[i] new[i]) = (if decide (PyData.eqv (old.getD i .none) (new.getD i .none) = false) = true then some (PyData.int (i : Int)) else none).isSome
    rw [e1, e2]
    cases PyData.eqv old[i] new[i] <;> rfl
  case he =>
    intro i d y hd hy D o s H C cl fp
    obtain ⟨hi, rfl⟩ := rangeD_at hd
    have hi : i < new.length := by simpa using hi
    rw [List.getElem?_map, List.getElem?_range hi] at hy
    have ey : y = .int (i : Int) := by
      have hy : (if decide (PyData.eqv (old.getD i .none) (new.getD i .none) = false) = true then some (PyData.int (i : Int)) else none) = some y := by injection hy
      split at hy
      · injection hy with hy
        exact hy.symm
      · cases hy
    subst ey
    exact pd_var 3
  case rest =>
    have ep : pick ((List.range new.length).map fun c => if decide (PyData.eqv (old.getD c .none) (new.getD c .none) = false) = true then some (PyData.int (c : Int)) else none) = (unlike old new).map fun (c : Nat) => PyData.int (c : Int) := pick_if _
    rw [ep]
    refine sd_forO 3 (ad := D2) (xs := (unlike old new).map fun (c : Nat) => PyData.int (c : Int)) (fun i δ' ω' => ω' = ⟨qs, [(D2, .lst (((unlike old new).map fun (c : Nat) => PyData.int (c : Int)).map .im)), (D1, .lst (((((unlike old new).take i).foldl (stepS new) []).map spD).map .im))]⟩ ∧ ∃ y3, δ' = [some (.im (.tuple old)), some (.im (.tuple new)), some (.ad D1), y3, some (.ad D2)])
      (ps1_var 4) List.mem_cons_self ⟨rfl, _, rfl⟩ (fun i δ' ω' h => by rw [h.1]; exact List.mem_cons_self) ?_ ?_ (pg_name sc_sp.nd rfl (Or.inl rfl)) (passes_of rfl) rfl
    · rintro i d δ' ω' hd ⟨rfl, y3, rfl⟩
      rw [List.getElem?_map] at hd
      obtain ⟨c, hc, rfl⟩ : ∃ c, (unlike old new)[i]? = some c ∧ PyData.int (c : Int) = d := by
        cases e : (unlike old new)[i]? with
        | none => rw [e] at hd; cases hd
        | some c => rw [e] at hd; exact ⟨c, rfl, by injection hd⟩
      have cl : c < new.length := List.mem_range.mp (List.mem_filter.mp (List.mem_of_getElem? hc)).1
      have hsn : ((unlike old new).take (i + 1)).foldl (stepS new) [] = stepS new (((unlike old new).take i).foldl (stepS new) []) c := by
        rw [List.take_add_one, hc, List.foldl_append]
        rfl
      have lts : ∀ p ∈ ((unlike old new).take i).foldl (stepS new) [], p.2 < c := by
        intro p hp
        rcases step_last new _ [] p hp with z | ⟨q, hq, _⟩
        · obtain ⟨j, hj⟩ := List.getElem?_of_mem z
          have hji : j < i := by
            have := (List.getElem?_eq_some_iff.mp hj).1
            rw [List.length_take] at this
            omega
          rw [List.getElem?_take_of_lt hji] at hj
          obtain ⟨h1, e1⟩ := List.getElem?_eq_some_iff.mp hj
          obtain ⟨h2, e2⟩ := List.getElem?_eq_some_iff.mp hc
          have := List.pairwise_iff_getElem.mp (unlike_pw old new) j i h1 h2 hji
          omega
        · exact (List.not_mem_nil hq).elim
      generalize hsp : ((unlike old new).take i).foldl (stepS new) [] = sp at hsn lts
      rcases List.eq_nil_or_concat sp with e | ⟨sp0, p, e⟩
      · subst e
        refine sd_if (kk := false) (PWd.pt (pw_andF (pt_truA (xs := []) (ps1_var 2) (List.mem_cons_of_mem _ List.mem_cons_self)))) (fun z => by cases z) (fun _ => sd_appS (j := 1) (ps1_var 2) rfl (pd_tup (pds_cons (pd_var 3) (pds_cons (pd_var 3) pds_nil))) (sd_nil (sd_nil ⟨?_, _, rfl⟩)) (by decide))
        rw [hsn]
        rfl
      · rw [List.concat_eq_append] at e
        subst e
        have hp := lts p (List.mem_append_right _ List.mem_cons_self)
        have em : (sp0 ++ [p]).map spD = sp0.map spD ++ [spD p] := by rw [List.map_append]; rfl
        have lsp : (sp0.map spD ++ [spD p]).length ≤ 21 := by
          rw [← em, List.length_map, ← hsp]
          exact Nat.le_trans (fold_len new _ []) (by rw [List.length_take]; simp; have := unlike_len old new; omega)
        have es : stepS new (sp0 ++ [p]) c = if worth new p.2 c = true then sp0 ++ [(p.1, c)] else (sp0 ++ [p]) ++ [(c, c)] := by
          unfold stepS
          rw [show (sp0 ++ [p]).getLast? = some p by rw [List.getLast?_append]; rfl]
          show (if worth new p.2 c = true then (sp0 ++ [p]).dropLast ++ [(p.1, c)] else _) = _
          rw [List.dropLast_concat]
        rw [em]
        refine sd_if (PWd.pt (pw_andd (pt_truA (ps1_var 2) (List.mem_cons_of_mem _ List.mem_cons_self)) (fun _ => pw_and1d (pt_bool (pd_call G hr1 (pds_cons (pd_var 1) (pds_cons (pd_ixT (ds := [.int (p.1 : Int), .int (p.2 : Int)]) (d := .int (p.2 : Int)) (pd_ixL (d := spD p) (pl_var 2 (List.mem_cons_of_mem _ List.mem_cons_self)) (pd_neg pd_int) atI_last) pd_int atI1) (pds_cons (pd_var 3) pds_nil))) ⟨p.2, c, new, by omega, cl, hn, h20, rfl, rfl⟩))))) (fun hk => ?_) (fun hk => ?_)
        · have hwt : worth new p.2 c = true := (Bool.and_eq_true_iff.mp hk).2
          refine sd_lsetK (c := D1) (n := sp0.length) (k := -1) (PD.ex (d := spD (p.1, c)) (pd_tup (pds_cons (pd_ixT (ds := [.int (p.1 : Int), .int (p.2 : Int)]) (d := .int (p.1 : Int)) (pd_ixL (d := spD p) (pl_var 2 (List.mem_cons_of_mem _ List.mem_cons_self)) (pd_neg pd_int) atI_last) pd_int atI0) (pds_cons (pd_var 3) pds_nil))) ⟨1, (sp0.map spD ++ [spD p]).map .im, ps1_var 2, rfl, pd_neg pd_int, by rw [List.length_map, ixN_last, List.length_map], sd_nil (sd_nil ⟨?_, _, rfl⟩)⟩)
          rw [hsn, es, if_pos hwt]
          have e9 : ((sp0.map spD ++ [spD p]).map Sd.im).set sp0.length (Sd.im (spD (p.1, c))) = ((sp0 ++ [(p.1, c)]).map spD).map Sd.im := by
            rw [List.map_append, List.set_append_right _ _ (by rw [List.length_map, List.length_map]; exact Nat.le_refl _), List.length_map, List.length_map, Nat.sub_self, List.map_append, List.map_append]
            rfl
          show (⟨qs, [_, (D1, .lst (((sp0.map spD ++ [spD p]).map Sd.im).set sp0.length (Sd.im (spD (p.1, c)))))]⟩ : Om) = _
          rw [e9]
        · have hwf : ¬ worth new p.2 c = true := fun hw => by
            rw [hw, Bool.and_true] at hk
            have : ((sp0.map spD ++ [spD p]).map Sd.im).isEmpty = false := by simp
            rw [this] at hk
            cases hk
          refine sd_appS (j := 1) (ps1_var 2) rfl (pd_tup (pds_cons (pd_var 3) (pds_cons (pd_var 3) pds_nil))) (sd_nil (sd_nil ⟨?_, _, rfl⟩)) (by rw [List.length_map]; omega)
          rw [hsn, es, if_neg hwf]
          have e9 : ((sp0.map spD ++ [spD p]).map Sd.im) ++ [Sd.im (spD (c, c))] = (((sp0 ++ [p]) ++ [(c, c)]).map spD).map Sd.im := by simp
          show (⟨qs, [_, (D1, .lst (((sp0.map spD ++ [spD p]).map Sd.im) ++ [Sd.im (spD (c, c))]))]⟩ : Om) = _
          rw [e9]
    · rintro δ' ω' ⟨rfl, y3, rfl⟩
      rw [List.length_map, List.take_length]
      exact sd_retP 2 (List.mem_cons_of_mem _ List.mem_cons_self) hD1 rfl
end
end K41

namespace K41
open PySem PySem.Spec PyProof.Rows L2 FP
def leA (x y : Int) : Bool := decide (absI x ≤ absI y)
theorem sorted_ex (ns : List Int) : AbsSorted (ns.mergeSort leA) ns := by
  have tr : ∀ a b c : Int, leA a b = true → leA b c = true → leA a c = true := fun a b c h1 h2 => by
    have h1 := of_decide_eq_true h1
    have h2 := of_decide_eq_true h2
    exact decide_eq_true (Int.le_trans h1 h2)
  have to : ∀ a b : Int, (leA a b || leA b a) = true := fun a b => by
    by_cases h : absI a ≤ absI b
    · rw [show leA a b = true from decide_eq_true h]
      rfl
    · rw [show leA b a = true from decide_eq_true (by omega), Bool.or_true]
  have pm : (ns.mergeSort leA).Perm ns := List.mergeSort_perm ns leA
  refine ⟨pm, (List.pairwise_mergeSort tr to ns).imp fun h => of_decide_eq_true h, fun z => ?_⟩
  have pw : (ns.filter fun x => absI x == z).Pairwise fun a b => leA a b = true := by
    rw [List.pairwise_iff_forall_sublist]
    intro a b hab
    have ma : a ∈ ns.filter fun x => absI x == z := hab.subset List.mem_cons_self
    have mb : b ∈ ns.filter fun x => absI x == z := hab.subset (List.mem_cons_of_mem _ List.mem_cons_self)
    have ea : absI a = z := by simpa using (List.mem_filter.mp ma).2
    have eb : absI b = z := by simpa using (List.mem_filter.mp mb).2
    exact decide_eq_true (by omega)
  have sb := List.sublist_mergeSort tr to pw List.filter_sublist
  have sb2 := sb.filter fun x => absI x == z
  rw [List.filter_filter] at sb2
  have e1 : (ns.filter fun x => (absI x == z) && (absI x == z)) = ns.filter fun x => absI x == z := List.filter_congr fun x _ => Bool.and_self _
  rw [e1] at sb2
  exact (sb2.eq_of_length (pm.filter _).length_eq.symm).symm
theorem rolls_ok (ns : List Int) : AbsSorted (rollsOf ns) ns := (rolls_is (sorted_ex ns)).2
structure Best (l : List (List Pt)) (i : Nat) : Prop where
  lt : i < l.length
  best : ∀ j, j < l.length → costs (l.getD i []) ≤ costs (l.getD j []) ∧ (j < i → costs (l.getD i []) < costs (l.getD j []))
theorem best_one {l : List (List Pt)} {i j : Nat} (a : Best l i) (b : Best l j) : i = j := by
  have h1 := a.best j b.lt
  have h2 := b.best i a.lt
  by_cases h : i = j
  · exact h
  · rcases Nat.lt_or_gt_of_ne h with z | z
    · have := h2.2 z
      have := h1.1
      omega
    · have := h1.2 z
      have := h2.1
      omega
theorem best_ex (l : List (List Pt)) : ∀ n, n < l.length → ∃ i, i ≤ n ∧ ∀ j, j ≤ n → costs (l.getD i []) ≤ costs (l.getD j []) ∧ (j < i → costs (l.getD i []) < costs (l.getD j []))
  | 0, _ => ⟨0, Nat.le_refl _, fun j hj => by
    have : j = 0 := by omega
    subst this
    exact ⟨Int.le_refl _, fun h => absurd h (Nat.lt_irrefl _)⟩⟩
  | n + 1, hn => by
    obtain ⟨i, hi, hb⟩ := best_ex l n (by omega)
    by_cases h : costs (l.getD (n + 1) []) < costs (l.getD i [])
    · refine ⟨n + 1, Nat.le_refl _, fun j hj => ?_⟩
      by_cases e : j = n + 1
      · subst e
        exact ⟨Int.le_refl _, fun z => absurd z (Nat.lt_irrefl _)⟩
      · have := (hb j (by omega)).1
        exact ⟨by omega, fun _ => by omega⟩
    · refine ⟨i, by omega, fun j hj => ?_⟩
      by_cases e : j = n + 1
      · subst e
        exact ⟨by omega, fun z => absurd z (by omega)⟩
      · exact hb j (by omega)
open Classical in
noncomputable def bestOf (l : List (List Pt)) : List Pt := if h : ∃ i, Best l i then l.getD (Classical.choose h) [] else []
theorem bestOf_is {l : List (List Pt)} {i : Nat} (b : Best l i) : bestOf l = l.getD i [] := by
  have hex : ∃ i, Best l i := ⟨i, b⟩
  unfold bestOf
  rw [dif_pos hex, best_one (Classical.choose_spec hex) b]
theorem bestOf_ex {l : List (List Pt)} (h : 0 < l.length) : ∃ i, Best l i := by
  obtain ⟨i, hi, hb⟩ := best_ex l (l.length - 1) (by omega)
  exact ⟨i, by omega, fun j hj => hb j (by omega)⟩
noncomputable def coL (s o : Sc) : List (List Pt) := (rollsOf (rgI (1 - (s.h : Int)) ((s.h : Int) + 1))).map (chg s o)
noncomputable def coS (s o : Sc) : List Pt := bestOf (coL s o)
theorem rg_mem {a b x : Int} : x ∈ rgI a b ↔ a ≤ x ∧ x < b := by
  unfold rgI
  rw [List.mem_map]
  constructor
  · rintro ⟨i, hi, rfl⟩
    have := List.mem_range.mp hi
    omega
  · intro h
    exact ⟨(x - a).toNat, List.mem_range.mpr (by omega), by omega⟩
/-- by 0 comes first -/
theorem rolls_head {h : Nat} (h1 : 1 ≤ h) : ∃ t, rollsOf (rgI (1 - (h : Int)) ((h : Int) + 1)) = 0 :: t ∧ ∀ x ∈ t, x ≠ 0 := by
  have S := rolls_ok (rgI (1 - (h : Int)) ((h : Int) + 1))
  have m0 : (0 : Int) ∈ rollsOf (rgI (1 - (h : Int)) ((h : Int) + 1)) := S.perm.mem_iff.mpr (rg_mem.mpr ⟨by omega, by omega⟩)
  have f0 := S.stay 0
  have fz : (rgI (1 - (h : Int)) ((h : Int) + 1)).filter (fun x => absI x == 0) = [0] := by
    have nd : (rgI (1 - (h : Int)) ((h : Int) + 1)).Nodup := by
      unfold rgI
      show List.Pairwise (· ≠ ·) _
      rw [List.pairwise_map]
      exact List.nodup_range.imp fun {x y} hne e => hne (by omega)
    have all : ∀ x ∈ (rgI (1 - (h : Int)) ((h : Int) + 1)).filter (fun x => absI x == 0), x = 0 := fun x hx => by
      have e : absI x = 0 := by simpa using (List.mem_filter.mp hx).2
      unfold absI at e
      split at e <;> omega
    have mem : (0 : Int) ∈ (rgI (1 - (h : Int)) ((h : Int) + 1)).filter (fun x => absI x == 0) := List.mem_filter.mpr ⟨rg_mem.mpr ⟨by omega, by omega⟩, rfl⟩
    have ndf := nd.filter (fun x => absI x == 0)
    generalize (rgI (1 - (h : Int)) ((h : Int) + 1)).filter (fun x => absI x == 0) = F at all mem ndf
    match F with
    | [] => exact (List.not_mem_nil mem).elim
    | [x] => rw [all x List.mem_cons_self]
    | x :: y :: r =>
      have e1 := all x List.mem_cons_self
      have e2 := all y (List.mem_cons_of_mem _ List.mem_cons_self)
      exact absurd (List.mem_cons_self (a := y) (l := r)) (by rw [e2, ← e1]; exact (List.nodup_cons.mp ndf).1 ∘ fun z => by rw [e1, ← e2]; exact List.mem_cons_self)
  rw [fz] at f0
  have od := S.ord
  generalize rollsOf (rgI (1 - (h : Int)) ((h : Int) + 1)) = R at m0 f0 od
  match R with
  | [] => exact (List.not_mem_nil m0).elim
  | x :: t =>
    obtain ⟨a, _⟩ := List.pairwise_cons.mp od
    have x0 : x = 0 := by
      rcases List.mem_cons.mp m0 with e | e
      · exact e.symm
      · have := a 0 e
        have z0 : absI 0 = 0 := rfl
        rw [z0] at this
        unfold absI at this
        split at this <;> omega
    subst x0
    refine ⟨t, rfl, fun y hy e => ?_⟩
    subst e
    rw [List.filter_cons, if_pos (show (absI 0 == 0) = true from rfl)] at f0
    injection f0 with _ f1
    have := List.filter_eq_nil_iff.mp f1 0 hy
    exact this rfl
theorem coL_pos {s o : Sc} (h1 : 1 ≤ s.h) : 0 < (coL s o).length := by
  obtain ⟨t, e, _⟩ := rolls_head h1
  unfold coL
  rw [e]
  exact Nat.succ_pos _
theorem coS_of {s o : Sc} (h1 : 1 ≤ s.h) (h10 : s.h ≤ 10) : ∃ b : Int, -10 ≤ b ∧ b ≤ 10 ∧ coS s o = chg s o b := by
  obtain ⟨i, b⟩ := bestOf_ex (coL_pos (o := o) h1)
  have lt := b.lt
  have e := bestOf_is b
  unfold coL at lt e
  rw [List.length_map] at lt
  have hm := (rolls_ok (rgI (1 - (s.h : Int)) ((s.h : Int) + 1))).perm.mem_iff.mp (List.getElem_mem lt)
  have hb := rg_mem.mp hm
  refine ⟨(rollsOf (rgI (1 - (s.h : Int)) ((s.h : Int) + 1)))[i], by omega, by omega, e.trans ?_⟩
  rw [List.getD_eq_getElem?_getD, List.getElem?_map, List.getElem?_eq_getElem lt]
  rfl
theorem coS_done {s o : Sc} (hs : s.Ok) (ho : o.Ok) (hh : o.h = s.h) (hw : o.w = s.w) : s.all (coS s o) = some o ∧ ∀ p ∈ coS s o, p.Ok := by
  have hr := hs.hr
  obtain ⟨b, h1, h2, e⟩ := coS_of (o := o) (show 1 ≤ s.h by omega) hs.h10
  rw [e]
  exact ⟨chg_done hs ho hh hw b, chg_ok hs ho hh hw h1 h2⟩
theorem coS_first {s o : Sc} (h1 : 1 ≤ s.h) (hc : ∀ b : Int, b ≠ 0 → costs (chg s o 0) ≤ costs (chg s o b)) : coS s o = chg s o 0 := by
  obtain ⟨t, e, nz⟩ := rolls_head h1
  have el : coL s o = chg s o 0 :: t.map (chg s o) := by
    unfold coL
    rw [e]
    rfl
  have b : Best (coL s o) 0 := ⟨coL_pos h1, fun j hj => ⟨?_, fun z => absurd z (Nat.not_lt_zero _)⟩⟩
  · have := bestOf_is b
    rw [el] at this
    unfold coS
    rw [el]
    exact this
  · rw [el] at hj ⊢
    cases j with
    | zero => exact Int.le_refl _
    | succ j =>
      have hj : j < t.length := by
        have : j + 1 < (t.map (chg s o)).length + 1 := hj
        rw [List.length_map] at this
        omega
      show costs (chg s o 0) ≤ costs ((t.map (chg s o)).getD j [])
      rw [List.getD_eq_getElem?_getD, List.getElem?_map, List.getElem?_eq_getElem hj]
      exact hc _ (nz _ (List.getElem_mem hj))
theorem eqv_self {a : PyData} (h : isCell a = true) : PyData.eqv a a = true := (eqv_cell h h).mpr rfl
theorem spans_self {cs : List PyData} (h : ∀ y ∈ cs, isCell y = true) : spans cs cs = [] := by
  have e : unlike cs cs = [] := by
    unfold unlike
    rw [List.filter_eq_nil_iff]
    intro c hc
    have hl := List.mem_range.mp hc
    have eg : cs.getD c .none = cs[c] := by rw [List.getD_eq_getElem?_getD, List.getElem?_eq_getElem hl]; rfl
    rw [eg, eqv_self (h _ (List.getElem_mem hl))]
    decide
  unfold spans
  rw [e]
  rfl
theorem puts_self {s : Sc} (hs : s.Ok) : ∀ n, n ≤ s.h → putsTo s.rows s.rows n = []
  | 0, _ => rfl
  | n + 1, hn => by
    obtain ⟨a1, a2, a3⟩ := hs.row_at (show n < s.h by omega)
    rw [putsTo_succ, puts_self hs n (by omega)]
    unfold putsAt
    rw [spans_self a3]
    rfl
theorem chg0 {s o : Sc} (hs : s.Ok) (hr : o.rows = s.rows) : chg s o 0 = if s.row = o.row ∧ s.col = o.col then [] else [Pt.cur o.row o.col] := by
  unfold chg
  rw [roll0, hr, puts_self hs s.h (Nat.le_refl _)]
  rfl
theorem costs_app (ps qs : List Pt) : costs (ps ++ qs) = costs ps + costs qs := by
  unfold costs costL
  rw [List.map_append, List.sum_append]
theorem costs_nn : ∀ ps : List Pt, 0 ≤ costs ps
  | [] => Int.le_refl _
  | p :: ps => by
    have := costs_nn ps
    show 0 ≤ ((p.cost : Nat) : Int) + costs ps
    omega
/-- faces with the same rows: only the cursor is told -/
theorem coS_rows {s o : Sc} (hs : s.Ok) (hr : o.rows = s.rows) : coS s o = if s.row = o.row ∧ s.col = o.col then [] else [Pt.cur o.row o.col] := by
  have h := hs.hr
  rw [← chg0 hs hr]
  refine coS_first (by omega) fun b hb => ?_
  rw [chg0 hs hr]
  unfold chg
  rw [costs_app]
  have := costs_nn ((if b ≠ 0 then [Pt.roll b] else []) ++ putsTo (rollA s.rows s.w b) o.rows s.h)
  omega
theorem coS_self {s : Sc} (hs : s.Ok) : coS s s = [] := by
  rw [coS_rows hs rfl, if_pos ⟨rfl, rfl⟩]
end K41

namespace K41
open PySem PySem.Spec PyProof.Rows L2 FP
section
variable {P : Program} {w : World} {K : PySem.W.Frag} {mg : Str → Option Value} {base : Heap} {f C : Addr} {fd : FuncData}
def hgt : PyData → Int
  | .tuple (.tuple rs :: _) => rs.length
  | _ => 0
def wid : PyData → Int
  | .tuple (.tuple (.tuple c :: _) :: _) => c.length
  | _ => 0
def faceOf (d : PyData) (h w : Int) : Bool := isFace d && (decide (hgt d = h) && decide (wid d = w))
def frFos (C : Addr) : List PyData → Rs → Prop := fun ds s => ∃ (d : PyData) (h w : Int), ds = [d, .int h, .int w] ∧ smF d ∧ s = if faceOf d h w then .ok .none else .er C
theorem sc_fos : FnScope ["face", "height", "width", "rows"] ["face", "height", "width"] (defScope s_need_face_of_size) := ⟨rfl, rfl, rfl, by decide +kernel, rfl, by decide +kernel, by decide +kernel⟩
theorem face_form {d : PyData} (h : isFace d = true) : ∃ c0 rs a b, d = .tuple [.tuple (.tuple c0 :: rs), a, b] := by
  unfold isFace at h
  split at h
  · rename_i x a b
    simp only [Bool.and_eq_true] at h
    obtain ⟨c0, rs, rfl⟩ := rows_of h.1
    exact ⟨c0, rs, a, b, rfl⟩
  · cases h
theorem ok_fos (F : Df K "need_face_of_size" s_need_face_of_size f fd) (hm : mg "need_face_of_size" = some (.ref f)) (B : Bl mg) (X1 : ExcF K mg "BadFace" C) (G1 : DefOk P w K mg base 5 "need_face" (frFace C)) : DefOk P w K mg base 6 "need_face_of_size" (frFos C) := by
  refine def_ok F hm sc_fos (fun _ _ _ _ _ _ us hl => match us, hl with | [_, _, _], _ => rfl) (fun ds r h => by obtain ⟨_, _, _, rfl, _⟩ := h; rfl) (fun cdv A outer s H E qs ds r0 hr h => ?_)
  obtain ⟨d, h, wd, rfl, sm, rfl⟩ := h
  have tk : L2N.Takes (cxOf (L2N.CX P w) P w K mg base ["face", "height", "width", "rows"] "need_face_of_size" (defScope s_need_face_of_size) f cdv A outer s H E) (WOf E) := L2N.takes_of rfl rfl rfl rfl
  refine sd_callX G1 hr tk (pds_cons (pd_var 0) pds_nil) ⟨d, rfl, rfl, sm⟩ (fun d1 e1 => ?_) (fun Z e1 => ?_)
  · have hf : isFace d = true := by
      cases e : isFace d with
      | true => rfl
      | false =>
        rw [e] at e1
        cases e1
    obtain ⟨c0, rs, a, b, rfl⟩ := face_form hf
    refine sd_set 3 (pd_ixT (pd_var 0) pd_int atI0) ?_ sc_fos.nd
    refine sd_if (PWd.pt (pw_ord (pt_cmpd op_ne rd_neI (pd_lenT B.len (pd_var 3)) (pd_var 1) (nomark _)) (fun _ => pw_or1d (pt_cmpd op_ne rd_neI (pd_lenT B.len (pd_ixT (pd_var 3) pd_int atI0)) (pd_var 2) (nomark _))))) (fun hk => ?_) (fun hk => sd_nil (sd_nil ?_))
    · refine sd_raise X1 tk ?_ rfl
      show (if faceOf _ h wd = true then Rs.ok PyData.none else Rs.er C) = Rs.er C
      rw [if_neg]
      unfold faceOf
      rw [hf]
      simp only [Bool.or_eq_true, Bool.not_eq_true', decide_eq_false_iff_not] at hk
      simp only [Bool.true_and, Bool.and_eq_true, decide_eq_true_eq]
      rintro ⟨z1, z2⟩
      rcases hk with hk | hk
      · exact hk z1
      · exact hk z2
    · show (if faceOf _ h wd = true then Rs.ok PyData.none else Rs.er C) = Rs.ok PyData.none
      rw [if_pos]
      unfold faceOf
      rw [hf]
      simp only [Bool.or_eq_false_iff, Bool.not_eq_false', decide_eq_true_eq] at hk
      simp only [Bool.true_and, Bool.and_eq_true, decide_eq_true_eq]
      exact hk
  · have hf : isFace d = false := by
      cases e : isFace d with
      | false => rfl
      | true =>
        rw [e] at e1
        cases e1
    rw [hf] at e1
    cases e1
    show (if faceOf d h wd = true then Rs.ok PyData.none else Rs.er C) = Rs.er C
    unfold faceOf
    rw [hf]
    rfl
end
section
variable {P : Program} {w : World} {K : PySem.W.Frag} {mg : Str → Option Value} {base : Heap} {f C CF CB : Addr} {fd : FuncData}
theorem Sc.hgt {s : Sc} (o : s.Ok) : hgt s.d = (s.h : Int) := by
  show ((s.rows.map PyData.tuple).length : Int) = _
  rw [List.length_map, o.len]
theorem Sc.wid {s : Sc} (o : s.Ok) : K41.wid s.d = (s.w : Int) := by
  have hl := o.len
  have hr := o.hr
  match h : s.rows, hl with
  | [], hl => simp at hl; omega
  | c0 :: rest, _ =>
    have w0 := (o.wid c0 (by rw [h]; exact List.mem_cons_self)).1
    unfold K41.wid Sc.d
    rw [h]
    show ((c0.length : Nat) : Int) = _
    rw [w0]
def frSo : List PyData → Rs → Prop := fun ds q => ∃ s : Sc, s.Ok ∧ ds = [s.d] ∧ q = .ok (.tuple [.int (s.h : Int), .int (s.w : Int)])
theorem sc_so : FnScope ["face"] ["face"] (defScope s_size_of) := ⟨rfl, rfl, rfl, by decide +kernel, rfl, by decide +kernel, by decide +kernel⟩
theorem Sc.row0 {s : Sc} (o : s.Ok) : ∃ c0 rest, s.rows = c0 :: rest ∧ c0.length = s.w := by
  have hl := o.len
  have hr := o.hr
  match h : s.rows, hl with
  | [], hl => simp at hl; omega
  | c0 :: rest, _ => exact ⟨c0, rest, rfl, (o.wid c0 (by rw [h]; exact List.mem_cons_self)).1⟩
theorem ok_so (F : Df K "size_of" s_size_of f fd) (hm : mg "size_of" = some (.ref f)) (B : Bl mg) : DefOk P w K mg base 1 "size_of" frSo := by
  refine def_ok F hm sc_so (fun _ _ _ _ _ _ us hl => match us, hl with | [_], _ => rfl) (fun ds r h => by obtain ⟨_, _, rfl, _⟩ := h; rfl) (fun cdv A outer s H E qs ds r hr h => ?_)
  obtain ⟨t, o, rfl, rfl⟩ := h
  obtain ⟨c0, rest, er, lw⟩ := Sc.row0 o
  have l1 : ((t.rows.map PyData.tuple).length : Int) = (t.h : Int) := by rw [List.length_map, o.len]
  refine sd_ret (pd_tup (pds_cons (PD.eq (pd_lenT B.len (pd_ixT (d := .tuple (t.rows.map .tuple)) (pd_var 0) pd_int atI0)) (by rw [l1])) (pds_cons (PD.eq (pd_lenT B.len (pd_ixT (d := .tuple c0) (pd_ixT (d := .tuple (t.rows.map .tuple)) (pd_var 0) pd_int atI0) pd_int (by rw [er]; exact atI0))) (by rw [lw])) pds_nil))) rfl
def frLike (C : Addr) : List PyData → Rs → Prop := fun ds q => ∃ (d : PyData) (s : Sc), s.Ok ∧ ds = [d, s.d] ∧ smF d ∧ q = if faceOf d (s.h : Int) (s.w : Int) then .ok .none else .er C
abbrev NLk : List Str := ["face", "other", "height", "width"]
theorem sc_like : FnScope NLk ["face", "other"] (defScope s_need_face_like) := ⟨rfl, rfl, rfl, by decide +kernel, rfl, by decide +kernel, by decide +kernel⟩
theorem ok_like (F : Df K "need_face_like" s_need_face_like f fd) (hm : mg "need_face_like" = some (.ref f)) (G1 : DefOk P w K mg base 1 "size_of" frSo) (G2 : DefOk P w K mg base 6 "need_face_of_size" (frFos C)) : DefOk P w K mg base 7 "need_face_like" (frLike C) := by
  refine def_ok F hm sc_like (fun _ _ _ _ _ _ us hl => match us, hl with | [_, _], _ => rfl) (fun ds r h => by obtain ⟨_, _, _, rfl, _⟩ := h; rfl) (fun cdv A outer s H E qs ds r hr h => ?_)
  obtain ⟨d, t, o, rfl, sm, rfl⟩ := h
  have tk : L2N.Takes (cxOf (L2N.CX P w) P w K mg base NLk "need_face_like" (defScope s_need_face_like) f cdv A outer s H E) (WOf E) := L2N.takes_of rfl rfl rfl rfl
  refine sd_unp [2, 3] (pd_call G1 (hr.mono (by decide)) (pds_cons (pd_var 1) pds_nil) ⟨t, o, rfl, rfl⟩) (pg_tup rfl (pgs_cons (pg_name sc_like.nd rfl (Or.inl rfl)) (pgs_cons (pg_name sc_like.nd rfl (Or.inl rfl)) pgs_nil))) rfl rfl ?_
  exact sd_callX G2 hr tk (pds_cons (pd_var 0) (pds_cons (pd_var 2) (pds_cons (pd_var 3) pds_nil))) ⟨d, _, _, rfl, sm, rfl⟩ (fun d1 e1 => sd_nil (by
    split at e1
    · rename_i hk
      show (if _ then Rs.ok PyData.none else Rs.er C) = _
      rw [if_pos hk]
    · cases e1)) (fun Z e1 => e1)
theorem face_like {f1 s : Sc} (o : f1.Ok) (e1 : f1.h = s.h) (e2 : f1.w = s.w) : faceOf f1.d (s.h : Int) (s.w : Int) = true := by
  unfold faceOf
  rw [o.fc.face, Sc.hgt o, Sc.wid o, e1, e2, decide_eq_true rfl, decide_eq_true rfl]
  rfl
def frCwr : List PyData → Rs → Prop := fun ds q => ∃ (s o : Sc) (b : Int), s.Ok ∧ o.Ok ∧ o.h = s.h ∧ o.w = s.w ∧ -10 ≤ b ∧ b ≤ 10 ∧ ds = [s.d, o.d, .int b] ∧ q = .ok (.list ((chg s o b).map Pt.d))
/-- what change_of promises: the change that is told -/
def frCo : List PyData → Rs → Prop := fun ds q => ∃ s o : Sc, s.Ok ∧ o.Ok ∧ o.h = s.h ∧ o.w = s.w ∧ ds = [s.d, o.d] ∧ q = .ok (.list ((coS s o).map Pt.d))
abbrev NCo : List Str := ["one", "other", "height", "rolls", "by"]
theorem sc_co : FnScope NCo ["one", "other"] (defScope s_change_of) := ⟨rfl, rfl, rfl, by decide +kernel, rfl, by decide +kernel, by decide +kernel⟩
theorem rg_len {h : Nat} : (rollsOf (rgI (1 - (h : Int)) ((h : Int) + 1))).length = 2 * h := by
  rw [(rolls_ok _).perm.length_eq]
  unfold rgI
  rw [List.length_map, List.length_range]
  omega
theorem putsTo_len {old new : List (List PyData)} : ∀ n, (∀ r, (new.getD r []).length ≤ 20) → (putsTo old new n).length ≤ n * 20
  | 0, _ => Nat.le_refl _
  | n + 1, h => by
    have ih := putsTo_len (old := old) n h
    have l1 : (putsAt old new n).length ≤ 20 := by
      unfold putsAt spans
      rw [List.length_map]
      have a1 := fold_len (new.getD n []) (unlike (old.getD n []) (new.getD n [])) []
      have a2 := unlike_len (old.getD n []) (new.getD n [])
      have a3 := h n
      have a4 : ([] : List (Nat × Nat)).length = 0 := rfl
      omega
    rw [putsTo_succ, List.length_append]
    omega
theorem chg_len {s o : Sc} (hs : s.Ok) (ho : o.Ok) (hh : o.h = s.h) (b : Int) : (chg s o b).length ≤ 1000 := by
  have h10 := hs.h10
  have w20 := ho.w20
  have l1 := putsTo_len (old := rollA s.rows s.w b) (new := o.rows) s.h (fun r => by
    by_cases h : r < o.h
    · rw [(ho.row_at h).2.1]
      exact w20
    · rw [List.getD_eq_getElem?_getD, List.getElem?_eq_none (by rw [ho.len]; omega)]
      exact Nat.zero_le _)
  unfold chg
  rw [List.length_append, List.length_append]
  have l2 : (if b ≠ 0 then [Pt.roll b] else []).length ≤ 1 := by split <;> simp
  have l3 : (if s.row = o.row ∧ s.col = o.col then [] else [Pt.cur o.row o.col]).length ≤ 1 := by split <;> simp
  omega
theorem ok_co (F : Df K "change_of" s_change_of f fd) (hm : mg "change_of" = some (.ref f)) (B : Bl mg) (ms : mg "sorted" = none) (ma : mg "abs" = none) (GF : DefOk P w K mg base 5 "need_face" (frFace C)) (GL : DefOk P w K mg base 7 "need_face_like" (frLike C)) (GW : DefOk P w K mg base 3 "change_with_roll" frCwr) (GC : DefOk P w K mg base 2 "cost_of_parts" frCp) : DefOk P w K mg base 8 "change_of" frCo := by
  refine def_ok F hm sc_co (fun _ _ _ _ _ _ us hl => match us, hl with | [_, _], _ => rfl) (fun ds r h => by obtain ⟨_, _, _, _, _, _, rfl, _⟩ := h; rfl) (fun cdv A outer sh H E qs ds q hr h => ?_)
  obtain ⟨s, o, os, oo, hh, hw, rfl, rfl⟩ := h
  have tk : L2N.Takes (cxOf (L2N.CX P w) P w K mg base NCo "change_of" (defScope s_change_of) f cdv A outer sh H E) (WOf E) := L2N.takes_of rfl rfl rfl rfl
  have h10 := os.h10
  have hr0 := os.hr
  refine sd_callX GF (hr.mono (by decide)) tk (pds_cons (pd_var 0) pds_nil) ⟨s.d, rfl, rfl, os.fc.small⟩ (fun d1 e1 => ?_) (fun Z e1 => ?_)
  · refine sd_callX GL (hr.mono (by decide)) tk (pds_cons (pd_var 1) (pds_cons (pd_var 0) pds_nil)) ⟨o.d, s, os, rfl, oo.fc.small, rfl⟩ (fun d2 e2 => ?_) (fun Z e2 => ?_)
    · refine sd_set 2 (d := .int (s.h : Int)) (PD.eq (pd_lenT B.len (pd_ixT (d := .tuple (s.rows.map .tuple)) (pd_var 0) pd_int atI0)) (by rw [List.length_map, os.len])) ?_ sc_co.nd
      refine sd_ownP 3 (pn_sortedAbs (i := 1 - (s.h : Int)) (j := (s.h : Int) + 1) rfl ms B.range ma (pd_sub pd_int (pd_var 2)) (pd_add (pd_var 2) pd_int) ⟨by omega, by omega, by omega, by omega, by omega⟩ (by omega)) (fun D hD => ?_) sc_co.nd
      have rl := rg_len (h := s.h)
      have ro := rolls_ok (rgI (1 - (s.h : Int)) ((s.h : Int) + 1))
      have ecl : (coL s o).map (fun ps => PyData.list (ps.map Pt.d)) = (rollsOf (rgI (1 - (s.h : Int)) ((s.h : Int) + 1))).map fun b => .list ((chg s o b).map Pt.d) := by
        unfold coL
        rw [List.map_map]
        rfl
      have cln : (coL s o).length = 2 * s.h := by unfold coL; rw [List.length_map, rl]
      refine sd_ret (d := .list ((coS s o).map Pt.d)) (pd_minK (kf := fun i => costs ((coL s o).getD i [])) GC (hr.mono (by decide)) rfl B.min (ds := (coL s o).map fun ps => PyData.list (ps.map Pt.d)) (pn_lc (y := "by") (j := 4) (items := (rollsOf (rgI (1 - (s.h : Int)) ((s.h : Int) + 1))).map .int) rfl sc_co.nd (ws_lst (pl_var 3 List.mem_cons_self)) (by rw [List.length_map, List.length_map, cln, rl]) (blkOk_by (N := NCo) (sc := defScope s_change_of) (by decide +kernel)) (fun _ _ _ _ _ => pg_name sc_co.nd rfl (Or.inl rfl)) ?el (by rw [List.length_map, rl]; omega)) (by rw [List.length_map, cln]; omega) ?cost ?best) rfl
      case el =>
        intro i d y hd hy D o2 s2 H C cl fp
        rw [ecl, List.getElem?_map] at hy
        rw [List.getElem?_map] at hd
        cases e : (rollsOf (rgI (1 - (s.h : Int)) ((s.h : Int) + 1)))[i]? with
        | none => rw [e] at hd; cases hd
        | some b =>
          rw [e] at hd hy
          cases hd
          cases hy
          have hb := rg_mem.mp (ro.perm.mem_iff.mp (List.mem_of_getElem? e))
          exact pd_call GW (hr.mono (by decide)) (pds_cons (pd_var 0) (pds_cons (pd_var 1) (pds_cons (pd_var 4) pds_nil))) ⟨s, o, b, os, oo, hh, hw, by omega, by omega, rfl, rfl⟩
      case cost =>
        intro i e he
        rw [List.getElem?_map] at he
        cases ei : (coL s o)[i]? with
        | none => rw [ei] at he; cases he
        | some ps =>
          rw [ei] at he
          cases he
          have eg : (coL s o).getD i [] = ps := by rw [List.getD_eq_getElem?_getD, ei]; rfl
          have em := List.mem_of_getElem? ei
          unfold coL at em
          obtain ⟨b, hb, rfl⟩ := List.mem_map.mp em
          have hb := rg_mem.mp (ro.perm.mem_iff.mp hb)
          exact ⟨_, chg_ok os oo hh hw (by omega) (by omega), chg_len os oo hh b, rfl, by show _ = Rs.ok (.int (costs (chg s o b))); rw [← eg]⟩
      case best =>
        intro i e he hbst
        rw [List.getElem?_map] at he
        rw [List.length_map] at hbst
        cases ei : (coL s o)[i]? with
        | none => rw [ei] at he; cases he
        | some ps =>
          rw [ei] at he
          cases he
          have b : Best (coL s o) i := ⟨(List.getElem?_eq_some_iff.mp ei).1, hbst⟩
          have := bestOf_is b
          unfold coS
          rw [this, List.getD_eq_getElem?_getD, ei]
          rfl
    · rw [if_pos (face_like oo hh hw)] at e2
      cases e2
  · rw [if_pos os.fc.face] at e1
    cases e1
end
end K41

namespace K41
open PySem PySem.Spec PyProof.Rows L2 FP
section
variable {P : Program} {w : World} {K : PySem.W.Frag} {mg : Str → Option Value} {base : Heap} {f : Addr} {fd : FuncData}
abbrev NCw : List Str := ["one", "other", "by", "change", "row", "old", "new", "first", "last"]
theorem sc_cw : FnScope NCw ["one", "other", "by"] (defScope s_change_with_roll) := ⟨rfl, rfl, rfl, by decide +kernel, rfl, by decide +kernel, by decide +kernel⟩
def head (b : Int) : List Pt := if b ≠ 0 then [Pt.roll b] else []
theorem chg_eq (s o : Sc) (b : Int) : chg s o b = (head b ++ putsTo (rollA s.rows s.w b) o.rows s.h) ++ (if s.row = o.row ∧ s.col = o.col then [] else [Pt.cur o.row o.col]) := rfl
theorem cut_two (x : PyData) (i j : Int) : FP.cutD [x, .int i, .int j] (some 1) none = [.int i, .int j] := rfl
theorem eqv_two (i j k l : Int) : PyData.eqv (.tuple [.int i, .int j]) (.tuple [.int k, .int l]) = (decide (i = k) && decide (j = l)) := by
  have e : PyData.eqv (.tuple [.int i, .int j]) (.tuple [.int k, .int l]) = ((i == k) && ((j == l) && true)) := by simp only [PyData.eqv, PyData.eqvAll]
  rw [e, Bool.and_true]
  congr 1 <;> (rw [beq_eq_decide])
theorem ok_cwr (F : Df K "change_with_roll" s_change_with_roll f fd) (hm : mg "change_with_roll" = some (.ref f)) (me : mg "enumerate" = none) (mz : mg "zip" = none) (GR : DefOk P w K mg base 2 "rolled" frRoll) (GP : DefOk P w K mg base 1 "put_of" frPo) (GS : DefOk P w K mg base 2 "spans_to_put" frSp) : DefOk P w K mg base 3 "change_with_roll" frCwr := by
  refine def_ok F hm sc_cw (fun _ _ _ _ _ _ us hl => match us, hl with | [_, _, _], _ => rfl) (fun ds r h => by obtain ⟨_, _, _, _, _, _, _, _, _, rfl, _⟩ := h; rfl) (fun cdv A outer sh H E qs ds q hr h => ?_)
  obtain ⟨s, o, b, os, oo, hh, hw, b1, b2, rfl, rfl⟩ := h
  have h10 := os.h10
  have ro := rolled_ok os b
  have w20 := oo.w20
  have plen : ∀ n, n ≤ s.h → (putsTo (rollA s.rows s.w b) o.rows n).length ≤ 200 := fun n hn => Nat.le_trans (putsTo_len n fun r => by
    by_cases h : r < o.h
    · rw [(oo.row_at h).2.1]; exact w20
    · rw [List.getD_eq_getElem?_getD, List.getElem?_eq_none (by rw [oo.len]; omega)]; exact Nat.zero_le _) (by omega)
  have hd1 : (head b).length ≤ 1 := by unfold head; split <;> simp
  refine sd_ownP 3 (ds := (head b).map Pt.d) (pn_ifE (pt_cmpd op_ne rd_neI (pd_var 2) pd_int (nomark _)) (fun hk => ?c1) (fun hk => ?c2)) (fun D hD => ?_) sc_cw.nd
  case c1 =>
    have hk : b ≠ 0 := by simpa using hk
    unfold head
    rw [if_pos hk]
    exact pn_lst (pds_cons (pd_tup (pds_cons pd_str (pds_cons (pd_var 2) pds_nil))) pds_nil) (by show 1 ≤ 1000; decide)
  case c2 =>
    have hk : b = 0 := by simpa using hk
    unfold head
    rw [if_neg (by simpa using hk)]
    exact pn_lst pds_nil
  refine sd_forEZ 4 5 6 (xs := (rollA s.rows s.w b).map .tuple) (ys := o.rows.map .tuple) (fun i δ' ω' => ω' = ⟨qs, [(D, .lst (((head b ++ putsTo (rollA s.rows s.w b) o.rows i).map Pt.d).map .im))]⟩ ∧ ∃ y4 y5 y6, δ' = [some (.im s.d), some (.im o.d), some (.im (.int b)), some (.ad D), y4, y5, y6, none, none]) me mz
    (pd_call GR (hr.mono (by decide)) (pds_cons (pd_ixT (d := .tuple (s.rows.map .tuple)) (pd_var 0) pd_int atI0) (pds_cons (pd_var 2) pds_nil)) (roll_call os (by omega) (by omega)))
    (pd_ixT (d := .tuple (o.rows.map .tuple)) (pd_var 1) pd_int atI0) (by rw [List.length_map, List.length_map, rollA_len, os.len, oo.len, hh]) ⟨by rw [show putsTo (rollA s.rows s.w b) o.rows 0 = [] from rfl, List.append_nil]; rfl, _, _, _, rfl⟩ ?bd ?rest (pg_tup rfl (pgs_cons (pg_name sc_cw.nd rfl (Or.inr rfl)) (pgs_cons (pg_tup rfl (pgs_cons (pg_name sc_cw.nd rfl (Or.inl rfl)) (pgs_cons (pg_name sc_cw.nd rfl (Or.inr rfl)) pgs_nil))) pgs_nil))) (passes_of rfl) rfl
  case bd =>
    rintro i x y δ' ω' hx hy ⟨rfl, y4, y5, y6, rfl⟩
    have hi : i < s.h := by
      have := (List.getElem?_eq_some_iff.mp hx).1
      rw [List.length_map, rollA_len, os.len] at this
      exact this
    obtain ⟨a1, a2, a3⟩ := ro.row_at hi
    obtain ⟨c1, c2, c3⟩ := oo.row_at (show i < o.h by omega)
    rw [List.getElem?_map, a1] at hx
    rw [List.getElem?_map, c1] at hy
    obtain rfl : x = .tuple ((rollA s.rows s.w b).getD i []) := by cases hx; rfl
    obtain rfl : y = .tuple (o.rows.getD i []) := by cases hy; rfl
    clear hx hy
    have a2 : ((rollA s.rows s.w b).getD i []).length = s.w := a2
    have a3 : ∀ y ∈ (rollA s.rows s.w b).getD i [], isCell y = true := a3
    generalize hold : (rollA s.rows s.w b).getD i [] = old at *
    generalize hnew : o.rows.getD i [] = new at *
    have ep : putsAt (rollA s.rows s.w b) o.rows i = (spans old new).map (putOf i new) := by unfold putsAt; rw [hold, hnew]
    have lsp : (spans old new).length ≤ 20 := by
      have z1 := fold_len new (unlike old new) []
      have z2 := unlike_len old new
      have z3 : ([] : List (Nat × Nat)).length = 0 := rfl
      unfold spans
      omega
    have l1 := plen i (by omega)
    refine sd_extS (j := 0) (ps1_var 3) rfl (pn_lc2 (n1 := "first") (n2 := "last") (j1 := 7) (j2 := 8) (ls := (spans old new).map fun p => (PyData.int (p.1 : Int), PyData.int (p.2 : Int))) (zs := ((spans old new).map (putOf i new)).map Pt.d) rfl sc_cw.nd (PWk.ws (wk_lst (PD.eq (pd_call GS hr (pds_cons (pd_var 5) (pds_cons (pd_var 6) pds_nil)) ⟨old, new, by omega, a3, c3, by omega, rfl, rfl⟩) ?e1))) (by simp) (by rw [List.length_map]; omega) (blkOk_by (N := NCw) (sc := defScope s_change_with_roll) (by decide +kernel)) (fun _ _ _ _ _ => pg_tup rfl (pgs_cons (pg_name sc_cw.nd rfl (Or.inl rfl)) (pgs_cons (pg_name sc_cw.nd rfl (Or.inl rfl)) pgs_nil))) ?el) (sd_nil ⟨?e2, _, _, _, rfl⟩) (by rw [List.length_map, List.length_map, List.length_append, List.length_map, List.length_map]; omega)
    case e1 =>
      rw [List.map_map]
      rfl
    case e2 =>
      have e9 : ((head b ++ putsTo (rollA s.rows s.w b) o.rows (i + 1)).map Pt.d).map Sd.im = ((head b ++ putsTo (rollA s.rows s.w b) o.rows i).map Pt.d).map Sd.im ++ (((spans old new).map (putOf i new)).map Pt.d).map Sd.im := by
        rw [putsTo_succ, ep, ← List.append_assoc, List.map_append (l₂ := List.map _ (spans old new)), List.map_append]
      rw [e9]
      rfl
    case el =>
      intro k l m z hl hz D o2 s2 H2 C2 cl fp
      rw [List.getElem?_map] at hl
      rw [List.getElem?_map, List.getElem?_map] at hz
      cases e : (spans old new)[k]? with
      | none => rw [e] at hl; cases hl
      | some p =>
        rw [e] at hl hz
        cases hl
        cases hz
        exact pd_call GP (hr.mono (by decide)) (pds_cons (pd_var 4) (pds_cons (pd_var 7) (pds_cons (pd_var 8) (pds_cons (pd_var 6) pds_nil)))) ⟨i, p.1, p.2, new, spans_ok p (List.mem_of_getElem? e), c3, by omega, rfl, rfl⟩
  case rest =>
    rintro δ' ω' ⟨rfl, y4, y5, y6, rfl⟩
    have el : ((rollA s.rows s.w b).map PyData.tuple).length = s.h := by rw [List.length_map, rollA_len, os.len]
    rw [el]
    have l1 := plen s.h (Nat.le_refl _)
    refine sd_if (pt_cmpd (op_neD hr.units) (rd_neD ((Shp.tup (n := 0) (ds := [.int (s.row : Int), .int (s.col : Int)]) fun x hx => ?s1).ok (by decide)) ((Shp.tup (n := 0) (ds := [.int (o.row : Int), .int (o.col : Int)]) fun x hx => ?s2).ok (by decide))) (PD.eq (pd_slT (i := some 1) (j := none) (pd_var 0) ⟨_, rfl, pd_int⟩ rfl) (by rw [cut_two])) (PD.eq (pd_slT (i := some 1) (j := none) (pd_var 1) ⟨_, rfl, pd_int⟩ rfl) (by rw [cut_two])) (nomark _)) (fun hk => ?_) (fun hk => ?_)
    case s1 =>
      simp only [List.mem_cons, List.not_mem_nil, or_false] at hx
      rcases hx with rfl | rfl <;> exact .int _
    case s2 =>
      simp only [List.mem_cons, List.not_mem_nil, or_false] at hx
      rcases hx with rfl | rfl <;> exact .int _
    · rw [eqv_two] at hk
      have hn : ¬ (s.row = o.row ∧ s.col = o.col) := fun ⟨z1, z2⟩ => by
        rw [z1, z2, decide_eq_true rfl, decide_eq_true rfl] at hk
        cases hk
      refine sd_appS (j := 0) (d := (Pt.cur o.row o.col).d) (ps1_var 3) rfl (pd_tup (pds_cons pd_str (pds_cons (pd_ixT (d := .int (o.row : Int)) (pd_var 1) pd_int atI1) (pds_cons (pd_ixT (d := .int (o.col : Int)) (pd_var 1) pd_int (atI_nat (j := 2) rfl)) pds_nil)))) (sd_nil (sd_retP 3 (xs := (chg s o b).map Pt.d) ?_ hD rfl)) (by rw [List.length_map, List.length_map, List.length_append]; omega)
      have e9 : ((chg s o b).map Pt.d).map Sd.im = ((head b ++ putsTo (rollA s.rows s.w b) o.rows s.h).map Pt.d).map Sd.im ++ [Sd.im (Pt.cur o.row o.col).d] := by
        rw [chg_eq, if_neg hn, List.map_append (l₂ := [Pt.cur o.row o.col]), List.map_append]
        rfl
      rw [e9]
      exact List.mem_cons_self
    · rw [eqv_two] at hk
      have hy : s.row = o.row ∧ s.col = o.col := by
        have hk : (decide ((s.row : Int) = (o.row : Int)) && decide ((s.col : Int) = (o.col : Int))) = true := by simpa using hk
        rw [Bool.and_eq_true] at hk
        exact ⟨by have := of_decide_eq_true hk.1; omega, by have := of_decide_eq_true hk.2; omega⟩
      refine sd_nil (sd_retP 3 (xs := (chg s o b).map Pt.d) ?_ hD rfl)
      rw [chg_eq, if_pos hy, List.append_nil]
      exact List.mem_cons_self
end
end K41

namespace K41
open PySem PySem.Spec PyProof.Rows L2 FP
theorem coS_le {s o : Sc} (h1 : 1 ≤ s.h) {b : Int} (hb1 : 1 - (s.h : Int) ≤ b) (hb2 : b ≤ (s.h : Int)) : costs (coS s o) ≤ costs (chg s o b) := by
  obtain ⟨i, B⟩ := bestOf_ex (coL_pos (o := o) h1)
  have e := bestOf_is B
  have hm := (rolls_ok (rgI (1 - (s.h : Int)) ((s.h : Int) + 1))).perm.mem_iff.mpr (rg_mem.mpr ⟨hb1, by omega⟩)
  obtain ⟨j, hj⟩ := List.getElem?_of_mem hm
  have ej : (coL s o)[j]? = some (chg s o b) := by unfold coL; rw [List.getElem?_map, hj]; rfl
  have := (B.best j (List.getElem?_eq_some_iff.mp ej).1).1
  unfold coS
  rw [e]
  rw [List.getD_eq_getElem?_getD (i := j), ej] at this
  exact this
/-- a roll by as many rows as there are, or more, leaves blank ones -/
theorem roll_far {rs : List (List PyData)} {w : Nat} {b : Int} (h : (rs.length : Int) ≤ b ∨ b ≤ -(rs.length : Int)) : rollA rs w b = List.replicate rs.length (blankR w) := by
  unfold rollA
  split
  · unfold pushA
    rw [List.take_zero, List.nil_append, List.drop_zero, List.take_append_of_le_length (by rw [List.length_replicate]; omega), List.take_replicate]
    congr 1
    omega
  · unfold pullA
    rw [List.take_zero, List.nil_append, List.drop_eq_nil_of_le (by omega)]
    rfl
/-- every roll is as one that is looked at -/
theorem roll_near {s : Sc} (hs : s.Ok) {b : Int} (hb : b ≠ 0) : ∃ b', b' ≠ 0 ∧ 1 - (s.h : Int) ≤ b' ∧ b' ≤ (s.h : Int) ∧ rollA s.rows s.w b' = rollA s.rows s.w b := by
  have hr := hs.hr
  have hl := hs.len
  by_cases h : 1 - (s.h : Int) ≤ b ∧ b ≤ (s.h : Int)
  · exact ⟨b, hb, h.1, h.2, rfl⟩
  · refine ⟨(s.h : Int), by omega, by omega, Int.le_refl _, ?_⟩
    rw [roll_far (b := (s.h : Int)) (.inl (by omega)), roll_far (b := b) (by omega)]
def spC (sp : List (Nat × Nat)) : Nat := (sp.map fun p => 4 + (p.2 + 1 - p.1)).sum
theorem spC_app (a b : List (Nat × Nat)) : spC (a ++ b) = spC a + spC b := by
  unfold spC
  rw [List.map_append, List.sum_append]
theorem puts_cost {r : Nat} {new : List PyData} : ∀ {sp : List (Nat × Nat)}, (∀ p ∈ sp, SpanOk new p) → costs (sp.map (putOf r new)) = (spC sp : Int)
  | [], _ => rfl
  | p :: sp, h => by
    have ih := puts_cost (r := r) fun q hq => h q (List.mem_cons_of_mem _ hq)
    have e := textOf_len (h p List.mem_cons_self)
    have e1 : costs ((p :: sp).map (putOf r new)) = (((putOf r new p).cost : Nat) : Int) + costs (sp.map (putOf r new)) := rfl
    have e2 : (putOf r new p).cost = 4 + (textOf new p).length := rfl
    have e3 : spC (p :: sp) = 4 + (p.2 + 1 - p.1) + spC sp := rfl
    rw [e1, ih, e2, e, e3]
    omega
end K41

namespace K41
open PySem PySem.Spec PyProof.Rows L2 FP
def eqA (old new : List PyData) (x : Nat) : Bool := PyData.eqv (old.getD x .none) (new.getD x .none)
structure IsDp (old new : List PyData) (D : Nat → Nat) : Prop where
  zero : D new.length = 0
  skip : ∀ x, x < new.length → eqA old new x = true → D x ≤ D (x + 1)
  put : ∀ x e, x < e → e ≤ new.length → alike new x (e - 1) → D x ≤ 4 + (e - x) + D e
  is : ∀ x, x < new.length → (eqA old new x = true ∧ D x = D (x + 1)) ∨ ∃ e, x < e ∧ e ≤ new.length ∧ alike new x (e - 1) ∧ D x = 4 + (e - x) + D e
/-- what is still to be paid, the last put ending at s -/
def inc (cs : List PyData) : Option Nat → List Nat → Nat
  | _, [] => 0
  | none, x :: us => 5 + inc cs (some x) us
  | some e, x :: us => (if worth cs e x = true then x - e else 5) + inc cs (some x) us
def endOf (sp : List (Nat × Nat)) : Option Nat := sp.getLast?.map (·.2)
theorem spC_one (p : Nat × Nat) : spC [p] = 4 + (p.2 + 1 - p.1) := rfl
theorem inc_is (cs : List PyData) : ∀ (us : List Nat) (sp : List (Nat × Nat)), us.Pairwise (· < ·) → (∀ p ∈ sp.getLast?, p.1 ≤ p.2 ∧ ∀ x ∈ us, p.2 < x) → spC (us.foldl (stepS cs) sp) = spC sp + inc cs (endOf sp) us
  | [], sp, _, _ => by
    show spC sp = spC sp + inc cs (endOf sp) []
    cases endOf sp <;> rfl
  | x :: us, sp, hp, h => by
    obtain ⟨p1, p2⟩ := List.pairwise_cons.mp hp
    rcases List.eq_nil_or_concat sp with e | ⟨sp0, p, e⟩
    · subst e
      have ih := inc_is cs us [(x, x)] p2 fun p hp => by
        cases hp
        exact ⟨Nat.le_refl _, p1⟩
      show spC (us.foldl (stepS cs) [(x, x)]) = 0 + (5 + inc cs (some x) us)
      rw [ih, spC_one]
      show 4 + (x + 1 - x) + inc cs (some x) us = _
      omega
    · rw [List.concat_eq_append] at e
      subst e
      have hl : (sp0 ++ [p]).getLast? = some p := by rw [List.getLast?_append]; rfl
      obtain ⟨le, lt⟩ := h p (by rw [hl]; rfl)
      have lx := lt x List.mem_cons_self
      have eo : endOf (sp0 ++ [p]) = some p.2 := by unfold endOf; rw [hl]; rfl
      have es : stepS cs (sp0 ++ [p]) x = if worth cs p.2 x = true then sp0 ++ [(p.1, x)] else (sp0 ++ [p]) ++ [(x, x)] := by
        unfold stepS
        rw [hl]
        show (if worth cs p.2 x = true then (sp0 ++ [p]).dropLast ++ [(p.1, x)] else _) = _
        rw [List.dropLast_concat]
      rw [List.foldl_cons, es, eo]
      show _ = _ + ((if worth cs p.2 x = true then x - p.2 else 5) + inc cs (some x) us)
      have last : ∀ (a : List (Nat × Nat)) (q : Nat × Nat), (a ++ [q]).getLast? = some q := fun a q => by rw [List.getLast?_append]; rfl
      by_cases hw : worth cs p.2 x = true
      · rw [if_pos hw, if_pos hw, inc_is cs us (sp0 ++ [(p.1, x)]) p2 fun q hq => by
          rw [last] at hq
          cases hq
          exact ⟨by show p.1 ≤ x; omega, p1⟩]
        have eo2 : endOf (sp0 ++ [(p.1, x)]) = some x := by unfold endOf; rw [last]; rfl
        rw [eo2, spC_app, spC_app, spC_one, spC_one]
        show spC sp0 + (4 + (x + 1 - p.1)) + _ = spC sp0 + (4 + (p.2 + 1 - p.1)) + _
        omega
      · rw [if_neg hw, if_neg hw, inc_is cs us ((sp0 ++ [p]) ++ [(x, x)]) p2 fun q hq => by
          rw [last] at hq
          cases hq
          exact ⟨Nat.le_refl _, p1⟩]
        have eo2 : endOf ((sp0 ++ [p]) ++ [(x, x)]) = some x := by unfold endOf; rw [last]; rfl
        rw [eo2, spC_app (sp0 ++ [p]), spC_one (x, x)]
        show _ + (4 + (x + 1 - x)) + _ = _
        omega
theorem worth_is {cs : List PyData} {a b lo hi : Nat} (al : alike cs lo hi) (h1 : lo ≤ a) (h2 : a < b) (h3 : b ≤ hi) : worth cs a b = decide ((b : Int) - (a : Int) - 1 < 4) := by
  have z : alike cs a b := fun i i1 i2 => (al i (by omega) (by omega)).trans (al a h1 (by omega)).symm
  unfold worth
  rw [decide_eq_true z, Bool.and_true]
/-- within one ink -/
theorem inc_run {cs : List PyData} {lo hi : Nat} (al : alike cs lo hi) : ∀ (us1 : List Nat) (y : Nat) (us2 : List Nat), (y :: us1).Pairwise (· < ·) → (∀ x ∈ y :: us1, lo ≤ x ∧ x ≤ hi) → ∃ z, y ≤ z ∧ z ≤ hi ∧ inc cs (some y) (us1 ++ us2) ≤ (z - y) + inc cs (some z) us2
  | [], y, us2, _, hb => ⟨y, Nat.le_refl _, (hb y List.mem_cons_self).2, by rw [List.nil_append]; omega⟩
  | x :: us1, y, us2, hp, hb => by
    obtain ⟨p1, p2⟩ := List.pairwise_cons.mp hp
    have lt := p1 x List.mem_cons_self
    have by_ := hb y List.mem_cons_self
    have bx := hb x (List.mem_cons_of_mem _ List.mem_cons_self)
    obtain ⟨z, z1, z2, z3⟩ := inc_run al us1 x us2 p2 fun q hq => hb q (List.mem_cons_of_mem _ hq)
    refine ⟨z, by omega, z2, ?_⟩
    show (if worth cs y x = true then x - y else 5) + inc cs (some x) (us1 ++ us2) ≤ _
    rw [worth_is al by_.1 lt bx.2]
    by_cases g : (x : Int) - (y : Int) - 1 < 4
    · rw [if_pos (decide_eq_true g)]
      omega
    · rw [if_neg (by rw [decide_eq_true_eq]; exact g)]
      omega
theorem inc_first (cs : List PyData) (s : Option Nat) (x : Nat) (us : List Nat) : inc cs s (x :: us) ≤ 5 + inc cs (some x) us := by
  cases s with
  | none => exact Nat.le_refl _
  | some e =>
    show (if worth cs e x = true then x - e else 5) + inc cs (some x) us ≤ _
    by_cases w : worth cs e x = true
    · rw [if_pos w]
      unfold worth at w
      rw [Bool.and_eq_true] at w
      have := of_decide_eq_true w.1
      omega
    · rw [if_neg w]
      exact Nat.le_refl _
theorem inc_le {old new : List PyData} {D : Nat → Nat} (dp : IsDp old new D) : ∀ (k x : Nat) (s : Option Nat) (us : List Nat), new.length - x = k → us.Pairwise (· < ·) → (∀ y ∈ us, x ≤ y ∧ y < new.length ∧ eqA old new y = false) → inc new s us ≤ D x
  | k, x, s, [], _, _, _ => by cases s <;> exact Nat.zero_le _
  | k, x, s, y :: us, hk, hp, hu => by
    have y1 := hu y List.mem_cons_self
    have hx : x < new.length := by omega
    rcases dp.is x hx with ⟨e, ed⟩ | ⟨e, e1, e2, al, ed⟩
    · rw [ed]
      refine inc_le dp (new.length - (x + 1)) (x + 1) s (y :: us) rfl hp fun q hq => ?_
      obtain ⟨a, b, c⟩ := hu q hq
      refine ⟨?_, b, c⟩
      rcases Nat.lt_or_ge x q with l | l
      · exact l
      · have : q = x := by omega
        subst this
        rw [e] at c
        cases c
    · rw [ed]
      -- those before e, and the others
      have split : ∀ (l : List Nat), l.Pairwise (· < ·) → ∃ a b, l = a ++ b ∧ (∀ q ∈ a, q < e) ∧ ∀ q ∈ b, e ≤ q := by
        intro l
        induction l with
        | nil => exact fun _ => ⟨[], [], rfl, (fun q hq => by cases hq), (fun q hq => by cases hq)⟩
        | cons z l ih =>
          intro hl
          obtain ⟨l1, l2⟩ := List.pairwise_cons.mp hl
          rcases Nat.lt_or_ge z e with c | c
          · obtain ⟨a, b, rfl, ha, hb⟩ := ih l2
            refine ⟨z :: a, b, rfl, fun q hq => ?_, hb⟩
            rcases List.mem_cons.mp hq with w | w
            · rw [w]; exact c
            · exact ha q w
          · refine ⟨[], z :: l, rfl, (fun q hq => by cases hq), fun q hq => ?_⟩
            rcases List.mem_cons.mp hq with w | w
            · rw [w]; exact c
            · have := l1 q w
              omega
      obtain ⟨a, b, eab, ha, hb⟩ := split (y :: us) hp
      have hub : ∀ q ∈ b, e ≤ q ∧ q < new.length ∧ eqA old new q = false := fun q hq => ⟨hb q hq, (hu q (by rw [eab]; exact List.mem_append_right _ hq)).2⟩
      have hpb : b.Pairwise (· < ·) := by
        rw [eab] at hp
        exact (List.pairwise_append.mp hp).2.1
      cases a with
      | nil =>
        rw [List.nil_append] at eab
        rw [eab]
        exact Nat.le_trans (inc_le dp (new.length - e) e s b rfl hpb hub) (Nat.le_add_left _ _)
      | cons z a =>
        rw [List.cons_append] at eab
        have ey : y = z := (List.cons.inj eab).1
        have eu : us = a ++ b := (List.cons.inj eab).2
        subst ey
        subst eu
        have hpa : (y :: a).Pairwise (· < ·) := by
          have hp2 : ((y :: a) ++ b).Pairwise (· < ·) := hp
          exact (List.pairwise_append.mp hp2).1
        obtain ⟨z, z1, z2, z3⟩ := inc_run (hi := e - 1) al a y b hpa fun q hq => ⟨(hu q (by rcases List.mem_cons.mp hq with w | w; rw [w]; exact List.mem_cons_self; exact List.mem_cons_of_mem _ (List.mem_append_left _ w))).1, by have := ha q hq; omega⟩
        have f := inc_first new s y (a ++ b)
        have ih := inc_le dp (new.length - e) e (some z) b rfl hpb hub
        omega
termination_by k => k
decreasing_by all_goals omega
theorem dp_le {old new : List PyData} {D : Nat → Nat} (dp : IsDp old new D) : ∀ (k x : Nat) (sps : List (Nat × Nat)), new.length - x = k → x ≤ new.length → (∀ p ∈ sps, x ≤ p.1 ∧ SpanOk new p) → sps.Pairwise (fun p q => p.2 < q.1) → (∀ y, x ≤ y → y < new.length → eqA old new y = false → ∃ p ∈ sps, p.1 ≤ y ∧ y ≤ p.2) → D x ≤ spC sps
  | k, x, sps, hk, hx, hs, hp, hc => by
    rcases Nat.lt_or_ge x new.length with lt | ge
    · have free : (∀ p ∈ sps, x < p.1) → D x ≤ spC sps := fun nf => by
        have e : eqA old new x = true := by
          cases q : eqA old new x with
          | true => rfl
          | false =>
            obtain ⟨p, hpm, a, b⟩ := hc x (Nat.le_refl _) lt q
            have := nf p hpm
            omega
        refine Nat.le_trans (dp.skip x lt e) (dp_le dp (new.length - (x + 1)) (x + 1) sps rfl lt (fun p hpm => ⟨nf p hpm, (hs p hpm).2⟩) hp fun y y1 y2 y3 => hc y (by omega) y2 y3)
      cases sps with
      | nil => exact free fun p hpm => by cases hpm
      | cons p r =>
        obtain ⟨q1, q2⟩ := List.pairwise_cons.mp hp
        obtain ⟨a, ok⟩ := hs p List.mem_cons_self
        have le := ok.le
        have lt2 := ok.lt
        rcases Nat.lt_or_ge x p.1 with l | l
        · refine free fun q hq => ?_
          rcases List.mem_cons.mp hq with w | w
          · rw [w]; exact l
          · have := q1 q w
            omega
        · have ex : x = p.1 := by omega
          have h1 := dp.put x (p.2 + 1) (by omega) (by omega) (by rw [ex, Nat.add_sub_cancel]; exact ok.ink)
          have h2 := dp_le dp (new.length - (p.2 + 1)) (p.2 + 1) r rfl (by omega) (fun q hq => ⟨q1 q hq, (hs q (List.mem_cons_of_mem _ hq)).2⟩) q2 fun y y1 y2 y3 => by
            obtain ⟨q, hq, b1, b2⟩ := hc y (by omega) y2 y3
            rcases List.mem_cons.mp hq with w | w
            · rw [w] at b2
              omega
            · exact ⟨q, w, b1, b2⟩
          have h3 : spC (p :: r) = 4 + (p.2 + 1 - p.1) + spC r := rfl
          rw [h3]
          omega
    · have : x = new.length := by omega
      rw [this, dp.zero]
      exact Nat.zero_le _
termination_by k => k
decreasing_by all_goals omega
/-- spans come one behind the other -/
theorem spans_sorted (cs : List PyData) : ∀ (us : List Nat) (sp : List (Nat × Nat)), us.Pairwise (· < ·) → sp.Pairwise (fun p q => p.2 < q.1) → (∀ p ∈ sp, p.1 ≤ p.2 ∧ ∀ x ∈ us, p.2 < x) → (us.foldl (stepS cs) sp).Pairwise fun p q => p.2 < q.1
  | [], sp, _, h, _ => h
  | x :: us, sp, hp, h, hl => by
    obtain ⟨p1, p2⟩ := List.pairwise_cons.mp hp
    rw [List.foldl_cons]
    rcases step_cases cs sp x with e | ⟨sp0, p, rfl, al, e⟩
    · rw [e]
      refine spans_sorted cs us _ p2 (List.pairwise_append.mpr ⟨h, List.pairwise_singleton _ _, fun a ha b hb => ?_⟩) fun q hq => ?_
      · rw [List.mem_singleton.mp hb]
        exact (hl a ha).2 x List.mem_cons_self
      · rcases List.mem_append.mp hq with z | z
        · exact ⟨(hl q z).1, fun y hy => (hl q z).2 y (List.mem_cons_of_mem _ hy)⟩
        · rw [List.mem_singleton.mp z]
          exact ⟨Nat.le_refl _, p1⟩
    · rw [e]
      obtain ⟨h1, h2, h3⟩ := List.pairwise_append.mp h
      have lp := hl p (List.mem_append_right _ List.mem_cons_self)
      have lx := lp.2 x List.mem_cons_self
      refine spans_sorted cs us _ p2 (List.pairwise_append.mpr ⟨h1, List.pairwise_singleton _ _, fun a ha b hb => ?_⟩) fun q hq => ?_
      · rw [List.mem_singleton.mp hb]
        exact h3 a ha p List.mem_cons_self
      · rcases List.mem_append.mp hq with z | z
        · have := hl q (List.mem_append_left _ z)
          exact ⟨this.1, fun y hy => this.2 y (List.mem_cons_of_mem _ hy)⟩
        · rw [List.mem_singleton.mp z]
          exact ⟨by show p.1 ≤ x; have := lp.1; omega, p1⟩
/-- a row's puts cost what they must -/
theorem dp_is {old new : List PyData} {D : Nat → Nat} (dp : IsDp old new D) : D 0 = spC (spans old new) := by
  have un : ∀ y ∈ unlike old new, y < new.length ∧ eqA old new y = false := fun y hy => by
    obtain ⟨a, b⟩ := List.mem_filter.mp hy
    exact ⟨List.mem_range.mp a, of_decide_eq_true b⟩
  have pw := unlike_pw old new
  refine Nat.le_antisymm (dp_le dp _ 0 (spans old new) rfl (Nat.zero_le _) (fun p hp => ⟨Nat.zero_le _, spans_ok p hp⟩) (spans_sorted new (unlike old new) [] pw List.Pairwise.nil fun p hp => by cases hp) fun y _ y2 y3 => ?_) ?_
  · exact (spans_inv new (unlike old new) [] (fun p hp => (List.not_mem_nil hp).elim) pw fun c hc => (un c hc).1).2.2 y (List.mem_filter.mpr ⟨List.mem_range.mpr y2, decide_eq_true y3⟩)
  · have e := inc_is new (unlike old new) [] pw fun p hp => by cases hp
    have e2 : spC (spans old new) = 0 + inc new none (unlike old new) := e
    rw [e2, Nat.zero_add]
    exact inc_le dp _ 0 none (unlike old new) rfl pw fun y hy => ⟨Nat.zero_le _, un y hy⟩
end K41

namespace K41
open PySem PySem.Spec PyProof.Rows L2 FP
def rowCs (s o : Sc) (b : Int) (n : Nat) : List Int := (List.range n).map fun r => ((spC (spans ((rollA s.rows s.w b).getD r []) (o.rows.getD r [])) : Nat) : Int)
theorem costs_puts (old new : List (List PyData)) : ∀ n, costs (putsTo old new n) = ((List.range n).map fun r => ((spC (spans (old.getD r []) (new.getD r [])) : Nat) : Int)).sum
  | 0 => rfl
  | n + 1 => by
    rw [putsTo_succ, costs_app, costs_puts old new n, List.range_succ, List.map_append, List.sum_append]
    congr 1
    unfold putsAt
    rw [puts_cost (fun p hp => spans_ok p hp), List.map_cons, List.map_nil, List.sum_cons, List.sum_nil, Int.add_zero]
def curC (s o : Sc) : Int := if s.row = o.row ∧ s.col = o.col then 0 else 3
theorem costs_chg (s o : Sc) (b : Int) : costs (chg s o b) = ((rowCs s o b s.h).sum + (if b ≠ 0 then 4 else 0)) + curC s o := by
  unfold chg
  rw [costs_app, costs_app, costs_puts]
  have e1 : costs (if b ≠ 0 then [Pt.roll b] else []) = if b ≠ 0 then 4 else 0 := by split <;> rfl
  have e2 : costs (if s.row = o.row ∧ s.col = o.col then [] else [Pt.cur o.row o.col]) = curC s o := by
    unfold curC
    split <;> rfl
  rw [e1, e2]
  unfold rowCs
  omega
def totC (s o : Sc) (b : Int) : Int := (rowCs s o b s.h).sum + (if b ≠ 0 then 4 else 0)
theorem coS_in {s o : Sc} (h1 : 1 ≤ s.h) : ∃ b : Int, 1 - (s.h : Int) ≤ b ∧ b ≤ (s.h : Int) ∧ coS s o = chg s o b := by
  obtain ⟨i, b⟩ := bestOf_ex (coL_pos (o := o) h1)
  have lt := b.lt
  have e := bestOf_is b
  unfold coL at lt e
  rw [List.length_map] at lt
  have hm := (rolls_ok (rgI (1 - (s.h : Int)) ((s.h : Int) + 1))).perm.mem_iff.mp (List.getElem_mem lt)
  have hb := rg_mem.mp hm
  refine ⟨(rollsOf (rgI (1 - (s.h : Int)) ((s.h : Int) + 1)))[i], hb.1, by omega, e.trans ?_⟩
  rw [List.getD_eq_getElem?_getD, List.getElem?_map, List.getElem?_eq_getElem lt]
  rfl
/-- the law's least is what the change costs -/
theorem least_is {s o : Sc} (hs : s.Ok) {L : List Int} (hL : ∀ y, y ∈ L ↔ ∃ b : Int, -(s.h : Int) ≤ b ∧ b ≤ (s.h : Int) ∧ y = totC s o b) {m : Int} (hm : m ∈ L) (hl : ∀ y ∈ L, m ≤ y) : m + curC s o = costs (coS s o) := by
  have h1 : 1 ≤ s.h := by have := hs.hr; omega
  refine Int.le_antisymm ?_ ?_
  · obtain ⟨b, b1, b2, e⟩ := coS_in (o := o) h1
    rw [e, costs_chg]
    have := hl (totC s o b) ((hL _).mpr ⟨b, by omega, b2, rfl⟩)
    unfold totC at this
    omega
  · obtain ⟨b, b1, b2, e⟩ := (hL m).mp hm
    obtain ⟨b', c1, c2, c3⟩ : ∃ b' : Int, 1 - (s.h : Int) ≤ b' ∧ b' ≤ (s.h : Int) ∧ totC s o b' = totC s o b := by
      by_cases z : b = 0
      · exact ⟨0, by omega, by omega, by rw [z]⟩
      · obtain ⟨b', n0, a1, a2, a3⟩ := roll_near hs z
        refine ⟨b', a1, a2, ?_⟩
        unfold totC rowCs
        rw [a3, if_pos n0, if_pos z]
    have := coS_le (o := o) h1 c1 c2
    rw [costs_chg] at this
    rw [e, ← c3]
    unfold totC
    omega
def Pt.word : Pt → Str
  | .roll _ => "roll"
  | .put _ _ _ _ => "put"
  | .cur _ _ => "cursor"
def Pt.pairs : Pt → List (Nat × Nat)
  | .put r c _ z => (List.range z.length).map fun j => (r, c + j)
  | _ => []
def putsOnly (ps : List Pt) : Prop := ∀ p ∈ ps, p.word = "put"
theorem puts_only (old new : List (List PyData)) (n : Nat) : putsOnly (putsTo old new n) := fun p hp => by
  unfold putsTo putsAt at hp
  obtain ⟨r, _, h⟩ := List.mem_flatMap.mp hp
  obtain ⟨q, _, rfl⟩ := List.mem_map.mp h
  rfl
theorem chg_form (s o : Sc) (b : Int) : ∃ a m c : List Pt, chg s o b = a ++ m ++ c ∧ putsOnly m ∧ (a = [] ∨ a = [.roll b]) ∧ (c = [] ∨ c = [.cur o.row o.col]) ∧ m = putsTo (rollA s.rows s.w b) o.rows s.h := by
  refine ⟨_, _, _, rfl, puts_only _ _ _, ?_, ?_, rfl⟩
  · by_cases z : b ≠ 0
    · rw [if_pos z]; exact .inr rfl
    · rw [if_neg z]; exact .inl rfl
  · by_cases z : s.row = o.row ∧ s.col = o.col
    · rw [if_pos z]; exact .inl rfl
    · rw [if_neg z]; exact .inr rfl
theorem only_map : ∀ {m : List Pt}, putsOnly m → m.map Pt.word = List.replicate m.length ("put" : Str)
  | [], _ => rfl
  | p :: m, h => by
    rw [List.map_cons, only_map (fun q hq => h q (List.mem_cons_of_mem _ hq)), h p List.mem_cons_self]
    rfl
theorem chg_words (s o : Sc) (b : Int) : ((chg s o b).map Pt.word).count ("roll" : Str) ≤ 1 ∧ ((chg s o b).map Pt.word).count ("cursor" : Str) ≤ 1 ∧ ("roll" : Str) ∉ ((chg s o b).map Pt.word).drop 1 ∧ ("cursor" : Str) ∉ ((chg s o b).map Pt.word).dropLast := by
  obtain ⟨a, m, c, e, hm, ha, hc, _⟩ := chg_form s o b
  rw [e, List.map_append, List.map_append, only_map hm]
  have n1 : (("put" : Str) == "roll") = false := by decide
  have n2 : (("put" : Str) == "cursor") = false := by decide
  have c1 : ∀ n, (List.replicate n ("put" : Str)).count ("roll" : Str) = 0 := fun n => by rw [List.count_replicate, if_neg (by rw [n1]; decide)]
  have c2 : ∀ n, (List.replicate n ("put" : Str)).count ("cursor" : Str) = 0 := fun n => by rw [List.count_replicate, if_neg (by rw [n2]; decide)]
  have nr : ∀ n, ("roll" : Str) ∉ List.replicate n ("put" : Str) := fun n h => by
    have := (List.mem_replicate.mp h).2
    exact absurd this (by decide)
  have nc : ∀ n, ("cursor" : Str) ∉ List.replicate n ("put" : Str) := fun n h => by
    have := (List.mem_replicate.mp h).2
    exact absurd this (by decide)
  have w1 : (Pt.roll b).word = "roll" := rfl
  have w2 : (Pt.cur o.row o.col).word = "cursor" := rfl
  rcases ha with rfl | rfl <;> rcases hc with rfl | rfl
  · simp only [List.map_nil, List.nil_append, List.append_nil]
    refine ⟨by rw [c1]; decide, by rw [c2]; decide, fun h => nr _ (List.mem_of_mem_drop h), fun h => nc _ (List.dropLast_subset _ h)⟩
  · simp only [List.map_nil, List.nil_append, List.map_cons, w2]
    refine ⟨?_, ?_, fun h => ?_, fun h => ?_⟩
    · rw [List.count_append, c1]; decide
    · rw [List.count_append, c2]; decide
    · rcases List.mem_append.mp (List.mem_of_mem_drop h) with q | q
      · exact nr _ q
      · exact absurd (List.mem_singleton.mp q) (by decide)
    · rw [List.dropLast_concat] at h
      exact nc _ h
  · simp only [List.map_nil, List.append_nil, List.map_cons, List.cons_append, List.nil_append, w1]
    refine ⟨?_, ?_, fun h => ?_, fun h => ?_⟩
    · rw [List.count_cons, c1]; decide
    · rw [List.count_cons, c2]; decide
    · exact nr _ h
    · rcases List.mem_cons.mp (List.dropLast_subset _ h) with q | q
      · exact absurd q (by decide)
      · exact nc _ q
  · simp only [List.map_nil, List.map_cons, List.cons_append, List.nil_append, w1, w2]
    refine ⟨?_, ?_, fun h => ?_, fun h => ?_⟩
    · rw [List.count_cons, List.count_append, c1]; decide
    · rw [List.count_cons, List.count_append, c2]; decide
    · rcases List.mem_append.mp h with q | q
      · exact nr _ q
      · exact absurd (List.mem_singleton.mp q) (by decide)
    · have e2 : ("roll" : Str) :: (List.replicate m.length ("put" : Str) ++ [("cursor" : Str)]) = (("roll" : Str) :: List.replicate m.length ("put" : Str)) ++ [("cursor" : Str)] := rfl
      have h : ("cursor" : Str) ∈ (("roll" : Str) :: (List.replicate m.length ("put" : Str) ++ [("cursor" : Str)])).dropLast := h
      rw [e2, List.dropLast_concat] at h
      rcases List.mem_cons.mp h with q | q
      · exact absurd q (by decide)
      · exact nc _ q
def before (p q : Nat × Nat) : Prop := p.1 < q.1 ∨ (p.1 = q.1 ∧ p.2 < q.2)
theorem put_pairs {new : List PyData} {r : Nat} {p : Nat × Nat} (ok : SpanOk new p) : (putOf r new p).pairs = (List.range (p.2 + 1 - p.1)).map fun j => (r, p.1 + j) := by
  show (List.range (textOf new p).length).map _ = _
  rw [textOf_len ok]
theorem row_pairs {new : List PyData} {r : Nat} {sp : List (Nat × Nat)} (ok : ∀ p ∈ sp, SpanOk new p) (pw : sp.Pairwise fun p q => p.2 < q.1) : ((sp.map (putOf r new)).flatMap Pt.pairs).Pairwise before ∧ ∀ q ∈ (sp.map (putOf r new)).flatMap Pt.pairs, q.1 = r ∧ q.2 < new.length := by
  have mem : ∀ p ∈ sp, ∀ q ∈ (putOf r new p).pairs, q.1 = r ∧ p.1 ≤ q.2 ∧ q.2 ≤ p.2 := fun p hp q hq => by
    have le := (ok p hp).le
    rw [put_pairs (ok p hp)] at hq
    obtain ⟨j, hj, rfl⟩ := List.mem_map.mp hq
    have hj := List.mem_range.mp hj
    exact ⟨rfl, Nat.le_add_right _ _, by show p.1 + j ≤ p.2; omega⟩
  constructor
  · rw [List.pairwise_flatMap]
    refine ⟨fun z hz => ?_, ?_⟩
    · obtain ⟨p, hp, rfl⟩ := List.mem_map.mp hz
      rw [put_pairs (ok p hp), List.pairwise_map]
      exact List.Pairwise.imp (fun {a b} h => .inr ⟨rfl, by show p.1 + a < p.1 + b; omega⟩) List.pairwise_lt_range
    · rw [List.pairwise_map]
      refine List.Pairwise.imp_of_mem (fun {p q} hp hq h x hx y hy => ?_) pw
      obtain ⟨a1, a2, a3⟩ := mem p hp x hx
      obtain ⟨b1, b2, b3⟩ := mem q hq y hy
      exact .inr ⟨a1.trans b1.symm, by omega⟩
  · intro q hq
    obtain ⟨z, hz, hq⟩ := List.mem_flatMap.mp hq
    obtain ⟨p, hp, rfl⟩ := List.mem_map.mp hz
    obtain ⟨a1, a2, a3⟩ := mem p hp q hq
    have := (ok p hp).lt
    exact ⟨a1, by omega⟩
theorem all_pairs {old new : List (List PyData)} {w : Nat} (hw : ∀ r, (new.getD r []).length ≤ w) : ∀ n, ((putsTo old new n).flatMap Pt.pairs).Pairwise before ∧ ∀ q ∈ (putsTo old new n).flatMap Pt.pairs, q.1 < n ∧ q.2 < w
  | 0 => ⟨List.Pairwise.nil, fun q hq => by cases hq⟩
  | n + 1 => by
    obtain ⟨a, b⟩ := all_pairs (old := old) hw n
    have so := spans_sorted (new.getD n []) (unlike (old.getD n []) (new.getD n [])) [] (unlike_pw _ _) List.Pairwise.nil fun p hp => by cases hp
    obtain ⟨c, d⟩ := row_pairs (r := n) (sp := spans (old.getD n []) (new.getD n [])) (fun p hp => spans_ok p hp) so
    rw [putsTo_succ, List.flatMap_append]
    refine ⟨List.pairwise_append.mpr ⟨a, c, fun x hx y hy => .inl ?_⟩, fun q hq => ?_⟩
    · rw [(d y hy).1]
      exact (b x hx).1
    · rcases List.mem_append.mp hq with z | z
      · exact ⟨Nat.lt_succ_of_lt (b q z).1, (b q z).2⟩
      · obtain ⟨e1, e2⟩ := d q z
        have := hw n
        exact ⟨by omega, by omega⟩
theorem chg_pairs {s o : Sc} (ho : o.Ok) (hh : o.h = s.h) (b : Int) : ((chg s o b).flatMap Pt.pairs).Nodup ∧ (∀ q ∈ (chg s o b).flatMap Pt.pairs, q.1 < 10 ∧ q.2 < 20) ∧ ((chg s o b).flatMap Pt.pairs).length ≤ 200 := by
  have hw : ∀ r, (o.rows.getD r []).length ≤ 20 := fun r => by
    by_cases h : r < o.h
    · rw [(ho.row_at h).2.1]
      exact ho.w20
    · rw [List.getD_eq_getElem?_getD, List.getElem?_eq_none (by rw [ho.len]; omega)]
      exact Nat.zero_le _
  have e : (chg s o b).flatMap Pt.pairs = (putsTo (rollA s.rows s.w b) o.rows s.h).flatMap Pt.pairs := by
    obtain ⟨a, m, c, e, _, ha, hc, em⟩ := chg_form s o b
    rw [e, List.flatMap_append, List.flatMap_append, ← em]
    have ea : a.flatMap Pt.pairs = [] := by rcases ha with rfl | rfl <;> rfl
    have ec : c.flatMap Pt.pairs = [] := by rcases hc with rfl | rfl <;> rfl
    rw [ea, ec, List.nil_append, List.append_nil]
  obtain ⟨p1, p2⟩ := all_pairs (old := rollA s.rows s.w b) (new := o.rows) hw s.h
  rw [e]
  have h10 : s.h ≤ 10 := by rw [← hh]; exact ho.h10
  have nd : ((putsTo (rollA s.rows s.w b) o.rows s.h).flatMap Pt.pairs).Nodup := List.Pairwise.imp (fun {x y} h e => by
    subst e
    rcases h with h | h
    · exact Nat.lt_irrefl _ h
    · exact Nat.lt_irrefl _ h.2) p1
  refine ⟨nd, fun q hq => ⟨by have := (p2 q hq).1; omega, (p2 q hq).2⟩, ?_⟩
  have nd2 : (((putsTo (rollA s.rows s.w b) o.rows s.h).flatMap Pt.pairs).map fun q => q.1 * 20 + q.2).Nodup := by
    refine List.pairwise_map.mpr (List.Pairwise.imp_of_mem (fun {x y} hx hy ne e => ne ?_) nd)
    have := (p2 x hx).2
    have := (p2 y hy).2
    exact Prod.ext (by omega) (by omega)
  have sub := L2.nat_nodup_len _ (List.range 200) nd2 fun x hx => by
    obtain ⟨q, hq, rfl⟩ := List.mem_map.mp hx
    have a := (p2 q hq).1
    have c := (p2 q hq).2
    exact List.mem_range.mpr (by show q.1 * 20 + q.2 < 200; omega)
  rw [List.length_map, List.length_range] at sub
  exact sub
end K41

namespace K41
open PySem PySem.Spec PyProof.Rows L2 FP
structure DpF (old new : List PyData) (D : Nat → Nat) (k : Nat) : Prop where
  zero : D new.length = 0
  skip : ∀ x, k ≤ x → x < new.length → eqA old new x = true → D x ≤ D (x + 1)
  put : ∀ x e, k ≤ x → x < e → e ≤ new.length → alike new x (e - 1) → D x ≤ 4 + (e - x) + D e
  is : ∀ x, k ≤ x → x < new.length → (eqA old new x = true ∧ D x = D (x + 1)) ∨ ∃ e, x < e ∧ e ≤ new.length ∧ alike new x (e - 1) ∧ D x = 4 + (e - x) + D e
theorem DpF.dp {old new : List PyData} {D : Nat → Nat} (h : DpF old new D 0) : IsDp old new D := ⟨h.zero, fun x => h.skip x (Nat.zero_le _), fun x e => h.put x e (Nat.zero_le _), fun x => h.is x (Nat.zero_le _)⟩
def stepD (D : Nat → Nat) (k v x : Nat) : Nat := if x = k then v else D x
theorem step_ne {D : Nat → Nat} {k v x : Nat} (h : x ≠ k) : stepD D k v x = D x := if_neg h
theorem step_at {D : Nat → Nat} {k v : Nat} : stepD D k v k = v := if_pos rfl
theorem DpF.step {old new : List PyData} {D : Nat → Nat} {k v : Nat} (h : DpF old new D (k + 1)) (hk : k < new.length) (s : eqA old new k = true → v ≤ D (k + 1)) (p : ∀ e, k < e → e ≤ new.length → alike new k (e - 1) → v ≤ 4 + (e - k) + D e)
    (i : (eqA old new k = true ∧ v = D (k + 1)) ∨ ∃ e, k < e ∧ e ≤ new.length ∧ alike new k (e - 1) ∧ v = 4 + (e - k) + D e) : DpF old new (stepD D k v) k := by
  refine ⟨(step_ne (by omega)).trans h.zero, fun x hx hl he => ?_, fun x e hx h1 h2 h3 => ?_, fun x hx hl => ?_⟩
  · rw [step_ne (x := x + 1) (by omega)]
    by_cases c : x = k
    · subst c
      rw [step_at]
      exact s he
    · rw [step_ne c]
      exact h.skip x (by omega) hl he
  · rw [step_ne (x := e) (by omega)]
    by_cases c : x = k
    · subst c
      rw [step_at]
      exact p e h1 h2 h3
    · rw [step_ne c]
      exact h.put x e (by omega) h1 h2 h3
  · by_cases c : x = k
    · subst c
      rw [step_at, step_ne (x := x + 1) (by omega)]
      rcases i with ⟨a, b⟩ | ⟨e, a, b, c, d⟩
      · exact .inl ⟨a, b⟩
      · exact .inr ⟨e, a, b, c, by rw [step_ne (by omega)]; exact d⟩
    · rw [step_ne c, step_ne (x := x + 1) (by omega)]
      rcases h.is x (by omega) hl with ⟨a, b⟩ | ⟨e, a, b, c, d⟩
      · exact .inl ⟨a, b⟩
      · exact .inr ⟨e, a, b, c, by rw [step_ne (by omega)]; exact d⟩
def bestL (D : Nat → Nat) (n : Nat) : List PyData := (List.range (n + 1)).map fun x => .int (D x : Int)
theorem bestL_at {D : Nat → Nat} {n x : Nat} (h : x ≤ n) : (bestL D n)[x]? = some (.int (D x : Int)) := by
  unfold bestL
  rw [List.getElem?_map, List.getElem?_range (by omega)]
  rfl
theorem bestL_len (D : Nat → Nat) (n : Nat) : (bestL D n).length = n + 1 := by
  unfold bestL
  rw [List.length_map, List.length_range]
theorem bestL_set {D : Nat → Nat} {n k v : Nat} (h : k ≤ n) : (bestL D n).set k (.int (v : Int)) = bestL (stepD D k v) n := by
  refine List.ext_getElem? fun x => ?_
  by_cases c : x = k
  · subst c
    rw [List.getElem?_set_self (by rw [bestL_len]; omega), bestL_at h, step_at]
  · rw [List.getElem?_set_ne (fun e => c e.symm)]
    by_cases l : x ≤ n
    · rw [bestL_at l, bestL_at l, step_ne c]
    · rw [List.getElem?_eq_none (by rw [bestL_len]; omega), List.getElem?_eq_none (by rw [bestL_len]; omega)]
/-- a row of numbers has a least one -/
theorem has_min : ∀ {l : List Int}, l ≠ [] → ∃ m ∈ l, ∀ y ∈ l, m ≤ y
  | [], h => absurd rfl h
  | [x], _ => ⟨x, List.mem_cons_self, fun y hy => by rw [List.mem_singleton.mp hy]; exact Int.le_refl _⟩
  | x :: y :: l, _ => by
    obtain ⟨m, hm, hl⟩ := has_min (l := y :: l) (by simp)
    by_cases c : x ≤ m
    · refine ⟨x, List.mem_cons_self, fun z hz => ?_⟩
      rcases List.mem_cons.mp hz with e | e
      · rw [e]; exact Int.le_refl _
      · exact Int.le_trans c (hl z e)
    · refine ⟨m, List.mem_cons_of_mem _ hm, fun z hz => ?_⟩
      rcases List.mem_cons.mp hz with e | e
      · rw [e]; omega
      · exact hl z e
/-- what may be had at a place -/
def opt0 (old new : List PyData) (D : Nat → Nat) (x : Nat) : List Int := if eqA old new x = true then [(D (x + 1) : Int)] else []
def optP (D : Nat → Nat) (x e : Nat) : List Int := (List.range (e - x)).map fun d => ((4 + (d + 1) + D (x + (d + 1)) : Nat) : Int)
theorem optP_succ {D : Nat → Nat} {x e : Nat} (h : x ≤ e) : optP D x (e + 1) = optP D x e ++ [((4 + (e + 1 - x) + D (e + 1) : Nat) : Int)] := by
  unfold optP
  rw [show e + 1 - x = (e - x) + 1 by omega, List.range_succ, List.map_append, List.map_cons, List.map_nil]
  rw [show x + (e - x + 1) = e + 1 by omega]
theorem optP_mem {D : Nat → Nat} {x e : Nat} {y : Int} (h : y ∈ optP D x e) : ∃ j, x < j ∧ j ≤ e ∧ y = ((4 + (j - x) + D j : Nat) : Int) := by
  obtain ⟨d, hd, rfl⟩ := List.mem_map.mp h
  have hd := List.mem_range.mp hd
  exact ⟨x + (d + 1), by omega, by omega, by rw [show x + (d + 1) - x = d + 1 by omega]⟩
theorem optP_in {D : Nat → Nat} {x e j : Nat} (h1 : x < j) (h2 : j ≤ e) : ((4 + (j - x) + D j : Nat) : Int) ∈ optP D x e := by
  refine List.mem_map.mpr ⟨j - x - 1, List.mem_range.mpr (by omega), ?_⟩
  rw [show j - x - 1 + 1 = j - x by omega, show x + (j - x) = j by omega]
theorem ink_at {new : List PyData} (h2 : ∀ y ∈ new, isCell y = true) {x : Nat} (h : x < new.length) : ∃ k : Nat, new[x]? = some (cellD k (inkN (new.getD x .none) : Int)) := by
  have e : new.getD x .none = new[x] := by rw [List.getD_eq_getElem?_getD, List.getElem?_eq_getElem h]; rfl
  obtain ⟨c1, _⟩ := cell_eq (h2 _ (List.getElem_mem h))
  refine ⟨sgN new[x], ?_⟩
  rw [List.getElem?_eq_getElem h, e]
  exact congrArg some c1
end K41

namespace K41
open PySem PySem.Spec PyProof.Rows L2 FP
section
variable {P : Program} {w : World} {K : PySem.W.Frag} {mg : Str → Option Value} {base : Heap} {f C : Addr} {fd : FuncData}
def frRc : List PyData → Rs → Prop := fun ds q => ∃ (a b : List PyData), a.length = b.length ∧ 1 ≤ b.length ∧ b.length ≤ 20 ∧ (∀ y ∈ a, isCell y = true) ∧ (∀ y ∈ b, isCell y = true) ∧ ds = [.list a, .list b] ∧ q = .ok (.int ((spC (spans a b) : Nat) : Int))
abbrev NRc : List Str := ["_law_one", "_law_other_here", "_law_best", "_law_at", "_law_some", "_law_end"]
theorem sc_rc : FnScope NRc ["_law_one", "_law_other_here"] (defScope s__law_row_cost) := ⟨rfl, rfl, rfl, by decide +kernel, rfl, by decide +kernel, by decide +kernel⟩
theorem cell_shaped {d : PyData} (h : isCell d = true) : SeqAt.shaped d = true := (shp_cell h).ok (by decide)
abbrev XR (P : Program) (w : World) (K : PySem.W.Frag) (mg : Str → Option Value) (base : Heap) (f : Addr) (cdv : Value) (A : Around) (outer : List Env) (s : Shared) (H : Hp) (E : XK) : Cx := cxOf (L2N.CX P w) P w K mg base NRc "_law_row_cost" (defScope s__law_row_cost) f cdv A outer s H E
abbrev forB : List Stmt → List Stmt
  | .For _ _ b _ _ :: _ => b
  | _ => []
set_option maxHeartbeats 16000000 in
/-- one place -/
theorem rc_body {cdv : Value} {A : Around} {outer : List Env} {s : Shared} {H : Hp} {E : XK} (B : Bl mg) (hr : Room 1 (A.deeper (envOfC "_law_row_cost" (defScope s__law_row_cost) s.heap.objs.size f cdv))) {a b : List PyData} (hl : a.length = b.length) (l20 : b.length ≤ 20) (ha : ∀ y ∈ a, isCell y = true) (hb : ∀ y ∈ b, isCell y = true) {qs : List Addr} {Bd : Addr} {D : Nat → Nat} {x : Nat} (hx : x < b.length) (dp : DpF a b D (x + 1)) {y4 y5 : Option Sd} {R : Out → Prop}
    (hR : ∀ D' y4 y5, DpF a b D' x → R (.nx [some (.im (.list a)), some (.im (.list b)), some (.ad Bd), some (.im (.int (x : Int))), y4, y5] ⟨qs, [(Bd, .lst ((bestL D' b.length).map .im))]⟩)) :
    SD (XR P w K mg base f cdv A outer s H E) (WOf E) [] (forB ((defBody s__law_row_cost).drop 1)) [some (.im (.list a)), some (.im (.list b)), some (.ad Bd), some (.im (.int (x : Int))), y4, y5] ⟨qs, [(Bd, .lst ((bestL D b.length).map .im))]⟩ R := by
  have hxa : x < a.length := by omega
  have ea : a.getD x .none = a[x] := by rw [List.getD_eq_getElem?_getD, List.getElem?_eq_getElem hxa]; rfl
  have eb : b.getD x .none = b[x] := by rw [List.getD_eq_getElem?_getD, List.getElem?_eq_getElem hx]; rfl
  have ix : ∀ {l : List PyData} {i : Nat} {d : PyData}, l[i]? = some d → atI l (i : Int) = some d := fun h => atI_nat h
  refine sd_ownP 4 (ds := (opt0 a b D x).map .int) (pn_ifE (kb := eqA a b x) (PTd.eq (pt_cmpd (op_eqD hr.units) (rd_eqD (cell_shaped (ha _ (List.getElem_mem hxa))) (cell_shaped (hb _ (List.getElem_mem hx)))) (pd_ixL (d := a[x]) (PD.pl (pd_var 0)) (pd_var 3) (ix (List.getElem?_eq_getElem hxa))) (pd_ixL (d := b[x]) (PD.pl (pd_var 1)) (pd_var 3) (ix (List.getElem?_eq_getElem hx))) (nomark _)) (by unfold eqA; rw [ea, eb])) (fun hk => ?_) (fun hk => ?_)) (fun S hS => ?_) sc_rc.nd
  · unfold opt0
    rw [if_pos hk]
    exact pn_lst (ds := [.int (D (x + 1) : Int)]) (pds_cons (pd_ixL (PLt.pl (PS1.plt (ps1_var 2) List.mem_cons_self)) (pd_add (pd_var 3) pd_int) (by rw [show (x : Int) + 1 = ((x + 1 : Nat) : Int) by omega]; exact ix (bestL_at (by omega)))) pds_nil)
  · unfold opt0
    rw [if_neg (by rw [hk]; decide)]
    exact pn_lst pds_nil
  refine sd_set 5 (pd_var 3) ?_ sc_rc.nd
  refine sd_while (fun m δ' ω' => ∃ e : Nat, x ≤ e ∧ e ≤ b.length ∧ m = b.length - e ∧ (x < e → alike b x (e - 1)) ∧ δ' = [some (.im (.list a)), some (.im (.list b)), some (.ad Bd), some (.im (.int (x : Int))), some (.ad S), some (.im (.int (e : Int)))] ∧ ω' = ⟨qs, [(S, .lst (((opt0 a b D x ++ optP D x e).map PyData.int).map .im)), (Bd, .lst ((bestL D b.length).map .im))]⟩)
    (b.length - x) ⟨x, Nat.le_refl _, Nat.le_of_lt hx, rfl, fun z => absurd z (Nat.lt_irrefl _), rfl, by unfold optP; rw [Nat.sub_self, List.range_zero, List.map_nil, List.append_nil]; rfl⟩ ?_ (passes_of rfl)
  rintro m δ' ω' ⟨e, e1, e2, rfl, al, rfl, rfl⟩
  obtain ⟨kx, hkx⟩ := ink_at hb hx
  have test : PTd (XR P w K mg base f cdv A outer s H E) [some (.im (.list a)), some (.im (.list b)), some (.ad Bd), some (.im (.int (x : Int))), some (.ad S), some (.im (.int (e : Int)))] ⟨qs, [(S, .lst (((opt0 a b D x ++ optP D x e).map PyData.int).map .im)), (Bd, .lst ((bestL D b.length).map .im))]⟩ (match (forB ((defBody s__law_row_cost).drop 1)).drop 2 with | .While c _ _ _ :: _ => c | _ => .Name "" ⟨0, 0, 0, 0⟩) (decide (e < b.length) && decide (inkN (b.getD e .none) = inkN (b.getD x .none))) := by
    by_cases lt : e < b.length
    · obtain ⟨ke, hke⟩ := ink_at hb lt
      refine PTd.eq (PWd.pt (pw_andd (x := true) (y := decide ((inkN (b.getD e .none) : Int) = (inkN (b.getD x .none) : Int))) (PTd.eq (pt_cmpd op_lt rd_B0 (pd_var 5) (pd_lenL B.len (PD.pl (pd_var 0))) (nomark _)) (decide_eq_true (by rw [hl]; omega))) fun _ => pw_and1d (pt_cmpd op_eq rd_eqI (pd_ixT (pd_ixL (PD.pl (pd_var 1)) (pd_var 5) (ix hke)) pd_int atI1) (pd_ixT (pd_ixL (PD.pl (pd_var 1)) (pd_var 3) (ix hkx)) pd_int atI1) (nomark _)))) ?_
      rw [decide_eq_true lt]
      congr 1
      exact decide_eq_decide.mpr (by omega)
    · refine PTd.eq (PWd.pt (pw_andF (PTd.eq (pt_cmpd op_lt rd_B0 (pd_var 5) (pd_lenL B.len (PD.pl (pd_var 0))) (nomark _)) (decide_eq_false (by rw [hl]; omega))))) ?_
      rw [decide_eq_false lt]
      rfl
  have few : (opt0 a b D x ++ optP D x e).length ≤ 30 := by
    rw [List.length_append]
    unfold optP opt0
    rw [List.length_map, List.length_range]
    split
    · show 1 + _ ≤ 30
      omega
    · show 0 + _ ≤ 30
      omega
  refine ⟨_, test, fun hk => ?_, fun hk => ?_⟩
  · rw [Bool.and_eq_true] at hk
    have lt := of_decide_eq_true hk.1
    have ik := of_decide_eq_true hk.2
    refine sd_set 5 (d := .int ((e + 1 : Nat) : Int)) (PD.eq (pd_add (pd_var 5) pd_int) (by rw [Int.natCast_add]; rfl)) ?_ sc_rc.nd
    refine sd_appS (j := 0) (xs := ((opt0 a b D x ++ optP D x e).map PyData.int).map .im) (ps1_var 4) rfl (d := .int ((4 + (e + 1 - x) + D (e + 1) : Nat) : Int)) (PD.eq (pd_add (pd_sub (pd_add pd_int (pd_var 5)) (pd_var 3)) (pd_ixL (PLt.pl (PS1.plt (ps1_var 2) (List.mem_cons_of_mem _ List.mem_cons_self))) (pd_var 5) (ix (bestL_at (show e + 1 ≤ b.length by omega))))) (congrArg PyData.int (by omega))) (sd_nil ⟨b.length - (e + 1), by omega, e + 1, by omega, lt, rfl, fun _ => ?_, rfl, ?_⟩) (by rw [List.length_map, List.length_map]; omega)
    · rw [Nat.add_sub_cancel]
      intro i i1 i2
      rcases Nat.lt_or_ge i e with c | c
      · exact al (by omega) i i1 (by omega)
      · have : i = e := by omega
        rw [this]
        exact ik
    · rw [optP_succ e1, ← List.append_assoc, List.map_append (l₁ := opt0 a b D x ++ optP D x e), List.map_append (l₁ := (opt0 a b D x ++ optP D x e).map PyData.int)]
      rfl
  · have xe : x < e := by
      rcases Nat.lt_or_ge x e with c | c
      · exact c
      · have : e = x := by omega
        subst this
        rw [decide_eq_true hx, decide_eq_true rfl] at hk
        cases hk
    obtain ⟨m, hm, hmin⟩ := has_min (l := opt0 a b D x ++ optP D x e) (by
      intro z
      have h := optP_in (D := D) (x := x) (e := e) xe (Nat.le_refl e)
      rw [(List.append_eq_nil_iff.mp z).2] at h
      cases h)
    obtain ⟨v, rfl, hv⟩ : ∃ v : Nat, m = (v : Int) ∧ ((eqA a b x = true ∧ v = D (x + 1)) ∨ ∃ j, x < j ∧ j ≤ b.length ∧ alike b x (j - 1) ∧ v = 4 + (j - x) + D j) := by
      rcases List.mem_append.mp hm with q | q
      · unfold opt0 at q
        split at q
        · rename_i c
          exact ⟨D (x + 1), List.mem_singleton.mp q, .inl ⟨c, rfl⟩⟩
        · cases q
      · obtain ⟨j, j1, j2, j3⟩ := optP_mem q
        exact ⟨_, j3, .inr ⟨j, j1, by omega, fun i i1 i2 => al xe i i1 (by omega), rfl⟩⟩
    have v1 : eqA a b x = true → v ≤ D (x + 1) := fun c => by
      have := hmin (D (x + 1) : Int) (List.mem_append_left _ (by unfold opt0; rw [if_pos c]; exact List.mem_cons_self))
      omega
    have v2 : ∀ j, x < j → j ≤ b.length → alike b x (j - 1) → v ≤ 4 + (j - x) + D j := fun j j1 j2 j3 => by
      have je : j ≤ e := by
        rcases Nat.lt_or_ge e j with c | c
        · exfalso
          have lt : e < b.length := by omega
          have ik := j3 e (by omega) (by omega)
          rw [decide_eq_true lt, decide_eq_true ik] at hk
          cases hk
        · exact c
      have := hmin _ (List.mem_append_right _ (optP_in (D := D) j1 je))
      omega
    refine sd_lset (n := x) (c := Bd) (PD.ex (pd_minL rfl B.min (PLt.pl (PS1.plt (ps1_var 4) List.mem_cons_self)) hm hmin) ⟨1, (bestL D b.length).map .im, ps1_var 2, rfl, pd_var 3, by rw [List.length_map, bestL_len]; omega, ?_⟩)
    have es : ((bestL D b.length).map Sd.im).set x (.im (.int (v : Int))) = (bestL (stepD D x v) b.length).map .im := by
      rw [← List.map_set, bestL_set (by omega)]
    refine (show SD _ _ _ _ _ ⟨qs, [(S, .lst (((opt0 a b D x ++ optP D x e).map PyData.int).map .im)), (Bd, .lst (((bestL D b.length).map Sd.im).set x (.im (.int (v : Int)))))]⟩ _ from ?_)
    rw [es]
    refine sd_drop 0 (sd_nil ?_)
    exact hR _ _ _ (dp.step hx v1 v2 hv)
end
end K41

namespace K41
open PySem PySem.Spec PyProof.Rows L2 FP
def abS : List Nat := [97, 98, 32, 126, 94]
def txtL (x : Int) (n : Nat) : List Nat := (List.range n).map fun (j : Nat) => abS.getD (drawn x j % 5).toNat 0
def txt (x : Int) (n : Nat) : Str := ⟨(txtL x n).toArray⟩
def colL (x : Int) (wd : Nat) : Nat := (x / 16 % (wd : Int)).toNat
def manyL (x : Int) (wd : Nat) : Nat := 1 + (x / 1024 % (((wd - colL x wd : Nat)) : Int)).toNat
def rollsL (h : Nat) : List Int := [1, -1, 2, -3, 10, -10, (h : Int)]
def partL (m : Int) (h wd : Nat) : Pt :=
  if m % 6 = 0 then .roll ((rollsL h).getD (m / 8 % 7).toNat 0)
  else if m % 6 = 1 then .cur (m / 8 % (h : Int)).toNat (colL (m / 8) wd)
  else .put (m / 8 % (h : Int)).toNat (colL (m / 8) wd) (m / 8 / 1048576 % 8).toNat (txt (m / 8) (manyL (m / 8) wd))
theorem txt_len (x : Int) (n : Nat) : (txt x n).length = n := by
  show ((txtL x n).toArray).size = n
  unfold txtL
  simp
theorem colL_lt (x : Int) {wd : Nat} (h : 1 ≤ wd) : colL x wd < wd ∧ x / 16 % (wd : Int) = (colL x wd : Int) := by
  unfold colL
  have h1 := Int.emod_nonneg (x / 16) (show (wd : Int) ≠ 0 by omega)
  have h2 := Int.emod_lt_of_pos (x / 16) (show (0 : Int) < (wd : Int) by omega)
  omega
theorem manyL_b (x : Int) {wd : Nat} (h : 1 ≤ wd) : 1 ≤ manyL x wd ∧ colL x wd + manyL x wd ≤ wd ∧ 1 + x / 1024 % ((wd : Int) - (colL x wd : Int)) = (manyL x wd : Int) := by
  obtain ⟨h0, _⟩ := colL_lt x h
  unfold manyL
  have e : ((wd - colL x wd : Nat) : Int) = (wd : Int) - (colL x wd : Int) := by omega
  rw [e]
  have h1 := Int.emod_nonneg (x / 1024) (show ((wd : Int) - (colL x wd : Int)) ≠ 0 by omega)
  have h2 := Int.emod_lt_of_pos (x / 1024) (show (0 : Int) < (wd : Int) - (colL x wd : Int) by omega)
  omega
theorem abS_ok : ∀ c ∈ abS, okSign c = true := by decide
theorem abS_at (x : Int) : abS.getD (x % 5).toNat 0 ∈ abS := by
  have h1 := Int.emod_nonneg x (show (5 : Int) ≠ 0 by decide)
  have h2 := Int.emod_lt_of_pos x (show (0 : Int) < 5 by decide)
  have h3 : (x % 5).toNat < abS.length := by show _ < 5; omega
  rw [List.getD_eq_getElem?_getD, List.getElem?_eq_getElem h3]
  exact List.getElem_mem h3
theorem partL_ok (m : Int) {h wd : Nat} (h1 : 1 ≤ h) (h2 : h ≤ 10) (w1 : 1 ≤ wd) (w2 : wd ≤ 20) : (partL m h wd).Ok := by
  unfold partL
  split
  · have q1 := Int.emod_nonneg (m / 8) (show (7 : Int) ≠ 0 by decide)
    have q2 := Int.emod_lt_of_pos (m / 8) (show (0 : Int) < 7 by decide)
    have q3 : (m / 8 % 7).toNat < 7 := by omega
    generalize (m / 8 % 7).toNat = j at q3
    match j, q3 with
    | 0, _ => exact (show (-10 : Int) ≤ 1 ∧ (1 : Int) ≤ 10 ∧ (1 : Int) ≠ 0 by decide)
    | 1, _ => exact (show (-10 : Int) ≤ -1 ∧ (-1 : Int) ≤ 10 ∧ (-1 : Int) ≠ 0 by decide)
    | 2, _ => exact (show (-10 : Int) ≤ 2 ∧ (2 : Int) ≤ 10 ∧ (2 : Int) ≠ 0 by decide)
    | 3, _ => exact (show (-10 : Int) ≤ -3 ∧ (-3 : Int) ≤ 10 ∧ (-3 : Int) ≠ 0 by decide)
    | 4, _ => exact (show (-10 : Int) ≤ 10 ∧ (10 : Int) ≤ 10 ∧ (10 : Int) ≠ 0 by decide)
    | 5, _ => exact (show (-10 : Int) ≤ -10 ∧ (-10 : Int) ≤ 10 ∧ (-10 : Int) ≠ 0 by decide)
    | 6, _ => exact (show (-10 : Int) ≤ (h : Int) ∧ (h : Int) ≤ 10 ∧ (h : Int) ≠ 0 by omega)
  · split
    · trivial
    · obtain ⟨a1, a2, a3⟩ := manyL_b (m / 8) w1
      refine ⟨?_, by rw [txt_len]; exact a1, by rw [txt_len]; omega, fun c hc => ?_⟩
      · have q1 := Int.emod_nonneg (m / 8 / 1048576) (show (8 : Int) ≠ 0 by decide)
        have q2 := Int.emod_lt_of_pos (m / 8 / 1048576) (show (0 : Int) < 8 by decide)
        omega
      · have hc : c ∈ txtL (m / 8) (manyL (m / 8) wd) := by
          unfold txt at hc
          simpa using hc
        unfold txtL at hc
        obtain ⟨j, _, rfl⟩ := List.mem_map.mp hc
        exact abS_ok _ (abS_at _)
section
variable {P : Program} {w : World} {K : PySem.W.Frag} {mg : Str → Option Value} {base : Heap} {f C CF CB : Addr} {fd : FuncData}
def frLPart : List PyData → Rs → Prop := fun ds q => ∃ (m : Int) (h wd : Nat), 1 ≤ h ∧ h ≤ 10 ∧ 1 ≤ wd ∧ wd ≤ 20 ∧ ds = [.int m, .int (h : Int), .int (wd : Int)] ∧ q = .ok (partL m h wd).d
abbrev NLp : List Str := ["_law_more", "_law_height", "_law_width", "_law_here", "_law_way", "_law_column", "_law_many", "_law_text", "_law_j"]
theorem sc_lpart : FnScope NLp ["_law_more", "_law_height", "_law_width"] (defScope s__law_part) := ⟨rfl, rfl, rfl, by decide +kernel, rfl, by decide +kernel, by decide +kernel⟩
theorem ok_lpart (F : Df K "_law_part" s__law_part f fd) (hm : mg "_law_part" = some (.ref f)) (B : Bl mg) (G1 : DefOk P w K mg base 1 "_law_drawn" frDrawn) : DefOk P w K mg base 2 "_law_part" frLPart := by
  refine def_ok F hm sc_lpart (fun _ _ _ _ _ _ us hl => match us, hl with | [_, _, _], _ => rfl) (fun ds r h => by obtain ⟨_, _, _, _, _, _, _, rfl, _⟩ := h; rfl) (fun cdv A outer s H E qs ds r hr h => ?_)
  obtain ⟨m, h, wd, h1, h2, w1, w2, rfl, rfl⟩ := h
  refine sd_set 3 (pd_fdiv (wide_div (b := 4) (by decide) (by decide) (by decide) (by decide)) (pd_var 0) pd_int) ?_ sc_lpart.nd
  refine sd_set 4 (pd_mod (by decide) (pd_var 0) pd_int) ?_ sc_lpart.nd
  refine sd_if (pt_cmpd op_eq rd_eqI (pd_var 4) pd_int (nomark _)) (fun hk => ?_) (fun hk => sd_nil ?_)
  · have hk := of_decide_eq_true hk
    have e : partL m h wd = .roll ((rollsL h).getD (m / 8 % 7).toNat 0) := by
      unfold partL
      rw [if_pos hk]
    rw [e]
    obtain ⟨j, e1, l1⟩ := mod_nat (m / 8) 7 (by decide)
    refine sd_ret (pd_tup (pds_cons pd_str (pds_cons (pd_ixL (i := (j : Int)) (d := .int ((rollsL h).getD (m / 8 % 7).toNat 0)) (PN.pl (pn_lst (pds_cons pd_int (pds_cons (pd_neg pd_int) (pds_cons pd_int (pds_cons (pd_neg pd_int) (pds_cons pd_int (pds_cons (pd_neg pd_int) (pds_cons (pd_var 1) pds_nil))))))))) (PD.eq (pd_mod (by decide) (pd_var 3) pd_int) (by rw [← e1]; rfl)) (atI_nat (j := j) ?_)) pds_nil))) rfl
    have e2 : (m / 8 % 7).toNat = j := by
      have : m / 8 % 7 = (j : Int) := e1
      omega
    rw [e2]
    match j, l1 with
    | 0, _ => rfl
    | 1, _ => rfl
    | 2, _ => rfl
    | 3, _ => rfl
    | 4, _ => rfl
    | 5, _ => rfl
    | 6, _ => rfl
  · have hk := of_decide_eq_false hk
    obtain ⟨c1, c2⟩ := colL_lt (m / 8) w1
    have ph : (0 : Int) < (h : Int) := by omega
    have pw : (0 : Int) < (wd : Int) := by omega
    have eh : m / 8 % (h : Int) = ((m / 8 % (h : Int)).toNat : Int) := by
      have := Int.emod_nonneg (m / 8) (show (h : Int) ≠ 0 by omega)
      omega
    refine sd_if (pt_cmpd op_eq rd_eqI (pd_var 4) pd_int (nomark _)) (fun hk1 => ?_) (fun hk1 => sd_nil ?_)
    · have hk1 := of_decide_eq_true hk1
      have e : partL m h wd = .cur (m / 8 % (h : Int)).toNat (colL (m / 8) wd) := by
        unfold partL
        rw [if_neg hk, if_pos hk1]
      rw [e]
      exact sd_ret (pd_tup (pds_cons pd_str (pds_cons (PD.eq (pd_mod ph (pd_var 3) (pd_var 1)) (by rw [← eh])) (pds_cons (PD.eq (pd_mod pw (pd_fdiv (wide_div (b := 5) (by decide) (by decide) (by decide) (by decide)) (pd_var 3) pd_int) (pd_var 2)) (by rw [← c2])) pds_nil)))) rfl
    · have hk1 := of_decide_eq_false hk1
      have e : partL m h wd = .put (m / 8 % (h : Int)).toNat (colL (m / 8) wd) (m / 8 / 1048576 % 8).toNat (txt (m / 8) (manyL (m / 8) wd)) := by
        unfold partL
        rw [if_neg hk, if_neg hk1]
      rw [e]
      obtain ⟨a1, a2, a3⟩ := manyL_b (m / 8) w1
      generalize m / 8 = x at *
      refine sd_set 5 (d := .int (colL x wd : Int)) (PD.eq (pd_mod pw (pd_fdiv (wide_div (b := 5) (by decide) (by decide) (by decide) (by decide)) (pd_var 3) pd_int) (pd_var 2)) (by rw [← c2])) ?_ sc_lpart.nd
      have pc : (0 : Int) < (wd : Int) - (colL x wd : Int) := by omega
      refine sd_set 6 (d := .int (manyL x wd : Int)) (PD.eq (pd_add pd_int (pd_mod pc (pd_fdiv (wide_div (b := 11) (by decide) (by decide) (by decide) (by decide)) (pd_var 3) pd_int) (pd_sub (pd_var 2) (pd_var 5)))) (by rw [← a3])) ?_ sc_lpart.nd
      generalize manyL x wd = n at *
      refine sd_set 7 (d := .str (txt x n)) (PD.eq (pd_join (ys := (txtL x n).map fun c => (⟨#[c]⟩ : Str)) pd_str (PN.pl (pn_lc (y := "_law_j") (j := 8) (items := rangeD 0 ((n : Nat) : Int).toNat) (ys := ((txtL x n).map fun c => (⟨#[c]⟩ : Str)).map .str) rfl sc_lpart.nd (PWk.ws (wk_range1 (j := (n : Int)) B.range (pd_var 6) (by omega))) ?len (blkOk_by (N := NLp) (sc := defScope s__law_part) (by decide +kernel)) (fun _ _ _ _ _ => pg_name sc_lpart.nd rfl (Or.inl rfl)) ?el ?le)) ?sz) (by rw [glued_ones]; rfl)) ?rest sc_lpart.nd
      case len =>
        unfold txtL
        rw [rangeD_nat]
        simp
      case le =>
        rw [rangeD_nat]
        omega
      case sz =>
        have e1 : ∀ cs : List Nat, ((cs.map fun c => (⟨#[c]⟩ : Str)).map (·.length)).sum = cs.length := by
          intro cs
          induction cs with
          | nil => rfl
          | cons c cs ih =>
            rw [List.map_cons, List.map_cons, List.sum_cons, ih, List.length_cons]
            show 1 + cs.length = _
            omega
        have e2 : (Str.ofString "").length = 0 := by decide +kernel
        have e3 : (txtL x n).length = n := by
          unfold txtL
          simp
        rw [e1, e2, List.length_map, e3]
        omega
      case el =>
        intro i d y hd hy D o s H C cl fp
        obtain ⟨hj, rfl⟩ := rangeD_at hd
        unfold txtL at hy
        rw [List.getElem?_map, List.getElem?_map, List.getElem?_map, List.getElem?_range hj] at hy
        cases hy
        obtain ⟨q, e1, l1⟩ := mod_nat (K41.drawn x i) 5 (by decide)
        refine pd_ixS (z := "ab ~^") pd_str (PD.eq (pd_mod (by decide) (pd_call G1 hr (pds_cons (pd_var 3) (pds_cons (pd_var 8) pds_nil)) ⟨_, _, rfl, rfl⟩) pd_int) (show _ = PyData.int (q : Int) by rw [← e1]; rfl)) (by decide +kernel) (atI_nat (j := q) ?_)
        have e2 : (K41.drawn x i % 5).toNat = q := by
          have : K41.drawn x i % 5 = (q : Int) := e1
          omega
        show _ = some (abS.getD (K41.drawn x (i : Int) % 5).toNat 0)
        rw [e2]
        match q, l1 with
        | 0, _ => decide +kernel
        | 1, _ => decide +kernel
        | 2, _ => decide +kernel
        | 3, _ => decide +kernel
        | 4, _ => decide +kernel
      case rest =>
        have e8 : x / 1048576 % 8 = ((x / 1048576 % 8).toNat : Int) := by
          have := Int.emod_nonneg (x / 1048576) (show (8 : Int) ≠ 0 by decide)
          omega
        exact sd_ret (pd_tup (pds_cons pd_str (pds_cons (PD.eq (pd_mod ph (pd_var 3) (pd_var 1)) (by rw [← eh])) (pds_cons (pd_var 5) (pds_cons (PD.eq (pd_mod (by decide) (pd_fdiv (wide_div (b := 21) (by decide) (by decide) (by decide) (by decide)) (pd_var 3) (pd_pow ⟨by decide, by decide, by decide⟩ pd_int pd_int)) pd_int) (by rw [← e8]; rfl)) (pds_cons (pd_var 7) pds_nil)))))) rfl
end
end K41

namespace K41
open PySem PySem.Spec PyProof.Rows L2 FP
section
variable {P : Program} {w : World} {K : PySem.W.Frag} {mg : Str → Option Value} {base : Heap} {f C CF CB : Addr} {fd : FuncData}
def frLRolled : List PyData → Rs → Prop := fun ds q => ∃ (rs : List (List PyData)) (wd : Nat) (n : Int), 1 ≤ rs.length ∧ rs.length ≤ 10 ∧ (∀ r ∈ rs, r.length = wd) ∧ wd ≤ 20 ∧ -100 ≤ n ∧ n ≤ 100 ∧ ds = [.list (rs.map .list), .int n] ∧ q = .ok (.list ((rollA rs wd n).map .list))
abbrev NRl : List Str := ["_law_rows", "_law_by", "_law_empty", "_law_far"]
theorem sc_lrolled : FnScope NRl ["_law_rows", "_law_by"] (defScope s__law_rolled) := ⟨rfl, rfl, rfl, by decide +kernel, rfl, by decide +kernel, by decide +kernel⟩
theorem rollA_pos {rs : List (List PyData)} {wd : Nat} {n : Int} (h : 0 < n) : rollA rs wd n = rs.drop (min n.toNat rs.length) ++ List.replicate (min n.toNat rs.length) (blankR wd) := by
  unfold rollA pullA
  rw [if_neg (by omega)]
  simp only [List.take_zero, List.nil_append, Nat.zero_add, List.length_drop]
  by_cases c : n.toNat ≤ rs.length
  · rw [Nat.min_eq_left c]
    congr 2
    omega
  · rw [Nat.min_eq_right (by omega), List.drop_eq_nil_of_le (by omega), List.drop_eq_nil_of_le (Nat.le_refl _)]
    congr 2
    omega
theorem rollA_neg {rs : List (List PyData)} {wd : Nat} {n : Int} (h : n ≤ 0) : rollA rs wd n = List.replicate (min n.natAbs rs.length) (blankR wd) ++ rs.take (rs.length - min n.natAbs rs.length) := by
  by_cases c : n < 0
  · unfold rollA pushA
    rw [if_pos c, show (-n).toNat = n.natAbs by omega]
    simp only [List.take_zero, List.nil_append, List.drop_zero]
    rw [List.take_append, List.take_replicate, List.length_replicate]
    rw [Nat.min_comm]
    congr 2
    omega
  · have e : n = 0 := by omega
    subst e
    unfold rollA pullA
    simp
theorem ok_lrolled (F : Df K "_law_rolled" s__law_rolled f fd) (hm : mg "_law_rolled" = some (.ref f)) (B : Bl mg) (ma : mg "abs" = none) : DefOk P w K mg base 1 "_law_rolled" frLRolled := by
  refine def_ok F hm sc_lrolled (fun _ _ _ _ _ _ us hl => match us, hl with | [_, _], _ => rfl) (fun ds r h => by obtain ⟨_, _, _, _, _, _, _, _, _, rfl, _⟩ := h; rfl) (fun cdv A outer s H E qs ds r hr h => ?_)
  obtain ⟨rs, wd, n, l1, l2, lw, w20, n1, n2, rfl, rfl⟩ := h
  obtain ⟨c0, rest, rfl⟩ : ∃ c0 rest, rs = c0 :: rest := by
    match rs, l1 with
    | c0 :: rest, _ => exact ⟨c0, rest, rfl⟩
  have lc : c0.length = wd := lw c0 List.mem_cons_self
  have lm : (((c0 :: rest).map PyData.list).length : Int) = ((c0 :: rest).length : Int) := by rw [List.length_map]
  refine sd_ownP 2 (ds := [.list (blankR wd)]) (pn_lst (pds_cons (PN.pd (PN.eq (pn_rep1 (d := blankC) (k := (wd : Int)) (PN.plt (pn_lst (pds_cons (pd_tup (pds_cons pd_str (pds_cons pd_int pds_nil))) pds_nil))) (PD.eq (pd_lenL B.len (PD.pl (pd_ixL (d := .list c0) (PD.pl (pd_var 0)) pd_int (atI_nat (j := 0) rfl)))) (by rw [lc])) (by omega) (by omega)) (show _ = blankR wd by rw [Int.toNat_natCast]; rfl))) pds_nil)) (fun D hD => ?_) sc_lrolled.nd
  refine sd_set 3 (d := .int ((min n.natAbs (c0 :: rest).length : Nat) : Int)) (PD.eq (pd_min rfl B.min (pd_abs ma (pd_var 1)) (pd_lenL B.len (PD.pl (pd_var 0)))) ?_) ?_ sc_lrolled.nd
  · rw [lm]
    have ea : (if n < 0 then -n else n) = ((n.natAbs : Nat) : Int) := by split <;> omega
    rw [ea]
    congr 1
    split <;> omega
  generalize hf : min n.natAbs (c0 :: rest).length = far
  have hf2 : far ≤ (c0 :: rest).length := by omega
  refine sd_if (pt_cmpd op_gt rd_B0 (pd_var 1) pd_int (nomark _)) (fun hk => ?_) (fun hk => sd_nil ?_)
  · have hk := of_decide_eq_true hk
    refine sd_ret (d := .list (((c0 :: rest).map PyData.list).drop far ++ List.replicate far (PyData.list (blankR wd)))) ?_ ?_
    · exact PN.pd (pn_catL (PN.pl (PN.eq (pn_slL (i := some ((far : Nat) : Int)) (j := none) (PD.pl (pd_var 0)) ⟨_, rfl, pd_var 3⟩ rfl) (cut_from _ _))) (PN.pl (PN.eq (pn_rep1 (d := .list (blankR wd)) (k := (far : Int)) (plt_var 2 List.mem_cons_self) (pd_var 3) (by omega) (by omega)) (by rw [Int.toNat_natCast]))) (by rw [List.length_drop, List.length_map, List.length_replicate]; omega))
    · show Rs.ok (.list ((rollA (c0 :: rest) wd n).map .list)) = _
      rw [rollA_pos hk, show n.toNat = n.natAbs by omega, hf, List.map_append, List.map_drop, List.map_replicate]
  · have hk := of_decide_eq_false hk
    refine sd_ret (d := .list (List.replicate far (PyData.list (blankR wd)) ++ ((c0 :: rest).map PyData.list).take ((c0 :: rest).length - far))) ?_ ?_
    · exact PN.pd (pn_catL (PN.pl (PN.eq (pn_rep1 (d := .list (blankR wd)) (k := (far : Int)) (plt_var 2 List.mem_cons_self) (pd_var 3) (by omega) (by omega)) (by rw [Int.toNat_natCast]))) (PN.pl (PN.eq (pn_slL (i := none) (j := some (((c0 :: rest).length - far : Nat) : Int)) (PD.pl (pd_var 0)) rfl ⟨_, rfl, PD.eq (pd_sub (pd_lenL B.len (PD.pl (pd_var 0))) (pd_var 3)) (by rw [lm]; congr 1; omega)⟩) (cut_to _ _))) (by rw [List.length_take, List.length_map, List.length_replicate]; omega))
    · show Rs.ok (.list ((rollA (c0 :: rest) wd n).map .list)) = _
      rw [rollA_neg (by omega), hf, List.map_append, List.map_take, List.map_replicate]
end
end K41

namespace K41
open PySem PySem.Spec PyProof.Rows L2 FP
theorem putC_set {cs new : List PyData} {c j : Nat} {d : PyData} (h : c + new.length ≤ cs.length) (e : new[j]? = some d) : (putC cs c (new.take j)).set (c + j) d = putC cs c (new.take (j + 1)) := by
  have hj : j < new.length := (List.getElem?_eq_some_iff.mp e).1
  unfold putC
  have lt : (new.take j).length = j := by rw [List.length_take]; omega
  have lt1 : (new.take (j + 1)).length = j + 1 := by rw [List.length_take]; omega
  have lc : (cs.take c).length = c := by rw [List.length_take]; omega
  rw [lt, lt1]
  rw [List.set_append_right _ _ (by rw [List.length_append, lc, lt]; omega), List.length_append, lc, lt, Nat.sub_self]
  have e2 : cs.drop (c + j) = cs.getD (c + j) .none :: cs.drop (c + (j + 1)) := by
    have hlt : c + j < cs.length := by omega
    rw [List.getD_eq_getElem?_getD, List.getElem?_eq_getElem hlt]
    exact List.drop_eq_getElem_cons hlt
  rw [e2, List.set_cons_zero, List.take_add_one, e]
  simp
theorem putC_nil (cs : List PyData) (c : Nat) : putC cs c [] = cs := by
  unfold putC
  simp
section
variable {P : Program} {w : World} {K : PySem.W.Frag} {mg : Str → Option Value} {base : Heap} {f C CF CB : Addr} {fd : FuncData}
def dueD : Option Sc → PyData
  | some t => t.d
  | none => .none
def frLChanged : List PyData → Rs → Prop := fun ds q => ∃ (s : Sc) (ps : List Pt), s.Ok ∧ (∀ p ∈ ps, p.Ok) ∧ ds = [s.d, .list (ps.map Pt.d)] ∧ q = .ok (dueD (s.all ps))
abbrev NLh : List Str := ["_law_face_here", "_law_change", "_law_rows", "_law_at", "_law_part_here", "_law_word_here", "_law_row", "_law_column", "_law_ink", "_law_text", "_law_j", "_law_sign", "_law_cells"]
theorem sc_lch : FnScope NLh ["_law_face_here", "_law_change"] (defScope s__law_changed) := ⟨rfl, rfl, rfl, by decide +kernel, rfl, by decide +kernel, by decide +kernel⟩
abbrev atD (u : Sc) : PyData := .tuple [.int (u.row : Int), .int (u.col : Int)]
abbrev dlh (s : Sc) (ps : List Pt) (D : Addr) (u : Sc) (y4 y5 y6 y7 y8 y9 y10 y11 y12 : Option Sd) : De := [some (.im s.d), some (.im (.list (ps.map Pt.d))), some (.ad D), some (.im (atD u)), y4, y5, y6, y7, y8, y9, y10, y11, y12]
abbrev ownR (qs : List Addr) (D : Addr) (As : List Addr) (rows : List (List PyData)) : Om := ⟨qs, (D, .lst (As.map .ad)) :: (inL As rows ++ [])⟩
theorem ok_lch (F : Df K "_law_changed" s__law_changed f fd) (hm : mg "_law_changed" = some (.ref f)) (B : Bl mg) (ml : mg "list" = none) (me : mg "enumerate" = none) (GR : DefOk P w K mg base 1 "_law_rolled" frLRolled) : DefOk P w K mg base 2 "_law_changed" frLChanged := by
  refine def_ok F hm sc_lch (fun _ _ _ _ _ _ us hl => match us, hl with | [_, _], _ => rfl) (fun ds r h => by obtain ⟨_, _, _, _, rfl, _⟩ := h; rfl) (fun cdv A outer s H E qs ds r hr h => ?_)
  obtain ⟨t, ps, o, hp, rfl, rfl⟩ := h
  refine sd_ownLL2 2 (y := "_law_cells") (j := 12) (items := t.rows.map .tuple) (rows := t.rows) rfl sc_lch.nd (PWk.ws (wk_tup (pd_ixT (d := .tuple (t.rows.map .tuple)) (pd_var 0) pd_int atI0))) (by rw [List.length_map]) (blkOk_by (N := NLh) (sc := defScope s__law_changed) (by decide +kernel)) (fun _ _ _ _ _ => pg_name sc_lch.nd rfl (Or.inl rfl)) ?_ (by have := o.h10; have := o.len; rw [List.length_map]; omega) (fun D As lA hD hA => ?_)
  · intro i d ds hd hy os' s H C cl fp
    rw [List.getElem?_map, hy] at hd
    cases hd
    exact pn_listT ml (pd_var 12)
  refine sd_set 3 (d := atD t) (PD.eq (pd_slT (i := some ((1 : Nat) : Int)) (j := none) (pd_var 0) ⟨_, rfl, pd_int⟩ rfl) (by rw [cut_from]; rfl)) ?_ sc_lch.nd
  refine sd_for 4 (items := ps.map Pt.d) (fun i δ' ω' => ∃ (u : Sc) (D : Addr) (As : List Addr), u.Ok ∧ t.all (ps.take i) = some u ∧ As.length = u.rows.length ∧ D ∉ qs ∧ (∀ a ∈ As, a ∉ qs) ∧ ω' = ownR qs D As u.rows ∧ ∃ y4 y5 y6 y7 y8 y9 y10 y11 y12, δ' = dlh t ps D u y4 y5 y6 y7 y8 y9 y10 y11 y12)
    (wk_lst (pd_var 1)) ⟨t, D, As, o, rfl, lA, hD, hA, rfl, _, _, _, _, _, _, _, _, _, rfl⟩ ?_ ?_ (pg_name sc_lch.nd rfl (Or.inl rfl)) (passes_of rfl) rfl
  · rintro i d δ' ω' hd ⟨u, D, As, ou, eu, lA, hD, hA, rfl, y4, y5, y6, y7, y8, y9, y10, y11, y12, rfl⟩
    rw [List.getElem?_map] at hd
    cases e : ps[i]? with
    | none =>
      rw [e] at hd
      cases hd
    | some p =>
      rw [e] at hd
      cases hd
      have hp1 := hp p (List.mem_of_getElem? e)
      have es := Sc.all_snoc eu e
      have ul := ou.len
      have uh := ou.hr
      have uw := ou.hc
      have h10 := ou.h10
      have w20 := ou.w20
      obtain ⟨c0, rest, er⟩ : ∃ c0 rest, u.rows = c0 :: rest := by
        match h : u.rows, ul with
        | [], q => exfalso; simp at q; omega
        | c0 :: rest, _ => exact ⟨c0, rest, rfl⟩
      obtain ⟨a0, As', eA⟩ : ∃ a0 As', As = a0 :: As' := by
        match As, lA with
        | [], q => rw [er] at q; cases q
        | a0 :: As', _ => exact ⟨a0, As', rfl⟩
      have w0 : c0.length = u.w := (ou.wid c0 (by rw [er]; exact List.mem_cons_self)).1
      have m0 : (a0, Od.lst (c0.map .im)) ∈ (ownR qs D As u.rows).os := by
        rw [er, eA]
        exact List.mem_cons_of_mem _ (List.mem_append_left _ List.mem_cons_self)
      have i0 : atI (As.map Sd.ad) 0 = some (.ad a0) := by
        rw [eA]
        exact atI0
      have lm : (As.map Sd.ad).length = u.h := by rw [List.length_map, lA, ul]
      cases p with
      | roll n =>
        refine sd_ifT (PTd.eq (pt_cmpd op_eq rd_eqS (pd_ixT (d := .str "roll") (pd_var 4) pd_int atI0) pd_str (nomark _)) (by decide +kernel)) ?_
        refine sd_letgo 2 lA hD hA ?_
        have hn := hp1
        refine sd_ownLL2 2 (y := "_law_cells") (j := 12) (items := (rollA u.rows u.w n).map .list) (rows := rollA u.rows u.w n) rfl sc_lch.nd (PWk.ws (wk_lst (pd_call GR hr (pds_cons (pd_var 2) (pds_cons (pd_ixT (d := .int n) (pd_var 4) pd_int atI1) pds_nil)) ⟨u.rows, u.w, n, by omega, by omega, fun r hr => (ou.wid r hr).1, w20, by have := hn.1; omega, by have := hn.2.1; omega, rfl, rfl⟩))) (by rw [List.length_map]) (blkOk_by (N := NLh) (sc := defScope s__law_changed) (by decide +kernel)) (fun _ _ _ _ _ => pg_name sc_lch.nd rfl (Or.inl rfl)) ?_ (by rw [List.length_map, rollA_len]; omega) (fun D As lA hD hA => ?_)
        · intro i d ds hd hy os' s H C cl fp
          rw [List.getElem?_map, hy] at hd
          cases hd
          exact pn_listL ml (PD.pl (pd_var 12))
        · refine sd_nil (sd_nil ⟨{ u with rows := rollA u.rows u.w n }, D, As, (ou.part hp1 rfl).1, es, lA, hD, hA, rfl, _, _, _, _, _, _, _, _, _, rfl⟩)
      | cur r c =>
        refine sd_if (kk := false) (PTd.eq (pt_cmpd op_eq rd_eqS (pd_ixT (d := .str "cursor") (pd_var 4) pd_int atI0) pd_str (nomark _)) (by decide +kernel)) (fun z => by cases z) (fun _ => ?_)
        refine sd_ifT (PTd.eq (pt_cmpd op_eq rd_eqS (pd_ixT (d := .str "cursor") (pd_var 4) pd_int atI0) pd_str (nomark _)) (by decide +kernel)) ?_
        have ep : u.part (.cur r c) = if r < u.h ∧ c + 1 ≤ u.w then some { u with row := r, col := c } else none := rfl
        refine sd_if (PWd.pt (pw_ord (pt_cmpd op_ge rd_B0 (pd_ixT (d := .int (r : Int)) (pd_var 4) pd_int atI1) (pd_lenA B.len (ps1_var 2) List.mem_cons_self) (nomark _)) (fun _ => pw_or1d (pt_cmpd op_ge rd_B0 (pd_ixT (d := .int (c : Int)) (pd_var 4) pd_int (atI_nat (j := 2) rfl)) (pd_lenL B.len (PLt.pl (PS1.plt (ps1_ixA (ps1_var 2) List.mem_cons_self pd_int i0) m0))) (nomark _))))) (fun hk => ?_) (fun hk => sd_nil ?_)
        · have hh : ¬ (r < u.h ∧ c + 1 ≤ u.w) := by
            rw [lm, w0] at hk
            simp only [Bool.or_eq_true, decide_eq_true_eq] at hk
            omega
          rw [ep, if_neg hh] at es
          refine sd_ret pd_non ?_
          show Rs.ok (dueD (t.all ps)) = _
          rw [Sc.all_none es]
          rfl
        · have hh : r < u.h ∧ c + 1 ≤ u.w := by
            rw [lm, w0] at hk
            simp only [Bool.or_eq_false_iff, decide_eq_false_iff_not] at hk
            omega
          rw [ep, if_pos hh] at es
          refine sd_set 3 (d := .tuple [.int (r : Int), .int (c : Int)]) (PD.eq (pd_slT (i := some ((1 : Nat) : Int)) (j := none) (pd_var 4) ⟨_, rfl, pd_int⟩ rfl) (by rw [cut_from]; rfl)) ?_ sc_lch.nd
          exact sd_nil (sd_nil (sd_nil ⟨{ u with row := r, col := c }, D, As, (ou.part hp1 (ep.trans (if_pos hh))).1, es, lA, hD, hA, rfl, _, _, _, _, _, _, _, _, _, rfl⟩))
      | put r c k z =>
        refine sd_if (kk := false) (PTd.eq (pt_cmpd op_eq rd_eqS (pd_ixT (d := .str "put") (pd_var 4) pd_int atI0) pd_str (nomark _)) (by decide +kernel)) (fun z => by cases z) (fun _ => ?_)
        refine sd_if (kk := false) (PTd.eq (pt_cmpd op_eq rd_eqS (pd_ixT (d := .str "put") (pd_var 4) pd_int atI0) pd_str (nomark _)) (by decide +kernel)) (fun z => by cases z) (fun _ => ?_)
        have hz := hp1.2.2.1
        have ep : u.part (.put r c k z) = if r < u.h ∧ c + z.length ≤ u.w then some { u with rows := u.rows.set r (putC (u.rows.getD r []) c (cellsZ z k)) } else none := rfl
        refine sd_unp [5, 6, 7, 8, 9] (ds := [.str "put", .int (r : Int), .int (c : Int), .int (k : Int), .str z]) (pd_var 4) (pg_tup rfl (pgs_cons (pg_name sc_lch.nd rfl (Or.inl rfl)) (pgs_cons (pg_name sc_lch.nd rfl (Or.inl rfl)) (pgs_cons (pg_name sc_lch.nd rfl (Or.inl rfl)) (pgs_cons (pg_name sc_lch.nd rfl (Or.inl rfl)) (pgs_cons (pg_name sc_lch.nd rfl (Or.inl rfl)) pgs_nil)))))) rfl rfl ?_
        refine sd_if (PWd.pt (pw_ord (pt_cmpd op_ge rd_B0 (pd_var 6) (pd_lenA B.len (ps1_var 2) List.mem_cons_self) (nomark _)) (fun _ => pw_or1d (pt_cmpd op_gt rd_B0 (pd_add (pd_var 7) (pd_lenS B.len (pd_var 9) (by omega))) (pd_lenL B.len (PLt.pl (PS1.plt (ps1_ixA (ps1_var 2) List.mem_cons_self pd_int i0) m0))) (nomark _))))) (fun hk => ?_) (fun hk => sd_nil ?_)
        · have hh : ¬ (r < u.h ∧ c + z.length ≤ u.w) := by
            rw [lm, w0] at hk
            simp only [Bool.or_eq_true, decide_eq_true_eq] at hk
            omega
          rw [ep, if_neg hh] at es
          refine sd_ret pd_non ?_
          show Rs.ok (dueD (t.all ps)) = _
          rw [Sc.all_none es]
          rfl
        · have hh : r < u.h ∧ c + z.length ≤ u.w := by
            rw [lm, w0] at hk
            simp only [Bool.or_eq_false_iff, decide_eq_false_iff_not] at hk
            omega
          rw [ep, if_pos hh] at es
          obtain ⟨a1, a2, a3⟩ := ou.row_at hh.1
          generalize hcs : u.rows.getD r [] = cs at a1 a2 a3 es
          have hlA : r < As.length := by rw [lA, ul]; exact hh.1
          obtain ⟨ar, har⟩ : ∃ ar, As[r]? = some ar := ⟨As[r], List.getElem?_eq_getElem hlA⟩
          have lz : (cellsZ z k).length = z.length := cellsZ_len z k
          have hfit : c + (cellsZ z k).length ≤ cs.length := by rw [lz, a2]; exact hh.2
          have hself : u.rows.set r cs = u.rows := by
            obtain ⟨q1, q2⟩ := List.getElem?_eq_some_iff.mp a1
            rw [← q2, List.set_getElem_self]
          refine sd_forT [10, 11] (n := 2) (items := enumD (signsD z)) (fun j δ' ω' => ω' = ownR qs D As (u.rows.set r (putC cs c ((cellsZ z k).take j))) ∧ ∃ y10 y11, δ' = dlh t ps D u (some (.im (Pt.put r c k z).d)) (some (.im (.str "put"))) (some (.im (.int (r : Int)))) (some (.im (.int (c : Int)))) (some (.im (.int (k : Int)))) (some (.im (.str z))) y10 y11 y12)
            (wt_enumS me (pd_var 9)) ⟨by rw [List.take_zero, putC_nil, hself], _, _, rfl⟩ ?_ ?_ (fun ds h => enumD_two h) rfl (pg_tup rfl (pgs_cons (pg_name sc_lch.nd rfl (Or.inl rfl)) (pgs_cons (pg_name sc_lch.nd rfl (Or.inl rfl)) pgs_nil))) (passes_of rfl) rfl
          · rintro j ds δ' ω' hds ⟨rfl, y10, y11, rfl⟩
            obtain ⟨d, hd, rfl⟩ := enumD_get hds
            unfold signsD at hd
            rw [List.getElem?_map] at hd
            cases hx : z.cps.toList[j]? with
            | none =>
              rw [hx] at hd
              cases hd
            | some x =>
              rw [hx] at hd
              cases hd
              have ecell : (cellsZ z k)[j]? = some (cellD x (k : Int)) := by
                unfold cellsZ
                rw [List.getElem?_map, hx]
                rfl
              have hj : j < (cellsZ z k).length := (List.getElem?_eq_some_iff.mp ecell).1
              have lrow : (putC cs c ((cellsZ z k).take j)).length = cs.length := putC_len (by rw [List.length_take]; omega)
              have hr2 : r < u.rows.length := by rw [ul]; exact hh.1
              have erow : (u.rows.set r (putC cs c ((cellsZ z k).take j)))[r]? = some (putC cs c ((cellsZ z k).take j)) := List.getElem?_set_self hr2
              have eat : (ownR qs D As (u.rows.set r (putC cs c ((cellsZ z k).take j)))).os[r + 1]? = some (ar, .lst ((putC cs c ((cellsZ z k).take j)).map .im)) := by
                show (inL As _ ++ [])[r]? = _
                rw [List.append_nil]
                exact inL_get har erow
              refine sd_lset (c := ar) (n := c + j) (PD.ex (pd_tup (pds_cons (pd_var 11) (pds_cons (pd_var 8) pds_nil))) ⟨r + 1, (putC cs c ((cellsZ z k).take j)).map .im, ps1_ixA (i := (r : Int)) (ps1_var 2) List.mem_cons_self (pd_var 6) (atI_nat (by rw [List.getElem?_map, har]; rfl)), eat, PD.eq (pd_add (pd_var 7) (pd_var 10)) (by rw [Int.natCast_add]), by rw [List.length_map, lrow]; omega, ?_⟩)
              refine sd_nil ⟨?_, _, _, rfl⟩
              show (⟨qs, (D, .lst (As.map Sd.ad)) :: ((inL As (u.rows.set r (putC cs c ((cellsZ z k).take j))) ++ []).set r (ar, .lst (((putC cs c ((cellsZ z k).take j)).map Sd.im).set (c + j) (.im (cellD x (k : Int))))))⟩ : Om) = _
              have e3 : ((putC cs c ((cellsZ z k).take j)).map Sd.im).set (c + j) (.im (cellD x (k : Int))) = (putC cs c ((cellsZ z k).take (j + 1))).map Sd.im := by
                rw [← putC_set hfit ecell, List.map_set]
              rw [e3, List.append_nil, inL_set har, List.set_set]
              show _ = ownR _ _ _ _
              unfold ownR
              rw [List.append_nil]
          · rintro δ' ω' ⟨rfl, y10, y11, rfl⟩
            have el : (enumD (signsD z)).length = (cellsZ z k).length := by
              rw [enumD_len]
              unfold signsD cellsZ
              rw [List.length_map, List.length_map]
            rw [el, List.take_length]
            refine sd_nil (sd_nil (sd_nil ⟨{ u with rows := u.rows.set r (putC cs c (cellsZ z k)) }, D, As, ?_, es, by rw [List.length_set]; exact lA, hD, hA, rfl, _, _, _, _, _, _, _, _, _, rfl⟩))
            have oq := (ou.part hp1 (ep.trans (if_pos hh))).1
            rw [hcs] at oq
            exact oq
  · rintro δ' ω' ⟨u, D, As, ou, eu, lA, hD, hA, rfl, y4, y5, y6, y7, y8, y9, y10, y11, y12, rfl⟩
    rw [List.length_map, List.take_length] at eu
    rw [eu]
    refine sd_letgo 2 lA hD hA ?_
    have ul := ou.len
    have h10 := ou.h10
    refine sd_ret (d := u.d) (PD.eq (pd_catT (ds := [.tuple (u.rows.map .tuple)]) (dt := [.int (u.row : Int), .int (u.col : Int)]) (pd_tup (pds_cons (pd_tupleL B.tuple (PN.pl (pn_lc (y := "_law_cells") (j := 12) (items := u.rows.map .list) (ys := u.rows.map .tuple) rfl sc_lch.nd (PWk.ws (wk_lst (pd_var 2))) (by rw [List.length_map, List.length_map]) (blkOk_by (N := NLh) (sc := defScope s__law_changed) (by decide +kernel)) (fun _ _ _ _ _ => pg_name sc_lch.nd rfl (Or.inl rfl)) ?_ (by rw [List.length_map]; omega)))) pds_nil)) (pd_var 3) (by simp)) rfl) rfl
    intro i d y hd hy D o s H C cl fp
    rw [List.getElem?_map] at hd hy
    cases e : u.rows[i]? with
    | none =>
      rw [e] at hd
      cases hd
    | some cs =>
      rw [e] at hd hy
      cases hd
      cases hy
      exact pd_tupleL B.tuple (PD.pl (pd_var 12))
end
end K41

namespace K41
open PySem PySem.Spec PyProof.Rows L2 FP
section
variable {P : Program} {w : World} {K : PySem.W.Frag} {mg : Str → Option Value} {base : Heap} {f C CF : Addr} {fd : FuncData}
theorem ok_rc (F : Df K "_law_row_cost" s__law_row_cost f fd) (hm : mg "_law_row_cost" = some (.ref f)) (B : Bl mg) : DefOk P w K mg base 2 "_law_row_cost" frRc := by
  refine def_ok F hm sc_rc (fun _ _ _ _ _ _ us hl => match us, hl with | [_, _], _ => rfl) (fun ds r h => by obtain ⟨_, _, _, _, _, _, _, rfl, _⟩ := h; rfl) (fun cdv A outer s H E qs ds r hr h => ?_)
  obtain ⟨a, b, hl, l1, l20, ha, hb, rfl, rfl⟩ := h
  refine sd_ownP 2 (pn_rep1 (d := .int 0) (k := (b.length : Int) + 1) (PN.plt (pn_lst (pds_cons pd_int pds_nil))) (PD.eq (pd_add (pd_lenL B.len (PD.pl (pd_var 0))) pd_int) (by rw [hl])) (by omega) (by omega)) (fun Bd hB => ?_) sc_rc.nd
  have e0 : List.replicate ((b.length : Int) + 1).toNat (PyData.int 0) = bestL (fun _ => 0) b.length := by
    unfold bestL
    rw [List.map_const', List.length_range, show ((b.length : Int) + 1).toNat = b.length + 1 by omega]
    rfl
  rw [e0]
  refine sd_for 3 (items := rangeS ((b.length : Int) - 1) (-1) b.length) (fun i δ' ω' => ∃ D y3 y4 y5, DpF a b D (b.length - i) ∧ δ' = [some (.im (.list a)), some (.im (.list b)), some (.ad Bd), y3, y4, y5] ∧ ω' = ⟨qs, [(Bd, .lst ((bestL D b.length).map .im))]⟩)
    (wk_range3 B.range (pds_cons (d := .int ((b.length : Int) - 1)) (PD.eq (pd_sub (pd_lenL B.len (PD.pl (pd_var 0))) pd_int) (by rw [hl])) (pds_cons (pd_neg pd_int) (pds_cons (pd_neg pd_int) pds_nil))) (by
      have h := RgC.neg (i := (b.length : Int) - 1) (j := -1) (by omega) (by omega) (by omega) (by omega)
      rw [show ((b.length : Int) - 1 - -1).toNat = b.length by omega] at h
      exact h))
    ⟨fun _ => 0, _, _, _, ⟨rfl, (fun x h1 h2 => absurd h1 (by omega)), (fun x e h1 h2 h3 => absurd h1 (by omega)), (fun x h1 h2 => absurd h1 (by omega))⟩, rfl, rfl⟩ ?_ ?_ (pg_name sc_rc.nd rfl (Or.inl rfl)) (passes_of rfl) rfl
  · rintro i d δ' ω' hd ⟨D, y3, y4, y5, dp, rfl, rfl⟩
    have hi : i < b.length := by
      have := (List.getElem?_eq_some_iff.mp hd).1
      rw [rangeS_len] at this
      exact this
    rw [rangeS_get hi] at hd
    cases hd
    have ex : ((b.length : Int) - 1 + (i : Int) * -1) = ((b.length - 1 - i : Nat) : Int) := by omega
    rw [ex]
    rw [show b.length - i = (b.length - 1 - i) + 1 by omega] at dp
    refine rc_body B (hr.mono (by decide)) hl l20 ha hb (by omega) dp fun D' y4 y5 dp' => ⟨D', _, _, _, ?_, rfl, rfl⟩
    rw [show b.length - (i + 1) = b.length - 1 - i by omega]
    exact dp'
  · rintro δ' ω' ⟨D, y3, y4, y5, dp, rfl, rfl⟩
    rw [rangeS_len, Nat.sub_self] at dp
    refine sd_ret (d := .int (D 0 : Int)) (pd_ixL (PLt.pl (PS1.plt (ps1_var 2) List.mem_cons_self)) pd_int (atI_nat (j := 0) (bestL_at (Nat.zero_le _)))) ?_
    rw [dp_is dp.dp]
    rfl
def frLst : List PyData → Rs → Prop := fun ds q => ∃ s o : Sc, s.Ok ∧ o.Ok ∧ o.h = s.h ∧ o.w = s.w ∧ ds = [s.d, o.d] ∧ q = .ok (.int (costs (coS s o)))
abbrev NLs : List Str := ["_law_one", "_law_other_here", "_law_rows", "_law_some", "_law_by", "_law_here", "_law_found", "_law_cells", "_law_a", "_law_b"]
theorem sc_lst : FnScope NLs ["_law_one", "_law_other_here"] (defScope s__law_least) := ⟨rfl, rfl, rfl, by decide +kernel, rfl, by decide +kernel, by decide +kernel⟩
theorem zl_get (rs os : List (List PyData)) (w : Nat) (i : Nat) (x y : PyData) (h : (zipL (rs.map .list) (os.map .tuple))[i]? = some [x, y]) : ∃ a b, rs[i]? = some a ∧ os[i]? = some b ∧ x = .list a ∧ y = .tuple b := by
  obtain ⟨x', y', h1, h2, e⟩ := zipL_at h
  cases e
  rw [List.getElem?_map] at h1 h2
  cases ea : rs[i]? with
  | none => rw [ea] at h1; cases h1
  | some a =>
    cases eb : os[i]? with
    | none => rw [eb] at h2; cases h2
    | some b =>
      rw [ea] at h1
      rw [eb] at h2
      exact ⟨a, b, rfl, rfl, (Option.some.inj h1).symm, (Option.some.inj h2).symm⟩
theorem ok_lst (F : Df K "_law_least" s__law_least f fd) (hm : mg "_law_least" = some (.ref f)) (B : Bl mg) (ml : mg "list" = none) (mz : mg "zip" = none) (msu : mg "sum" = none) (GR : DefOk P w K mg base 1 "_law_rolled" frLRolled) (GC : DefOk P w K mg base 2 "_law_row_cost" frRc) : DefOk P w K mg base 3 "_law_least" frLst := by
  refine def_ok F hm sc_lst (fun _ _ _ _ _ _ us hl => match us, hl with | [_, _], _ => rfl) (fun ds r h => by obtain ⟨_, _, _, _, _, _, rfl, _⟩ := h; rfl) (fun cdv A outer sh H E qs ds r hr h => ?_)
  obtain ⟨s, o, os, oo, hh, hw, rfl, rfl⟩ := h
  have h10 := os.h10
  have w20 := os.w20
  have ls := os.len
  have lo := oo.len
  have hr0 := os.hr
  have hc0 := os.hc
  have lz : (s.rows.map PyData.list).length = s.h := by rw [List.length_map, ls]
  refine sd_setLc 2 (y := "_law_cells") (j := 7) (items := s.rows.map .tuple) (ys := s.rows.map .list) rfl sc_lst.nd (PWk.ws (wk_tup (pd_ixT (d := .tuple (s.rows.map .tuple)) (pd_var 0) pd_int atI0))) (by rw [List.length_map, List.length_map]) (blkOk_by (N := NLs) (sc := defScope s__law_least) (by decide +kernel)) (fun _ _ _ _ _ => pg_name sc_lst.nd rfl (Or.inl rfl)) (fun i d y hd hy D ox sx H C cl fp => ?el) (by rw [List.length_map]; omega) (sw_true rfl rfl rfl (by decide +kernel)) ?_
  case el =>
    rw [List.getElem?_map] at hd hy
    cases e : s.rows[i]? with
    | none => rw [e] at hd; cases hd
    | some x =>
      rw [e] at hd hy
      cases hd
      cases hy
      exact PN.pd (pn_listT ml (pd_var 7))
  refine sd_ownP 3 (ds := []) (pn_lst pds_nil) (fun S hS => ?_) sc_lst.nd
  refine sd_for 4 (items := rangeD (0 - (s.h : Int)) ((s.h : Int) + 1 - (0 - (s.h : Int))).toNat) (fun i δ' ω' => ∃ y4 y5 y6, δ' = [some (.im s.d), some (.im o.d), some (.im (.list (s.rows.map .list))), some (.ad S), y4, y5, y6, none, none, none] ∧ ω' = ⟨qs, [(S, .lst ((((List.range i).map fun (j : Nat) => totC s o (-(s.h : Int) + (j : Int))).map PyData.int).map .im))]⟩)
    (wk_range2 B.range (PD.eq (pd_sub pd_int (pd_lenL B.len (PD.pl (pd_var 2)))) (by rw [lz])) (PD.eq (pd_add (pd_lenL B.len (PD.pl (pd_var 2))) pd_int) (by rw [lz])) (by omega)) ⟨_, _, _, rfl, rfl⟩ ?_ ?_ (pg_name sc_lst.nd rfl (Or.inl rfl)) (passes_of rfl) rfl
  · rintro i d δ' ω' hd ⟨y4, y5, y6, rfl, rfl⟩
    have hi : i < 2 * s.h + 1 := by
      have := (List.getElem?_eq_some_iff.mp hd).1
      rw [rangeD_len] at this
      omega
    rw [rangeD_get (by omega)] at hd
    cases hd
    generalize eb : (0 - (s.h : Int) + (i : Int)) = b
    have eb2 : -(s.h : Int) + (i : Int) = b := by omega
    have lr : (rollA s.rows s.w b).length = s.h := by rw [rollA_len, ls]
    refine sd_set 5 (d := .list ((rollA s.rows s.w b).map .list)) (pd_if (pt_cmpd op_ne rd_neI (pd_var 4) pd_int (nomark _)) (fun _ => pd_call GR (hr.mono (by decide)) (pds_cons (pd_var 2) (pds_cons (pd_var 4) pds_nil)) ⟨s.rows, s.w, b, by omega, by omega, fun r hr => (os.wid r hr).1, w20, by omega, by omega, rfl, rfl⟩) (fun hk => ?z)) ?_ sc_lst.nd
    case z =>
      have z : b = 0 := by
        rw [Bool.not_eq_false', decide_eq_true_eq] at hk
        exact hk
      rw [z, roll0]
      exact pd_var 2
    refine sd_set 6 (d := .int (rowCs s o b s.h).sum) (pd_sumI rfl msu (PN.pl (pn_lcT2 (n1 := "_law_a") (n2 := "_law_b") (j1 := 8) (j2 := 9) (items := zipL ((rollA s.rows s.w b).map .list) (o.rows.map .tuple)) rfl sc_lst.nd (wt_zip .l .t mz (pd_var 5) (pd_ixT (d := .tuple (o.rows.map .tuple)) (pd_var 1) pd_int atI0) rfl rfl) (fun ds h => zipL_two h) ?len ?le (blkOk_by (N := NLs) (sc := defScope s__law_least) (by decide +kernel)) (fun _ _ _ _ _ => pg_tup rfl (pgs_cons (pg_name sc_lst.nd rfl (Or.inl rfl)) (pgs_cons (pg_name sc_lst.nd rfl (Or.inl rfl)) pgs_nil))) (fun k l m z hl hz D ox sx H C cl fp => ?el)))) ?_ sc_lst.nd
    case len =>
      unfold rowCs
      rw [List.length_map, List.length_map, List.length_range, zipL_len, List.length_map, List.length_map, lr, lo, hh, Nat.min_self]
    case le =>
      rw [zipL_len, List.length_map, List.length_map, lr, lo]
      omega
    case el =>
      obtain ⟨x, y, h1, h2, rfl, rfl⟩ := zl_get _ _ 0 _ _ _ hl
      have hk : k < s.h := by
        have := (List.getElem?_eq_some_iff.mp h1).1
        omega
      unfold rowCs at hz
      rw [List.getElem?_map, List.getElem?_map, List.getElem?_range hk] at hz
      cases hz
      have ex : (rollA s.rows s.w b).getD k [] = x := by rw [List.getD_eq_getElem?_getD, h1]; rfl
      have ey : o.rows.getD k [] = y := by rw [List.getD_eq_getElem?_getD, h2]; rfl
      have so := (rolled_ok os b).row_at (r := k) hk
      have so2 : (rollA s.rows s.w b).getD k [] = x := ex
      obtain ⟨_, r1, r2⟩ := oo.row_at (r := k) (by omega)
      obtain ⟨_, t1, t2⟩ := so
      refine pd_call GC (hr.mono (by decide)) (pds_cons (pd_var 8) (pds_cons (PN.pd (pn_listT ml (pd_var 9))) pds_nil)) ⟨(rollA s.rows s.w b).getD k [], o.rows.getD k [], ?_, ?_, ?_, t2, r2, ?_, rfl⟩
      · rw [r1, hw]
        exact t1
      · rw [r1]
        omega
      · rw [r1]
        omega
      · rw [ex, ey]
    refine sd_appS (j := 0) (d := .int (totC s o b)) (ps1_var 3) rfl (PD.eq (pd_add (pd_var 6) (pd_mulS (.inl (by decide)) pd_int (pd_intB B.int (pd_cmp op_ne rd_neI (pd_var 4) pd_int (nomark _))))) ?_) (sd_nil ⟨_, _, _, rfl, ?_⟩) (by rw [List.length_map, List.length_map, List.length_map, List.length_range]; omega)
    · unfold totC
      congr 2
      by_cases z : b = 0
      · rw [z]; rfl
      · rw [decide_eq_false z, if_pos z]; rfl
    · rw [List.range_succ, List.map_append, List.map_append, List.map_append, List.map_cons, List.map_nil, eb2]
      rfl
  · rintro δ' ω' ⟨y4, y5, y6, rfl, rfl⟩
    rw [rangeD_len, show ((s.h : Int) + 1 - (0 - (s.h : Int))).toNat = 2 * s.h + 1 by omega]
    obtain ⟨m, hm, hl⟩ := has_min (l := (List.range (2 * s.h + 1)).map fun (j : Nat) => totC s o (-(s.h : Int) + (j : Int))) (by
      intro z
      have := congrArg List.length z
      rw [List.length_map, List.length_range] at this
      cases this)
    refine sd_ret (d := .int (m + curC s o)) (PD.eq (pd_add (pd_minL rfl B.min (PLt.pl (PS1.plt (ps1_var 3) List.mem_cons_self)) hm hl) (pd_mulS (.inl (by decide)) pd_int (pd_intB B.int (pd_cmp (op_neD hr.units) (rd_neD ((Shp.tup (n := 0) (ds := [.int (s.row : Int), .int (s.col : Int)]) fun x hx => ?s1).ok (by decide)) ((Shp.tup (n := 0) (ds := [.int (o.row : Int), .int (o.col : Int)]) fun x hx => ?s2).ok (by decide))) (PD.eq (pd_slT (i := some 1) (j := none) (pd_var 0) ⟨_, rfl, pd_int⟩ rfl) (by rw [cut_two])) (PD.eq (pd_slT (i := some 1) (j := none) (pd_var 1) ⟨_, rfl, pd_int⟩ rfl) (by rw [cut_two])) (nomark _))))) ?_) ?_
    case s1 =>
      simp only [List.mem_cons, List.not_mem_nil, or_false] at hx
      rcases hx with rfl | rfl <;> exact .int _
    case s2 =>
      simp only [List.mem_cons, List.not_mem_nil, or_false] at hx
      rcases hx with rfl | rfl <;> exact .int _
    · rw [eqv_two]
      by_cases z1 : s.row = o.row
      · by_cases z2 : s.col = o.col
        · have e : curC s o = 0 := if_pos ⟨z1, z2⟩
          rw [decide_eq_true (show (s.row : Int) = (o.row : Int) by omega), decide_eq_true (show (s.col : Int) = (o.col : Int) by omega), e]
          rfl
        · have e : curC s o = 3 := if_neg (fun z => z2 z.2)
          rw [decide_eq_true (show (s.row : Int) = (o.row : Int) by omega), decide_eq_false (show ¬ (s.col : Int) = (o.col : Int) by omega), e]
          rfl
      · have e : curC s o = 3 := if_neg (fun z => z1 z.1)
        rw [decide_eq_false (show ¬ (s.row : Int) = (o.row : Int) by omega), Bool.false_and, e]
        rfl
    · have hL : ∀ y, y ∈ (List.range (2 * s.h + 1)).map (fun (j : Nat) => totC s o (-(s.h : Int) + (j : Int))) ↔ ∃ b : Int, -(s.h : Int) ≤ b ∧ b ≤ (s.h : Int) ∧ y = totC s o b := by
        intro y
        constructor
        · intro h
          obtain ⟨j, hj, e⟩ := List.mem_map.mp h
          have hj := List.mem_range.mp hj
          exact ⟨_, by omega, by omega, e.symm⟩
        · rintro ⟨b, b1, b2, rfl⟩
          exact List.mem_map.mpr ⟨(b + (s.h : Int)).toNat, List.mem_range.mpr (by omega), by rw [show -(s.h : Int) + ((b + (s.h : Int)).toNat : Int) = b by omega]⟩
      rw [least_is os hL hm hl]
      rfl
end
end K41

namespace K41
open PySem PySem.Spec PyProof.Rows L2 FP
theorem cut_butlast (ds : List PyData) : FP.cutD ds none (some (-1)) = ds.dropLast := by
  unfold FP.cutD
  rw [HT.sIx_none, List.drop_zero, Nat.sub_zero, List.dropLast_eq_take]
  have e : HT.sIx ds.length ds.length (some (-1)) = ((-1 : Int) + (ds.length : Int)).toNat := by
    show (if (-1 : Int) < 0 then ((-1 : Int) + (ds.length : Int)).toNat else min (-1 : Int).toNat ds.length) = _
    rw [if_pos (by decide)]
  rw [e]
  congr 1
  omega
theorem Pt.word_at (p : Pt) : ∃ ds, p.d = .tuple (.str p.word :: ds) := by
  cases p with
  | roll n => exact ⟨_, rfl⟩
  | cur r c => exact ⟨_, rfl⟩
  | put r c k z => exact ⟨_, rfl⟩
theorem any_words (k : Str) (ws : List Str) (h : k ∉ ws) : ((ws.map PyData.str).any fun z => PyData.eqv z (.str k)) = false := by
  rw [List.any_eq_false]
  intro z hz e
  obtain ⟨w, hw, rfl⟩ := List.mem_map.mp hz
  have : w = k := by
    unfold PyData.eqv at e
    exact of_decide_eq_true e
  exact h (this ▸ hw)
theorem un65 {k : Nat} {A : Around} (h : Room k A) : A.units + 65 < cLine := by have := h.un; omega
section
variable {P : Program} {w : World} {K : PySem.W.Frag} {mg : Str → Option Value} {base : Heap} {f C CF : Addr} {fd : FuncData}
def frKind : List PyData → Rs → Prop := fun ds q => ∃ s o : Sc, s.Ok ∧ o.Ok ∧ o.h = s.h ∧ o.w = s.w ∧ ds = [.list ((coS s o).map Pt.d), .int (s.h : Int), .int (s.w : Int)] ∧ q = .ok (.bool true)
abbrev NKi : List Str := ["_law_change", "_law_height", "_law_width", "_law_part_here", "_law_words", "_law_there", "_law_j"]
theorem sc_kind : FnScope NKi ["_law_change", "_law_height", "_law_width"] (defScope s__law_is_kind) := ⟨rfl, rfl, rfl, by decide +kernel, rfl, by decide +kernel, by decide +kernel⟩
theorem ok_kind (F : Df K "_law_is_kind" s__law_is_kind f fd) (hm : mg "_law_is_kind" = some (.ref f)) (B : Bl mg) (mset : mg "set" = none) : DefOk P w K mg base 1 "_law_is_kind" frKind := by
  refine def_ok F hm sc_kind (fun _ _ _ _ _ _ us hl => match us, hl with | [_, _, _], _ => rfl) (fun ds r h => by obtain ⟨_, _, _, _, _, _, rfl, _⟩ := h; rfl) (fun cdv A outer sh H E qs ds r hr h => ?_)
  obtain ⟨s, o, os, oo, hh, hw, rfl, rfl⟩ := h
  have h10 := os.h10
  have h1 : 1 ≤ s.h := by have := os.hr; omega
  obtain ⟨b, b1, b2, e⟩ := coS_in (o := o) h1
  obtain ⟨w1, w2, w3, w4⟩ := chg_words s o b
  obtain ⟨nd, small, few⟩ := chg_pairs (s := s) oo hh b
  rw [e]
  have lim := chg_len os oo hh b
  generalize chg s o b = ps at *
  have strW : ∀ x ∈ ps.map Pt.word, PyData.strOk x = true := fun x hx => by
    obtain ⟨p, _, rfl⟩ := List.mem_map.mp hx
    cases p with
    | roll n => exact (show PyData.strOk ("roll" : Str) = true by decide +kernel)
    | cur r c => exact (show PyData.strOk ("cursor" : Str) = true by decide +kernel)
    | put r c k z => exact (show PyData.strOk ("put" : Str) = true by decide +kernel)
  have shpW : ∀ ws : List Str, (∀ x ∈ ws, x ∈ ps.map Pt.word) → SeqAt.shaped (.list (ws.map .str)) = true := fun ws h => (Shp.lst (n := 0) fun x hx => by
    obtain ⟨w, hw, rfl⟩ := List.mem_map.mp hx
    exact .str (strW w (h w hw))).ok (by decide)
  refine sd_setLc 4 (y := "_law_part_here") (j := 3) (items := ps.map Pt.d) (ys := (ps.map Pt.word).map .str) rfl sc_kind.nd (PWk.ws (wk_lst (pd_var 0))) (by rw [List.length_map, List.length_map, List.length_map]) (blkOk_by (N := NKi) (sc := defScope s__law_is_kind) (by decide +kernel)) (fun _ _ _ _ _ => pg_name sc_kind.nd rfl (Or.inl rfl)) (fun i d y hd hy D ox sx H C cl fp => ?el) (by rw [List.length_map]; omega) (sw_true rfl rfl rfl (by decide +kernel)) ?_
  case el =>
    rw [List.getElem?_map] at hd hy
    rw [List.getElem?_map] at hy
    cases e : ps[i]? with
    | none => rw [e] at hd; cases hd
    | some p =>
      rw [e] at hd hy
      cases hd
      cases hy
      obtain ⟨ds, ed⟩ := p.word_at
      rw [ed]
      exact pd_ixT (ds := .str p.word :: ds) (pd_var 3) pd_int atI0
  refine sd_ifF (PTd.eq (PWd.pt (pw_ord (pt_cmpd op_gt rd_B0 (pd_countT (k := "roll") (PD.pl (pd_var 4)) pd_str) pd_int (nomark _)) (fun _ => pw_or1d (pt_cmpd op_gt rd_B0 (pd_countT (k := "cursor") (PD.pl (pd_var 4)) pd_str) pd_int (nomark _))))) ?c1) ?_
  case c1 =>
    rw [Bool.or_eq_false_iff, decide_eq_false_iff_not, decide_eq_false_iff_not]
    omega
  refine sd_ifF (PTd.eq (PWd.pt (pw_ord (pt_inL (da := .str "roll") (ds := ((ps.map Pt.word).drop 1).map .str) ((Shp.str (n := 0) (by decide +kernel)).ok) (shpW _ fun x hx => List.mem_of_mem_drop hx) (un65 hr) pd_str (PN.pl (PN.eq (pn_slL (i := some ((1 : Nat) : Int)) (j := none) (PD.pl (pd_var 4)) ⟨_, rfl, pd_int⟩ rfl) (by rw [cut_from, List.map_drop])))) (fun _ => pw_or1d (pt_inL (da := .str "cursor") (ds := ((ps.map Pt.word).dropLast).map .str) ((Shp.str (n := 0) (by decide +kernel)).ok) (shpW _ fun x hx => List.dropLast_subset _ hx) (un65 hr) pd_str (PN.pl (PN.eq (pn_slL (i := none) (j := some (-1)) (PD.pl (pd_var 4)) rfl ⟨_, rfl, pd_neg pd_int⟩) (by rw [cut_butlast, List.map_dropLast]))))))) ?c2) ?_
  case c2 =>
    rw [any_words _ _ w3, any_words _ _ w4]
    rfl
  refine sd_set 5 (d := .list ([] : List PyData)) (PN.pd (pn_lst pds_nil)) ?_ sc_kind.nd
  refine sd_for 3 (items := ps.map Pt.d) (fun i δ' ω' => ω' = ⟨qs, []⟩ ∧ ∃ y3 y6, δ' = [some (.im (.list (ps.map Pt.d))), some (.im (.int (s.h : Int))), some (.im (.int (s.w : Int))), y3, some (.im (.list ((ps.map Pt.word).map .str))), some (.im (.list (((ps.take i).flatMap Pt.pairs).map pairI))), y6])
    (wk_lst (pd_var 0)) ⟨rfl, _, _, rfl⟩ ?_ ?_ (pg_name sc_kind.nd rfl (Or.inr rfl)) (passes_of rfl) rfl
  · rintro i d δ' ω' hd ⟨rfl, y3, y6, rfl⟩
    rw [List.getElem?_map] at hd
    cases e : ps[i]? with
    | none => rw [e] at hd; cases hd
    | some p =>
      rw [e] at hd
      cases hd
      have et : (ps.take (i + 1)).flatMap Pt.pairs = (ps.take i).flatMap Pt.pairs ++ p.pairs := by
        rw [List.take_add_one, e, List.flatMap_append]
        show _ ++ (p.pairs ++ []) = _
        rw [List.append_nil]
      have hz : ((ps.take i).flatMap Pt.pairs ++ p.pairs).length ≤ 200 := by
        rw [← et]
        refine Nat.le_trans ?_ few
        have z : ps.flatMap Pt.pairs = (ps.take (i + 1)).flatMap Pt.pairs ++ (ps.drop (i + 1)).flatMap Pt.pairs := by rw [← List.flatMap_append, List.take_append_drop]
        rw [z, List.length_append]
        exact Nat.le_add_right _ _
      rw [List.length_append] at hz
      cases p with
      | roll n => 
        refine sd_ifF (PTd.eq (pt_cmpd op_eq rd_eqS (pd_ixT (d := .str "roll") (pd_var 3) pd_int atI0) pd_str (nomark _)) (by decide +kernel)) (sd_nil ⟨rfl, some (.im (Pt.roll n).d), y6, ?_⟩)
        rw [et, show (Pt.roll n).pairs = [] from rfl, List.append_nil]
        rfl
      | cur r c => 
        refine sd_ifF (PTd.eq (pt_cmpd op_eq rd_eqS (pd_ixT (d := .str "cursor") (pd_var 3) pd_int atI0) pd_str (nomark _)) (by decide +kernel)) (sd_nil ⟨rfl, some (.im (Pt.cur r c).d), y6, ?_⟩)
        rw [et, show (Pt.cur r c).pairs = [] from rfl, List.append_nil]
        rfl
      | put r c k z =>
        have ep : (Pt.put r c k z).pairs = (List.range z.length).map fun j => (r, c + j) := rfl
        have zl : z.length ≤ 200 := by
          rw [ep, List.length_map, List.length_range] at hz
          omega
        refine sd_ifT (PTd.eq (pt_cmpd op_eq rd_eqS (pd_ixT (d := .str "put") (pd_var 3) pd_int atI0) pd_str (nomark _)) (by decide +kernel)) ?_
        refine sd_set 5 (PN.pd (pn_catL (PD.pl (pd_var 5)) (PN.pl (pn_lc (y := "_law_j") (j := 6) (items := rangeD 0 ((z.length : Nat) : Int).toNat) (ys := (Pt.put r c k z).pairs.map pairI) rfl sc_kind.nd (PWk.ws (wk_range1 (j := (z.length : Int)) B.range (pd_lenS B.len (pd_ixT (d := .str z) (pd_var 3) pd_int (atI_nat (j := 4) rfl)) (by omega)) (by omega))) ?len (blkOk_by (N := NKi) (sc := defScope s__law_is_kind) (by decide +kernel)) (fun _ _ _ _ _ => pg_name sc_kind.nd rfl (Or.inl rfl)) ?el ?le)) ?hz)) (sd_nil (sd_nil ⟨rfl, some (.im (Pt.put r c k z).d), y6, ?_⟩)) sc_kind.nd
        case len => rw [ep, List.length_map, List.length_map, List.length_range, rangeD_nat]
        case le => rw [rangeD_nat]; omega
        case hz => rw [List.length_map, List.length_map]; omega
        case el =>
          intro i d y hd hy D o s H C cl fp
          obtain ⟨hj, rfl⟩ := rangeD_at hd
          rw [ep, List.getElem?_map, List.getElem?_map, List.getElem?_range hj] at hy
          cases hy
          exact pd_tup (pds_cons (pd_ixT (d := .int (r : Int)) (pd_var 3) pd_int atI1) (pds_cons (PD.eq (pd_add (pd_ixT (d := .int (c : Int)) (pd_var 3) pd_int (atI_nat (j := 2) rfl)) (pd_var 6)) (by rw [Int.natCast_add])) pds_nil))
        · rw [et, List.map_append]
          rfl
  · rintro δ' ω' ⟨rfl, y3, y6, rfl⟩
    rw [List.length_map, List.take_length]
    refine sd_ret (PD.eq (pd_cmp op_eq rd_eqI (pd_lenSetP nd small (by omega) rfl (by have := un65 hr; exact Nat.lt_of_le_of_lt (Nat.add_le_add_left (by decide) _) this) B.len mset (PD.pl (pd_var 5))) (pd_lenL B.len (PD.pl (pd_var 5))) (nomark _)) ?_) rfl
    rw [List.length_map, decide_eq_true rfl]
end
end K41

namespace K41
open PySem PySem.Spec PyProof.Rows L2 FP
theorem partL_done (m : Int) {s : Sc} (h1 : 1 ≤ s.h) (w1 : 1 ≤ s.w) : ∃ t, s.part (partL m s.h s.w) = some t := by
  have q1 := Int.emod_nonneg (m / 8) (show (s.h : Int) ≠ 0 by omega)
  have q2 := Int.emod_lt_of_pos (m / 8) (show (0 : Int) < (s.h : Int) by omega)
  obtain ⟨c1, _⟩ := colL_lt (m / 8) w1
  obtain ⟨a1, a2, a3⟩ := manyL_b (m / 8) w1
  unfold partL
  split
  · exact ⟨_, rfl⟩
  · split
    · exact ⟨_, if_pos ⟨by omega, by omega⟩⟩
    · exact ⟨_, if_pos ⟨by omega, by rw [txt_len]; exact a2⟩⟩
theorem parts_ex : ∀ (ms : List Int) {s : Sc}, s.Ok → ∃ t, s.all (ms.map fun x => partL x s.h s.w) = some t ∧ t.Ok ∧ t.h = s.h ∧ t.w = s.w
  | [], s, o => ⟨s, rfl, o, rfl, rfl⟩
  | m :: ms, s, o => by
    have hr := o.hr
    have hc := o.hc
    obtain ⟨t, e⟩ := partL_done m (show 1 ≤ s.h by omega) (show 1 ≤ s.w by omega)
    obtain ⟨o1, e1, e2⟩ := o.part (partL_ok m (by omega) o.h10 (by omega) o.w20) e
    obtain ⟨u, e3, o2, e4, e5⟩ := parts_ex ms o1
    rw [e1, e2] at e3
    refine ⟨u, ?_, o2, e4.trans e1, e5.trans e2⟩
    show (match s.part (partL m s.h s.w) with | some t => t.all (ms.map fun x => partL x s.h s.w) | none => none) = _
    rw [e]
    exact e3
def scL (m : Int) (h wd : Nat) : Sc := ⟨(List.range h).map fun (j : Nat) => rowL m wd j, (m / 8 % (h : Int)).toNat, (m / 128 % (wd : Int)).toNat, h, wd⟩
theorem scL_d (m : Int) {h wd : Nat} (h1 : 1 ≤ h) (w1 : 1 ≤ wd) : (scL m h wd).d = faceL m h wd := by
  have q1 := Int.emod_nonneg (m / 8) (show (h : Int) ≠ 0 by omega)
  have q2 := Int.emod_nonneg (m / 128) (show (wd : Int) ≠ 0 by omega)
  unfold Sc.d scL faceL rowsL
  rw [List.map_map, Int.toNat_of_nonneg q1, Int.toNat_of_nonneg q2]
  rfl
theorem scL_ok (m : Int) {h wd : Nat} (h1 : 1 ≤ h) (h2 : h ≤ 10) (w1 : 1 ≤ wd) (w2 : wd ≤ 20) : (scL m h wd).Ok := by
  have q1 := Int.emod_nonneg (m / 8) (show (h : Int) ≠ 0 by omega)
  have q2 := Int.emod_nonneg (m / 128) (show (wd : Int) ≠ 0 by omega)
  have q3 := Int.emod_lt_of_pos (m / 8) (show (0 : Int) < (h : Int) by omega)
  have q4 := Int.emod_lt_of_pos (m / 128) (show (0 : Int) < (wd : Int) by omega)
  refine ⟨by unfold scL; rw [List.length_map, List.length_range], fun r hr => ?_, by show (m / 8 % (h : Int)).toNat < h; omega, by show (m / 128 % (wd : Int)).toNat < wd; omega, h2, w2⟩
  obtain ⟨j, _, rfl⟩ := List.mem_map.mp hr
  obtain ⟨cs, e1, e2, e3⟩ := rowL_row m wd j
  cases e1
  exact ⟨e2, e3⟩
def zC : PyData := .tuple [.str "z", .int 1]
def mixR (m : Int) (r : List PyData) : List PyData := (List.range r.length).map fun (j : Nat) => if drawn m (30 + (j : Int)) % 9 > 0 then r.getD j .none else zC
def changeL (m : Int) (h wd : Nat) : List Pt := ((List.range (m / 8 % 6).toNat).map fun (j : Nat) => drawn m (j : Int)).map fun x => partL x h wd
def foundS (s : Sc) (m : Int) : Sc := (s.all (changeL m s.h s.w)).getD s
def mixS (t : Sc) (m : Int) : Sc := { t with rows := t.rows.map (mixR m) }
def otherS (s : Sc) (m : Int) : Sc := if m % 5 = 0 then scL (drawn m 1) s.h s.w else if m % 5 = 1 then mixS (foundS s m) m else foundS s m
theorem found_ok {s : Sc} (o : s.Ok) (m : Int) : s.all (changeL m s.h s.w) = some (foundS s m) ∧ (foundS s m).Ok ∧ (foundS s m).h = s.h ∧ (foundS s m).w = s.w := by
  obtain ⟨t, e, a, b, c⟩ := parts_ex ((List.range (m / 8 % 6).toNat).map fun (j : Nat) => drawn m (j : Int)) o
  have z : foundS s m = t := by
    unfold foundS changeL
    rw [e]
    rfl
  rw [z]
  exact ⟨e, a, b, c⟩
theorem mixR_len (m : Int) (r : List PyData) : (mixR m r).length = r.length := by
  unfold mixR
  rw [List.length_map, List.length_range]
theorem mix_ok {t : Sc} (o : t.Ok) (m : Int) : (mixS t m).Ok := by
  refine ⟨by unfold mixS; rw [List.length_map]; exact o.len, fun r hr => ?_, o.hr, o.hc, o.h10, o.w20⟩
  obtain ⟨r0, h0, rfl⟩ := List.mem_map.mp hr
  obtain ⟨a, b⟩ := o.wid r0 h0
  refine ⟨(mixR_len _ _).trans a, fun y hy => ?_⟩
  obtain ⟨j, hj, rfl⟩ := List.mem_map.mp hy
  have hj := List.mem_range.mp hj
  split
  · rw [List.getD_eq_getElem?_getD, List.getElem?_eq_getElem hj]
    exact b _ (List.getElem_mem hj)
  · decide +kernel
theorem other_ok {s : Sc} (o : s.Ok) (m : Int) : (otherS s m).Ok ∧ (otherS s m).h = s.h ∧ (otherS s m).w = s.w := by
  have hr := o.hr
  have hc := o.hc
  obtain ⟨_, a, b, c⟩ := found_ok o m
  unfold otherS
  split
  · exact ⟨scL_ok _ (by omega) o.h10 (by omega) o.w20, rfl, rfl⟩
  · split
    · exact ⟨mix_ok a m, b, c⟩
    · exact ⟨a, b, c⟩
theorem changeL_ok (m : Int) {h wd : Nat} (h1 : 1 ≤ h) (h2 : h ≤ 10) (w1 : 1 ≤ wd) (w2 : wd ≤ 20) : ∀ p ∈ changeL m h wd, p.Ok := fun p hp => by
  unfold changeL at hp
  obtain ⟨n, _, rfl⟩ := List.mem_map.mp hp
  exact partL_ok _ h1 h2 w1 w2
section
variable {P : Program} {w : World} {K : PySem.W.Frag} {mg : Str → Option Value} {base : Heap} {f C CF : Addr} {fd : FuncData}
def frOther : List PyData → Rs → Prop := fun ds q => ∃ (s : Sc) (m : Int), s.Ok ∧ ds = [s.d, .int m, .int (s.h : Int), .int (s.w : Int)] ∧ q = .ok (otherS s m).d
abbrev NOt : List Str := ["_law_face_here", "_law_more", "_law_height", "_law_width", "_law_way", "_law_change", "_law_found", "_law_rows", "_law_cells", "_law_j", "_law_cell_here"]
theorem sc_ot : FnScope NOt ["_law_face_here", "_law_more", "_law_height", "_law_width"] (defScope s__law_other) := ⟨rfl, rfl, rfl, by decide +kernel, rfl, by decide +kernel, by decide +kernel⟩
theorem ok_other (F : Df K "_law_other" s__law_other f fd) (hm : mg "_law_other" = some (.ref f)) (B : Bl mg) (me : mg "enumerate" = none) (G1 : DefOk P w K mg base 1 "_law_drawn" frDrawn) (GF : DefOk P w K mg base 2 "_law_face" frLFace) (GP : DefOk P w K mg base 2 "_law_part" frLPart) (GC : DefOk P w K mg base 2 "_law_changed" frLChanged) : DefOk P w K mg base 3 "_law_other" frOther := by
  refine def_ok F hm sc_ot (fun _ _ _ _ _ _ us hl => match us, hl with | [_, _, _, _], _ => rfl) (fun ds r h => by obtain ⟨_, _, _, rfl, _⟩ := h; rfl) (fun cdv A outer sh H E qs ds r hr h => ?_)
  obtain ⟨s, m, os, rfl, rfl⟩ := h
  have h10 := os.h10
  have w20 := os.w20
  have hr0 := os.hr
  have hc0 := os.hc
  have hr1 : Room 1 (A.deeper (envOfC "_law_other" (defScope s__law_other) sh.heap.objs.size f cdv)) := hr.mono (by decide)
  have hr2 : Room 2 (A.deeper (envOfC "_law_other" (defScope s__law_other) sh.heap.objs.size f cdv)) := hr.mono (by decide)
  refine sd_set 4 (pd_mod (by decide) (pd_var 1) pd_int) ?_ sc_ot.nd
  refine sd_if (pt_cmpd op_eq rd_eqI (pd_var 4) pd_int (nomark _)) (fun hk => ?_) (fun hk => sd_nil ?_)
  · have hk := of_decide_eq_true hk
    have e : otherS s m = scL (drawn m 1) s.h s.w := if_pos hk
    rw [e, scL_d _ (by omega) (by omega)]
    exact sd_ret (pd_call GF hr2 (pds_cons (pd_call G1 hr1 (pds_cons (pd_var 1) (pds_cons pd_int pds_nil)) ⟨_, _, rfl, rfl⟩) (pds_cons (pd_var 2) (pds_cons (pd_var 3) pds_nil))) ⟨_, s.h, s.w, rfl, by omega, h10, by omega, w20, rfl⟩) rfl
  have hk := of_decide_eq_false hk
  obtain ⟨n, en, ln⟩ := mod_nat (m / 8) 6 (by decide)
  have en2 : (m / 8 % 6).toNat = n := by
    have : m / 8 % 6 = (n : Int) := en
    omega
  have el : changeL m s.h s.w = (List.range n).map fun (j : Nat) => partL (drawn m (j : Int)) s.h s.w := by
    unfold changeL
    rw [en2, List.map_map]
    rfl
  obtain ⟨ea, fo, fh, fw⟩ := found_ok os m
  refine sd_setLc 5 (y := "_law_j") (j := 9) (items := rangeD 0 ((n : Nat) : Int).toNat) (ys := (changeL m s.h s.w).map Pt.d) rfl sc_ot.nd (PWk.ws (wk_range1 (j := (n : Int)) B.range (PD.eq (pd_mod (by decide) (pd_fdiv (wide_div (b := 4) (by decide) (by decide) (by decide) (by decide)) (pd_var 1) pd_int) pd_int) (by rw [← en]; rfl)) (by omega))) (by rw [el, rangeD_nat, List.length_map, List.length_map, List.length_range]) (blkOk_by (N := NOt) (sc := defScope s__law_other) (by decide +kernel)) (fun _ _ _ _ _ => pg_name sc_ot.nd rfl (Or.inl rfl)) (fun i d y hd hy D ox sx H C cl fp => ?el) (by rw [rangeD_nat]; omega) (sw_true rfl rfl rfl (by decide +kernel)) ?_
  case el =>
    obtain ⟨hj, rfl⟩ := rangeD_at hd
    rw [el, List.getElem?_map, List.getElem?_map, List.getElem?_range hj] at hy
    cases hy
    exact pd_call GP hr2 (pds_cons (pd_call G1 hr1 (pds_cons (pd_var 1) (pds_cons (pd_var 9) pds_nil)) ⟨_, _, rfl, rfl⟩) (pds_cons (pd_var 2) (pds_cons (pd_var 3) pds_nil))) ⟨_, s.h, s.w, by omega, h10, by omega, w20, rfl, rfl⟩
  refine sd_set 6 (d := (foundS s m).d) (pd_call GC hr2 (pds_cons (pd_var 0) (pds_cons (pd_var 5) pds_nil)) ⟨s, changeL m s.h s.w, os, changeL_ok m (by omega) h10 (by omega) w20, rfl, by rw [ea]; rfl⟩) ?_ sc_ot.nd
  refine sd_if (pt_cmpd op_eq rd_eqI (pd_var 4) pd_int (nomark _)) (fun hk1 => ?_) (fun hk1 => sd_nil ?_)
  · have hk1 := of_decide_eq_true hk1
    have e : otherS s m = mixS (foundS s m) m := by
      unfold otherS
      rw [if_neg hk, if_pos hk1]
    rw [e]
    generalize foundS s m = t at *
    have tl := fo.len
    refine sd_own 7 (pn_lst pds_nil) (fun D => ?_) sc_ot.nd
    refine sd_for 8 (items := t.rows.map .tuple) (fun i δ' ω' => ω' = omD ⟨qs, []⟩ D (.lst (((((t.rows.map (mixR m)).map PyData.tuple)).take i).map .im)) ∧ ∃ y8 y9 y10, δ' = [some (.im s.d), some (.im (.int m)), some (.im (.int (s.h : Int))), some (.im (.int (s.w : Int))), some (.im (.int (m % 5))), some (.im (.list ((changeL m s.h s.w).map Pt.d))), some (.im t.d), some (.ad D), y8, y9, y10])
      (wk_tup (pd_ixT (d := .tuple (t.rows.map .tuple)) (pd_var 6) pd_int atI0)) ⟨rfl, none, _, none, rfl⟩ ?_ ?_ (pg_name sc_ot.nd rfl (Or.inl rfl)) (passes_of rfl) rfl
    · rintro i d δ' ω' hd ⟨rfl, y8, y9, y10, rfl⟩
      rw [List.getElem?_map] at hd
      cases ei : t.rows[i]? with
      | none => rw [ei] at hd; cases hd
      | some r =>
        rw [ei] at hd
        cases hd
        obtain ⟨rl, rc⟩ := fo.wid r (List.mem_of_getElem? ei)
        refine sd_app 7 (d := .tuple (mixR m r)) (pd_tupleL B.tuple (PN.pl (pn_lcT2 (n1 := "_law_j") (n2 := "_law_cell_here") (j1 := 9) (j2 := 10) (items := enumD r) rfl sc_ot.nd (wt_enumT me (pd_var 8)) (fun ds h => enumD_two h) ?len ?le (blkOk_by (N := NOt) (sc := defScope s__law_other) (by decide +kernel)) (fun _ _ _ _ _ => pg_tup rfl (pgs_cons (pg_name sc_ot.nd rfl (Or.inl rfl)) (pgs_cons (pg_name sc_ot.nd rfl (Or.inl rfl)) pgs_nil))) (fun k l y z hl hz D ox sx H C cl fp => ?el)))) (sd_nil ⟨?_, _, _, _, rfl⟩) (by rw [List.length_take, List.length_map, List.length_map]; omega)
        case len => rw [mixR_len, enumD_len]
        case le => rw [enumD_len]; omega
        case el =>
          obtain ⟨d, hd, e9⟩ := enumD_get hl
          cases e9
          have hkl : k < r.length := (List.getElem?_eq_some_iff.mp hd).1
          unfold mixR at hz
          rw [List.getElem?_map, List.getElem?_range hkl] at hz
          cases hz
          refine pd_if (pt_cmpd op_gt rd_B0 (pd_mod (by decide) (pd_call G1 hr1 (pds_cons (pd_var 1) (pds_cons (pd_add pd_int (pd_var 9)) pds_nil)) ⟨_, _, rfl, rfl⟩) pd_int) pd_int (nomark _)) (fun h9 => ?_) (fun h9 => ?_)
          · refine PD.eq (pd_var 10) (d := y) ?_
            show y = if drawn m (30 + (k : Int)) % 9 > 0 then r.getD k .none else zC
            rw [if_pos (of_decide_eq_true h9), List.getD_eq_getElem?_getD, hd]
            rfl
          · refine PD.eq (d := zC) (pd_tup (pds_cons pd_str (pds_cons pd_int pds_nil))) ?_
            show zC = if drawn m (30 + (k : Int)) % 9 > 0 then r.getD k .none else zC
            rw [if_neg (of_decide_eq_false h9)]
        · rw [List.take_add_one, List.getElem?_map, List.getElem?_map, ei]
          rfl
    · rintro δ' ω' ⟨rfl, y8, y9, y10, rfl⟩
      rw [List.length_map, List.take_of_length_le (by rw [List.length_map, List.length_map]; exact Nat.le_refl _)]
      exact sd_ret (d := (mixS t m).d) (PD.eq (pd_catT (ds := [.tuple ((t.rows.map (mixR m)).map .tuple)]) (dt := [.int (t.row : Int), .int (t.col : Int)]) (pd_tup (pds_cons (pd_tupleL B.tuple (pl_var 7 List.mem_cons_self)) pds_nil)) (PD.eq (pd_slT (i := some 1) (j := none) (pd_var 6) ⟨_, rfl, pd_int⟩ rfl) (by rw [cut_two])) (by simp)) rfl) rfl
  · have hk1 := of_decide_eq_false hk1
    have e : otherS s m = foundS s m := by
      unfold otherS
      rw [if_neg hk, if_neg hk1]
    rw [e]
    exact sd_ret (pd_var 6) rfl
end
end K41

namespace K41
open PySem PySem.Spec PyProof.Rows L2 FP L2H
section
variable {P : Program} {w : World} {K : PySem.W.Frag} {mg : Str → Option Value} {base : Heap} {f C : Addr} {fd : FuncData}
theorem word_mono {k j : Nat} {wd : Str} {fw : Addr → PyData → Prop} (h : WordOk P w K mg base k wd fw) (hk : k ≤ j) : WordOk P w K mg base j wd fw := by
  obtain ⟨g, a, b, r⟩ := h.ex
  exact ⟨g, a, b, fun A outer s H q C d ps Q z1 z2 => r A outer s H q C d ps Q z1 (z2.mono hk)⟩
def refused (E : Str) : PyData := .tuple [.str "refused", .str E]
theorem shp_refused {E : Str} (h : PyData.strOk E = true) : Shp 1 (refused E) := Shp.tup fun x hx => by
  simp only [List.mem_cons, List.not_mem_nil, or_false] at hx
  rcases hx with rfl | rfl
  · exact .str (by decide +kernel)
  · exact .str h
abbrev NW : List Str := ["_law_e", "_law_flags", "_law_flag"]
theorem sc_word : FnScope NW ["_law_e"] (defScope s__law_word) := ⟨rfl, rfl, rfl, by decide +kernel, rfl, by decide +kernel, by decide +kernel⟩
def fwA (K : PySem.W.Frag) : Addr → PyData → Prop := fun D d => (D = He.ga K "BadFace" ∧ d = refused "BadFace") ∨ (D = He.ga K "BadChange" ∧ d = refused "BadChange")
abbrev askedBadFace : List (Str × Bool) := [("BadChange", false), ("BadDeed", false), ("BadFace", true), ("BadPacket", false), ("BadTalk", false)]
abbrev askedBadChange : List (Str × Bool) := [("BadChange", true), ("BadDeed", false), ("BadFace", false), ("BadPacket", false), ("BadTalk", false)]
structure Wd (K : PySem.W.Frag) (D : Addr) (asked : List (Str × Bool)) : Prop where
  EC : ExcC K D
  ka : ∀ c ∈ asked, PySem.W.kitOne K (.ref D) (.ref (He.ga K c.1)) = some c.2
  kv : PySem.W.kitOne K (.ref D) (.type "ValueError") = some true
theorem ok_word (F : Df K "_law_word" s__law_word f fd) (hm : mg "_law_word" = some (.ref f)) (mi : mg "isinstance" = none) (mn : mg "int" = none) (ms : mg "sum" = none) (mv : mg "ValueError" = none) (gl : ∀ c ∈ (["BadChange", "BadDeed", "BadFace", "BadPacket", "BadTalk"] : List Str), mg c = some (.ref (He.ga K c))) (WBadFace : Wd K (He.ga K "BadFace") askedBadFace) (WBadChange : Wd K (He.ga K "BadChange") askedBadChange) : WordOk P w K mg base 1 "_law_word" (fwA K) := by
  refine word_ok (N := NW) (n := 2) F hm sc_word rfl (fun _ _ _ _ _ _ us hl => match us, hl with | [_], _ => rfl) (fun cdv A outer s H q D d ps hf hot c1 c2 hr => ?_)
  have HC : HotC (cxH C8.CX0 P w K mg base NW "_law_word" (defScope s__law_word) f cdv A outer s H C8.E0 q) := ⟨q, hot, List.mem_cons_self⟩
  rcases hf with ⟨rfl, rfl⟩ | ⟨rfl, rfl⟩
  · have Z : Pin (cxH C8.CX0 P w K mg base NW "_law_word" (defScope s__law_word) f cdv A outer s H C8.E0 q) q (He.ga K "BadFace") := ⟨List.mem_cons_self, WBadFace.EC, c1, c2, let ⟨_, vs, h, _⟩ := hot; ⟨vs, h⟩⟩
    have is : ∀ {δ : De} {ω : Om} {p0 p1 p2 pos : Pos} (c : Str × Bool) (hc : c ∈ askedBadFace) (hc2 : c.1 ∈ (["BadChange", "BadDeed", "BadFace", "BadPacket", "BadTalk"] : List Str)) (hd : δ[0]? = some (some (.ad q.1))) (hg : Gl (cxH C8.CX0 P w K mg base NW "_law_word" (defScope s__law_word) f cdv A outer s H C8.E0 q) c.1) (hdb : (c.1 == ("__debug__" : Str)) = false),
        PD (cxH C8.CX0 P w K mg base NW "_law_word" (defScope s__law_word) f cdv A outer s H C8.E0 q) δ ω (.Call (.Name "isinstance" p0) [.Name "_law_e" p1, .Name c.1 p2] [] pos) (.bool c.2) :=
      fun {δ ω p0 p1 p2 pos} c hc hc2 hd hg hdb => pd_isP 0 (y := "_law_e") Z (pe_glob (v := .ref (He.ga K c.1)) hg (gl c.1 hc2) rfl hdb) (fun v r => r) (WBadFace.ka c hc) mi hd
    refine sd_set 1 (PN.pd (pn_lst (pds_cons (is ("BadChange", false) (by simp) (by simp) rfl rfl rfl) (pds_cons (is ("BadDeed", false) (by simp) (by simp) rfl rfl rfl) (pds_cons (is ("BadFace", true) (by simp) (by simp) rfl rfl rfl) (pds_cons (is ("BadPacket", false) (by simp) (by simp) rfl rfl rfl) pds_nil)))))) ?_ sc_word.nd
    refine sd_set 1 (PN.pd (pn_catL (PD.pl (pd_var 1)) (PN.pl (pn_lst (pds_cons (is ("BadTalk", false) (by simp) (by simp) rfl rfl rfl) pds_nil))) (by decide))) ?_ sc_word.nd
    refine sd_if (PWd.pt (pw_ord (pt_cmpd op_ne rd_neI (pd_sumH (bs := [false, false, true, false, false]) (j := 2) HC sc_word.nd (PD.pl (pd_var 1)) (by decide) (blkOk_by (N := NW) (sc := defScope s__law_word) (by decide +kernel)) (fun _ _ _ _ _ => pg_name sc_word.nd rfl (Or.inl rfl)) (fun b s H C cl fp => pd_intB mn (pd_var 2)) ms) pd_int (nomark _))
      (fun _ => pw_or1d (pt_notd (pt_bool (pd_isP 0 (y := "_law_e") (cv := .ty "ValueError") (u := .type "ValueError") Z (pe_bltn rfl mv (by decide +kernel) rfl) (fun v r => r) WBadFace.kv mi)))))) (fun hk => ?_) (fun _ => sd_nil ?_)
    · exact absurd hk (by decide)
    · refine sd_ret (pd_tup (pds_cons pd_str (pds_cons (pd_ixL (PN.pl (pn_lst (pds_cons pd_str (pds_cons pd_str (pds_cons pd_str (pds_cons pd_str (pds_cons pd_str pds_nil))))))) (pd_idxT (bs := [false, false, true, false, false]) (j := 2) (PD.pl (pd_var 1)) rfl (fun i hi => ?_)) (atI_nat (j := 2) rfl)) pds_nil))) rfl
      match i, hi with
      | 0, _ => rfl
      | 1, _ => rfl
  · have Z : Pin (cxH C8.CX0 P w K mg base NW "_law_word" (defScope s__law_word) f cdv A outer s H C8.E0 q) q (He.ga K "BadChange") := ⟨List.mem_cons_self, WBadChange.EC, c1, c2, let ⟨_, vs, h, _⟩ := hot; ⟨vs, h⟩⟩
    have is : ∀ {δ : De} {ω : Om} {p0 p1 p2 pos : Pos} (c : Str × Bool) (hc : c ∈ askedBadChange) (hc2 : c.1 ∈ (["BadChange", "BadDeed", "BadFace", "BadPacket", "BadTalk"] : List Str)) (hd : δ[0]? = some (some (.ad q.1))) (hg : Gl (cxH C8.CX0 P w K mg base NW "_law_word" (defScope s__law_word) f cdv A outer s H C8.E0 q) c.1) (hdb : (c.1 == ("__debug__" : Str)) = false),
        PD (cxH C8.CX0 P w K mg base NW "_law_word" (defScope s__law_word) f cdv A outer s H C8.E0 q) δ ω (.Call (.Name "isinstance" p0) [.Name "_law_e" p1, .Name c.1 p2] [] pos) (.bool c.2) :=
      fun {δ ω p0 p1 p2 pos} c hc hc2 hd hg hdb => pd_isP 0 (y := "_law_e") Z (pe_glob (v := .ref (He.ga K c.1)) hg (gl c.1 hc2) rfl hdb) (fun v r => r) (WBadChange.ka c hc) mi hd
    refine sd_set 1 (PN.pd (pn_lst (pds_cons (is ("BadChange", true) (by simp) (by simp) rfl rfl rfl) (pds_cons (is ("BadDeed", false) (by simp) (by simp) rfl rfl rfl) (pds_cons (is ("BadFace", false) (by simp) (by simp) rfl rfl rfl) (pds_cons (is ("BadPacket", false) (by simp) (by simp) rfl rfl rfl) pds_nil)))))) ?_ sc_word.nd
    refine sd_set 1 (PN.pd (pn_catL (PD.pl (pd_var 1)) (PN.pl (pn_lst (pds_cons (is ("BadTalk", false) (by simp) (by simp) rfl rfl rfl) pds_nil))) (by decide))) ?_ sc_word.nd
    refine sd_if (PWd.pt (pw_ord (pt_cmpd op_ne rd_neI (pd_sumH (bs := [true, false, false, false, false]) (j := 2) HC sc_word.nd (PD.pl (pd_var 1)) (by decide) (blkOk_by (N := NW) (sc := defScope s__law_word) (by decide +kernel)) (fun _ _ _ _ _ => pg_name sc_word.nd rfl (Or.inl rfl)) (fun b s H C cl fp => pd_intB mn (pd_var 2)) ms) pd_int (nomark _))
      (fun _ => pw_or1d (pt_notd (pt_bool (pd_isP 0 (y := "_law_e") (cv := .ty "ValueError") (u := .type "ValueError") Z (pe_bltn rfl mv (by decide +kernel) rfl) (fun v r => r) WBadChange.kv mi)))))) (fun hk => ?_) (fun _ => sd_nil ?_)
    · exact absurd hk (by decide)
    · refine sd_ret (pd_tup (pds_cons pd_str (pds_cons (pd_ixL (PN.pl (pn_lst (pds_cons pd_str (pds_cons pd_str (pds_cons pd_str (pds_cons pd_str (pds_cons pd_str pds_nil))))))) (pd_idxT (bs := [true, false, false, false, false]) (j := 0) (PD.pl (pd_var 1)) rfl (fun i hi => ?_)) (atI_nat (j := 0) rfl)) pds_nil))) rfl
      exact absurd hi (by omega)
end
end K41

namespace K41
open PySem PySem.Spec PyProof.Rows L2 FP
theorem rd_neS {K : PySem.W.Frag} {n : Nat} {d e : PyData} (h : Shp n d) (he : d = e) (hn : n ≤ 64 := by decide) : RD K (rNeD K) d e (.bool false) := by
  subst he
  have := rd_neD (K := K) (h.ok hn) (h.ok hn)
  rw [h.refl] at this
  exact this
theorem not_like {f1 s : Sc} (o : f1.Ok) (h : f1.h ≠ s.h ∨ f1.w ≠ s.w) : faceOf f1.d (s.h : Int) (s.w : Int) = false := by
  unfold faceOf
  rw [o.fc.face, Sc.hgt o, Sc.wid o, Bool.true_and]
  rcases h with h | h
  · rw [decide_eq_false (show ¬ ((f1.h : Int) = (s.h : Int)) by omega), Bool.false_and]
  · rw [decide_eq_false (show ¬ ((f1.w : Int) = (s.w : Int)) by omega), Bool.and_false]
section
variable {P : Program} {w : World} {K : PySem.W.Frag} {mg : Str → Option Value} {base : Heap} {f C CS : Addr} {fd : FuncData}
/-- what change_of refuses -/
def frCoB (C : Addr) : List PyData → Rs → Prop := fun ds q => (∃ s o : Sc, s.Ok ∧ o.Ok ∧ (o.h ≠ s.h ∨ o.w ≠ s.w) ∧ ds = [s.d, o.d] ∧ q = .er C) ∨ ∃ d e, isFace d = false ∧ smF d ∧ ds = [d, e] ∧ q = .er C
theorem ok_coB (F : Df K "change_of" s_change_of f fd) (hm : mg "change_of" = some (.ref f)) (GF : DefOk P w K mg base 5 "need_face" (frFace C)) (GL : DefOk P w K mg base 7 "need_face_like" (frLike C)) : DefOk P w K mg base 8 "change_of" (frCoB C) := by
  refine def_ok F hm sc_co (fun _ _ _ _ _ _ us hl => match us, hl with | [_, _], _ => rfl) (fun ds r h => by rcases h with ⟨_, _, _, _, _, rfl, _⟩ | ⟨_, _, _, _, rfl, _⟩ <;> rfl) (fun cdv A outer sh H E qs ds q hr h => ?_)
  have tk : L2N.Takes (cxOf (L2N.CX P w) P w K mg base NCo "change_of" (defScope s_change_of) f cdv A outer sh H E) (WOf E) := L2N.takes_of rfl rfl rfl rfl
  rcases h with ⟨s, o, os, oo, ne, rfl, rfl⟩ | ⟨d, e, nf, sm, rfl, rfl⟩
  · refine sd_callX GF (hr.mono (by decide)) tk (pds_cons (pd_var 0) pds_nil) ⟨s.d, rfl, rfl, os.fc.small⟩ (fun d1 e1 => ?_) (fun Z e1 => ?_)
    · refine sd_callX GL (hr.mono (by decide)) tk (pds_cons (pd_var 1) (pds_cons (pd_var 0) pds_nil)) ⟨o.d, s, os, rfl, oo.fc.small, rfl⟩ (fun d2 e2 => ?_) (fun Z e2 => ?_)
      · rw [not_like oo ne] at e2
        cases e2
      · rw [not_like oo ne] at e2
        cases e2
        rfl
    · rw [os.fc.face] at e1
      cases e1
  · refine sd_callX GF (hr.mono (by decide)) tk (pds_cons (pd_var 0) pds_nil) ⟨d, rfl, rfl, sm⟩ (fun d1 e1 => ?_) (fun Z e1 => ?_)
    · rw [nf] at e1
      cases e1
    · rw [nf] at e1
      cases e1
      rfl
structure Defs (P : Program) (w : World) (K : PySem.W.Frag) (mg : Str → Option Value) (base : Heap) (CS : Addr) : Prop where
  B : Bl mg
  cell : DefOk P w K mg base 1 "_law_cell" frLCell
  drawn : DefOk P w K mg base 1 "_law_drawn" frDrawn
  size : DefOk P w K mg base 1 "_law_size" frLSize
  face : DefOk P w K mg base 2 "_law_face" frLFace
  other : DefOk P w K mg base 3 "_law_other" frOther
  lch : DefOk P w K mg base 2 "_law_changed" frLChanged
  kind : DefOk P w K mg base 1 "_law_is_kind" frKind
  least : DefOk P w K mg base 3 "_law_least" frLst
  chd : DefOk P w K mg base 6 "changed" (frChanged (He.ga K "BadFace") (He.ga K "BadChange"))
  cost : DefOk P w K mg base 5 "cost" (frCost (He.ga K "BadChange"))
  co : DefOk P w K mg base 8 "change_of" frCo
  cb : DefOk P w K mg base 8 "change_of" (frCoB (He.ga K "BadFace"))
  li : mg "list" = .none
  told : Told K mg "_law_told" s__law_told
  word : WordOk P w K mg base 9 "_law_word" (fwA K)
  scr : mg "ScreenError" = some (.ref CS)
  exmF : PySem.W.exmOne K (.ref (He.ga K "BadFace")) (.ref CS) = some true
abbrev NL : List Str := ["_law_script", "_law_k", "_law_more", "_law_height", "_law_width", "_law_face_here", "_law_j", "_law_other_here", "_law_told_here", "_law_wide"]
theorem sc_law : FnScope NL ["_law_script"] (defScope s_law) := ⟨rfl, rfl, rfl, by decide +kernel, rfl, by decide +kernel, by decide +kernel⟩
theorem sc_told : FnScope ["_law_deed", "_law_e"] ["_law_deed"] (defScope s__law_told) := ⟨rfl, rfl, rfl, by decide +kernel, rfl, by decide +kernel, by decide +kernel⟩
theorem told {X : Cx} {T : List (Addr × Str)} {δ : De} {ω : Om} {d : PyData} {rr : Rs} {pos p lpos : Pos} {params : Arguments} {body : Expr} {scope : Scope} (Ds : Defs X.prog X.w X.K X.mg X.base CS) (L : LamT X T) (hT : T ≠ []) (hps : ω.ps = []) (hr : Room 10 X.A)
    (hb : ∀ (A : Around) (outer : List Env) (s : Shared) (H : Hp) (E : XK) (f c' : Addr), Room 8 (A.deeper (LamX.lamEnv X scope s.heap.objs.size f c')) → PR (lamN X A outer s H E scope f c') (WOf E) δ ω body rr) (hd : ToldD X.K CS (fwA X.K) d rr)
    (hL : LamX.LamS X.env.scope scope) (hdef : defaultsOf params X.env = ([], []) := by rfl) (hbind : ∀ (q : Str) (cl : List (Str × Addr)) (pm cv ctv : Value), bindArgs (PySem.W.kla_fn "<lambda>" q params body scope cl pm cv ctv) ⟨[], []⟩ = pure [] := by intros; rfl)
    (hg : Gl X "_law_told" := by rfl) : PX X T δ ω (.Call (.Name "_law_told" p) [.Lambda params body scope lpos] [] pos) d :=
  px_told (k := 8) (Ng := ["_law_deed", "_law_e"]) (e := "ScreenError") (n := "_law_e") (wd := "_law_word") Ds.told L hT hps hr Ds.word rfl sc_told sc_told.nd rfl (Or.inl rfl) rfl rfl rfl rfl Ds.scr (fun _ _ _ _ _ _ us hl => match us, hl with | [_], _ => rfl) hb hd hL hdef hbind hg (by decide) (by decide) (by decide) (by decide) (by decide) (by decide) (by decide)
def forBody : List Stmt → List Stmt
  | .For _ _ b _ _ :: _ => b
  | _ => []
def forBodyS : List Stmt → List Stmt
  | .For _ _ b _ _ :: _ => b
  | _ :: r => forBodyS r
  | _ => []
abbrev bodyK : List Stmt := forBody (defBody s_law)
abbrev bodyJ : List Stmt := forBodyS bodyK
abbrev XL (P : Program) (w : World) (K : PySem.W.Frag) (mg : Str → Option Value) (base : Heap) (f : Addr) (cdv : Value) (A : Around) (outer : List Env) (s : Shared) (H : Hp) (E : XK) : Cx := cxOf (L2N.CX P w) P w K mg base NL "law" (defScope s_law) f cdv A outer s H E
abbrev dl (ns : List Int) (k m : Int) (s : Sc) (y6 y7 y8 y9 : Option Sd) : De := [some (.im (.list (ns.map .int))), some (.im (.int k)), some (.im (.int m)), some (.im (.int (s.h : Int))), some (.im (.int (s.w : Int))), some (.im s.d), y6, y7, y8, y9]
def Inv1 (ns : List Int) (δ' : De) : Prop := ∃ y1 y2 y3 y4 y5 y6 y7 y8 y9, δ' = [some (.im (.list (ns.map .int))), y1, y2, y3, y4, y5, y6, y7, y8, y9]
set_option maxHeartbeats 16000000 in
/-- one other face -/
theorem partA {cdv : Value} {A : Around} {outer : List Env} {sh : Shared} {H : Hp} {E : XK} {T : List (Addr × Str)} {ns : List Int} (Ds : Defs P w K mg base CS) (LT : LamT (XL P w K mg base f cdv A outer sh H E) T) (hT : T ≠ [])
    (hr : Room 10 (A.deeper (envOfC "law" (defScope s_law) sh.heap.objs.size f cdv))) {R : Out → Prop} {k m j : Int} {s : Sc} (os : s.Ok) {oss : Os} {y7 y8 y9 : Option Sd}
    (hR : ∀ y7 y8, R (.nx (dl ns k m s (some (.im (.int j))) y7 y8 y9) ⟨[], oss⟩)) :
    SD (XL P w K mg base f cdv A outer sh H E) (WOf E) T bodyJ (dl ns k m s (some (.im (.int j))) y7 y8 y9) ⟨[], oss⟩ R := by
  have B := Ds.B
  have hr8 : Room 8 (A.deeper (envOfC "law" (defScope s_law) sh.heap.objs.size f cdv)) := hr.mono (by decide)
  have hr6 : Room 6 (A.deeper (envOfC "law" (defScope s_law) sh.heap.objs.size f cdv)) := hr.mono (by decide)
  have hr5 : Room 5 (A.deeper (envOfC "law" (defScope s_law) sh.heap.objs.size f cdv)) := hr.mono (by decide)
  have hr3 : Room 3 (A.deeper (envOfC "law" (defScope s_law) sh.heap.objs.size f cdv)) := hr.mono (by decide)
  have hr2 : Room 2 (A.deeper (envOfC "law" (defScope s_law) sh.heap.objs.size f cdv)) := hr.mono (by decide)
  have hr1 : Room 1 (A.deeper (envOfC "law" (defScope s_law) sh.heap.objs.size f cdv)) := hr.mono (by decide)
  refine sd_set 7 (pd_call Ds.other hr3 (pds_cons (pd_var 5) (pds_cons (pd_call Ds.drawn hr1 (pds_cons (pd_var 2) (pds_cons (pd_add pd_int (pd_var 6)) pds_nil)) ⟨_, _, rfl, rfl⟩) (pds_cons (pd_var 3) (pds_cons (pd_var 4) pds_nil)))) ⟨s, _, os, rfl, rfl⟩) ?_ sc_law.nd
  obtain ⟨oo, oh, ow⟩ := other_ok os (drawn m (10 + j))
  generalize otherS s (drawn m (10 + j)) = o at oo oh ow
  obtain ⟨e1, p1⟩ := coS_done os oo oh ow
  have cs := coS_self oo
  refine sd_setx 8 (told (d := .list ((coS s o).map Pt.d)) (rr := .ok (.list ((coS s o).map Pt.d))) Ds LT hT rfl hr (fun A outer s' H' E f c' hr' => pr_call Ds.co hr' lamN_takes (pds_cons (pd_var 5) (pds_cons (pd_var 7) pds_nil)) ⟨s, o, os, oo, oh, ow, rfl, rfl⟩) rfl (LamX.lamS_by (sc := defScope s_law) (by decide +kernel))) ?_ sc_law.nd
  refine sd_ifF (PTd.eq (PWd.pt (pw_ord (pt_notd (pt_bool (pd_isi (t := "list") B.isi Ds.li (by decide +kernel) (pd_var 8) rfl))) (fun _ => pw_ord (pt_cmpd (op_neD hr.units) (rd_neS oo.fc.shp rfl) (pd_call Ds.lch hr2 (pds_cons (pd_var 5) (pds_cons (pd_var 8) pds_nil)) ⟨s, coS s o, os, p1, rfl, by rw [e1]; rfl⟩) (pd_var 7) (nomark _)) (fun _ => pw_or1d (pt_cmpd (op_neD hr.units) (rd_neS oo.fc.shp rfl) (pd_call Ds.chd hr6 (pds_cons (pd_var 5) (pds_cons (pd_var 8) pds_nil)) (.inl ⟨s, coS s o, os, p1, rfl, by rw [e1]; rfl⟩)) (pd_var 7) (nomark _)))))) rfl) ?_
  have ll : (coS s o).length ≤ 1000 := by
    obtain ⟨b, _, _, eb⟩ := coS_in (o := o) (show 1 ≤ s.h by have := os.hr; omega)
    rw [eb]
    exact chg_len os oo oh b
  refine sd_ifF (PTd.eq (PWd.pt (pw_ord (pt_notd (pt_bool (pd_call Ds.kind hr1 (pds_cons (pd_var 8) (pds_cons (pd_var 3) (pds_cons (pd_var 4) pds_nil))) ⟨s, o, os, oo, oh, ow, rfl, rfl⟩))) (fun _ => pw_or1d (pt_cmpd op_ne rd_neI (pd_call (d := .int (costs (coS s o))) Ds.cost hr5 (pds_cons (pd_var 8) pds_nil) (.inl ⟨coS s o, p1, ll, rfl, rfl⟩)) (pd_call (d := .int (costs (coS s o))) Ds.least hr3 (pds_cons (pd_var 5) (pds_cons (pd_var 7) pds_nil)) ⟨s, o, os, oo, oh, ow, rfl, rfl⟩) (nomark _))))) ?t2) ?_
  case t2 =>
    rw [decide_eq_true rfl]
    rfl
  refine sd_ifF (pt_cmpd (op_neD hr.units) (rd_neS (n := 1) (.lst fun x hx => (List.not_mem_nil hx).elim) (e := .list []) rfl) (PD.eq (pd_call Ds.co hr8 (pds_cons (pd_var 7) (pds_cons (pd_var 7) pds_nil)) ⟨o, o, oo, oo, rfl, rfl, rfl, rfl⟩) (by rw [cs]; rfl)) (PN.pd (pn_lst pds_nil)) (nomark _)) ?_
  exact sd_nil (hR _ _)
set_option maxHeartbeats 16000000 in
/-- what is refused -/
theorem partB {cdv : Value} {A : Around} {outer : List Env} {sh : Shared} {H : Hp} {E : XK} {T : List (Addr × Str)} {ns : List Int} (Ds : Defs P w K mg base CS) (LT : LamT (XL P w K mg base f cdv A outer sh H E) T) (hT : T ≠ [])
    (hr : Room 10 (A.deeper (envOfC "law" (defScope s_law) sh.heap.objs.size f cdv))) {R : Out → Prop} {k m : Int} {s : Sc} (os : s.Ok) {oss : Os} {y6 y7 y8 y9 : Option Sd}
    (hR : ∀ y9, R (.nx (dl ns k m s y6 y7 y8 y9) ⟨[], oss⟩)) :
    SD (XL P w K mg base f cdv A outer sh H E) (WOf E) T (bodyK.drop 4) (dl ns k m s y6 y7 y8 y9) ⟨[], oss⟩ R := by
  have B := Ds.B
  have hr2 : Room 2 (A.deeper (envOfC "law" (defScope s_law) sh.heap.objs.size f cdv)) := hr.mono (by decide)
  have h10 := os.h10
  have w20 := os.w20
  have hr0 := os.hr
  have hc0 := os.hc
  have er : ToldD K CS (fwA K) (refused "BadFace") (.er (He.ga K "BadFace")) := ⟨.inl ⟨rfl, rfl⟩, Ds.exmF⟩
  have wl : 1 ≤ s.w % 20 + 1 ∧ s.w % 20 + 1 ≤ 20 ∧ s.w % 20 + 1 ≠ s.w := by omega
  obtain ⟨wl1, wl2, wl3⟩ := wl
  refine sd_set 9 (d := (scL m s.h (s.w % 20 + 1)).d) (PD.eq (pd_call Ds.face hr2 (pds_cons (pd_var 2) (pds_cons (pd_var 3) (pds_cons (d := .int ((s.w % 20 + 1 : Nat) : Int)) (PD.eq (pd_add (pd_mod (by decide) (pd_var 4) pd_int) pd_int) (by congr 1)) pds_nil))) ⟨m, s.h, s.w % 20 + 1, rfl, by omega, h10, wl1, wl2, rfl⟩) (scL_d m (by omega) wl1).symm) ?_ sc_law.nd
  have ou := scL_ok m (h := s.h) (wd := s.w % 20 + 1) (by omega) h10 wl1 wl2
  have uh : (scL m s.h (s.w % 20 + 1)).w ≠ s.w := wl3
  generalize scL m s.h (s.w % 20 + 1) = u at ou uh
  refine sd_ifF2 (t2_cmp (op_neD hr.units) (rd_neS (shp_refused (E := "BadFace") (by decide +kernel)) rfl) (PX.ye (told (d := refused "BadFace") (rr := .er (He.ga K "BadFace")) Ds LT hT rfl hr (fun A outer s' H' E f c' hr' => pr_call Ds.cb hr' lamN_takes (pds_cons (pd_var 5) (pds_cons (pd_var 9) pds_nil)) (.inl ⟨s, u, os, ou, .inr uh, rfl, rfl⟩)) er (LamX.lamS_by (sc := defScope s_law) (by decide +kernel)))) (PD.ye (pd_tup (pds_cons pd_str (pds_cons pd_str pds_nil)))) (nomark _)) ?_
  have sm : smF (.tuple [.tuple (s.rows.map .tuple), .int (s.row : Int)]) := by
    intro ds e x hx
    cases e
    refine os.fc.small _ rfl x ?_
    simp only [List.mem_cons, List.not_mem_nil, or_false] at hx ⊢
    rcases hx with q | q
    · exact .inl q
    · exact .inr (.inl q)
  refine sd_ifF2 (t2_cmp (op_neD hr.units) (rd_neS (shp_refused (E := "BadFace") (by decide +kernel)) rfl) (PX.ye (told (d := refused "BadFace") (rr := .er (He.ga K "BadFace")) Ds LT hT rfl hr (fun A outer s' H' E f c' hr' => pr_call Ds.cb hr' lamN_takes (pds_cons (PD.eq (pd_slT (i := none) (j := some ((2 : Nat) : Int)) (pd_var 5) rfl ⟨_, rfl, pd_int⟩) (by rw [cut_to]; rfl)) (pds_cons (pd_var 5) pds_nil)) (.inr ⟨.tuple [.tuple (s.rows.map .tuple), .int (s.row : Int)], s.d, rfl, sm, rfl, rfl⟩)) er (LamX.lamS_by (sc := defScope s_law) (by decide +kernel)))) (PD.ye (pd_tup (pds_cons pd_str (pds_cons pd_str pds_nil)))) (nomark _)) ?_
  exact sd_nil (hR _)
set_option maxHeartbeats 16000000 in
theorem law_body {cdv : Value} {A : Around} {outer : List Env} {sh : Shared} {H : Hp} {E : XK} {T : List (Addr × Str)} {ns : List Int} (Ds : Defs P w K mg base CS) (LT : LamT (XL P w K mg base f cdv A outer sh H E) T) (hT : T ≠ [])
    (hr : Room 10 (A.deeper (envOfC "law" (defScope s_law) sh.heap.objs.size f cdv))) (hn : ns.length ≤ 63) :
    SD (cxOf (L2N.CX P w) P w K mg base NL "law" (defScope s_law) f cdv A outer sh H E) (WOf E) T (defBody s_law) (startD NL [.list (ns.map .int)]) ⟨[], []⟩ FinT := by
  have B := Ds.B
  have hr2 : Room 2 (A.deeper (envOfC "law" (defScope s_law) sh.heap.objs.size f cdv)) := hr.mono (by decide)
  have hr1 : Room 1 (A.deeper (envOfC "law" (defScope s_law) sh.heap.objs.size f cdv)) := hr.mono (by decide)
  refine sd_for 1 (items := rangeD 0 ((if (if ((ns.map PyData.int).length : Int) < 3 then ((ns.map PyData.int).length : Int) else 3) > 1 then (if ((ns.map PyData.int).length : Int) < 3 then ((ns.map PyData.int).length : Int) else 3) else 1) : Int).toNat)
    (fun i δ' ω' => (∃ os, ω' = ⟨[], os⟩) ∧ Inv1 ns δ')
    (wk_range1 B.range (pd_max rfl B.max pd_int (pd_min rfl B.min pd_int (pd_lenL B.len (PD.pl (pd_var 0))))) ?_) ⟨⟨_, rfl⟩, _, _, _, _, _, _, _, _, _, rfl⟩ ?_ ?_ (pg_name sc_law.nd rfl (Or.inl rfl)) (passes_of rfl) rfl
  · split <;> (try split) <;> omega
  · rintro k d δ' ω' hd ⟨⟨os, rfl⟩, y1, y2, y3, y4, y5, y6, y7, y8, y9, rfl⟩
    have hk4 : k < 4 ∧ d = .int (k : Int) := by
      have hlt := (List.getElem?_eq_some_iff.mp hd).1
      rw [rangeD_len] at hlt
      rw [rangeD_get hlt] at hd
      cases hd
      refine ⟨?_, by rw [Int.zero_add]⟩
      revert hlt
      split <;> (try split) <;> omega
    obtain ⟨hk4, rfl⟩ := hk4
    refine sd_set 2 (pd_call Ds.drawn hr1 (pds_cons (pd_call Ds.cell hr1 (pds_cons (pd_var 0) (pds_cons (pd_var 1) pds_nil)) ⟨ns, k, rfl, hn, by omega, rfl⟩) (pds_cons (pd_var 1) pds_nil)) ⟨_, _, rfl, rfl⟩) ?_ sc_law.nd
    generalize K41.drawn (cellAt ns k) (k : Int) = m
    refine sd_unp [3, 4] (pd_call Ds.size hr1 (pds_cons (pd_var 2) pds_nil) ⟨_, rfl, rfl⟩) (pg_tup rfl (pgs_cons (pg_name sc_law.nd rfl (Or.inl rfl)) (pgs_cons (pg_name sc_law.nd rfl (Or.inl rfl)) pgs_nil))) rfl rfl ?_
    obtain ⟨b1, b2, b3, b4⟩ := size_le m
    obtain ⟨h, eh⟩ : ∃ h : Nat, (sizeD m).1 = (h : Int) := ⟨(sizeD m).1.toNat, by omega⟩
    obtain ⟨wd, ew⟩ : ∃ h : Nat, (sizeD m).2 = (h : Int) := ⟨(sizeD m).2.toNat, by omega⟩
    rw [eh, ew]
    rw [eh] at b1 b2
    rw [ew] at b3 b4
    have h1 : 1 ≤ h := by omega
    have h2 : h ≤ 10 := by omega
    have w1 : 1 ≤ wd := by omega
    have w2 : wd ≤ 20 := by omega
    refine sd_set 5 (d := (scL (K41.drawn m 1) h wd).d) (PD.eq (pd_call Ds.face hr2 (pds_cons (pd_call Ds.drawn hr1 (pds_cons (pd_var 2) (pds_cons pd_int pds_nil)) ⟨_, _, rfl, rfl⟩) (pds_cons (pd_var 3) (pds_cons (pd_var 4) pds_nil))) ⟨_, h, wd, rfl, h1, h2, w1, w2, rfl⟩) (scL_d _ h1 w1).symm) ?_ sc_law.nd
    obtain ⟨s, es, ot, th, tw⟩ : ∃ s : Sc, scL (K41.drawn m 1) h wd = s ∧ s.Ok ∧ s.h = h ∧ s.w = wd := ⟨_, rfl, scL_ok _ h1 h2 w1 w2, rfl, rfl⟩
    rw [es]
    subst th
    subst tw
    refine sd_for 6 (items := rangeD 0 (2 : Int).toNat) (fun i δ' ω' => ω' = ⟨[], os⟩ ∧ ∃ y6 y7 y8, δ' = dl ns k m s y6 y7 y8 y9)
      (wk_range1 B.range pd_int (by decide)) ⟨rfl, _, _, _, rfl⟩ ?_ ?_ (pg_name sc_law.nd rfl (Or.inl rfl)) (passes_of rfl) rfl
    · rintro j d δ' ω' hd ⟨rfl, y6, y7, y8, rfl⟩
      have hj : ∃ i : Int, d = .int i := by
        have hlt := (List.getElem?_eq_some_iff.mp hd).1
        rw [rangeD_len] at hlt
        rw [rangeD_get hlt] at hd
        cases hd
        exact ⟨_, rfl⟩
      obtain ⟨i, rfl⟩ := hj
      exact partA Ds LT hT hr ot (fun y7 y8 => ⟨rfl, _, _, _, rfl⟩)
    · rintro δ' ω' ⟨rfl, y6, y7, y8, rfl⟩
      exact partB Ds LT hT hr ot (fun y9 => ⟨⟨_, rfl⟩, _, _, _, _, _, _, _, _, _, rfl⟩)
  · rintro δ' ω' ⟨⟨os, rfl⟩, y1, y2, y3, y4, y5, y6, y7, y8, y9, rfl⟩
    exact sd_ret pd_bl rfl
end
end K41

namespace K41
open PySem PySem.Spec PyProof.Rows L2 FP
theorem facts {l : PySem.W.OpenLaw} {w : World} {K : PySem.W.Frag} {h : Heap} {mg : Str → Option Value} {f : Addr} (KX : K.In h) (G : h.Ns mainGlobals mg) (hfa : mg ("law" : Str) = some (.ref f)) (c : He.SaysX fa fn ts tf ex w h K) :
    LamX.LawAtS l w K (L2N.CX l.prog w) 11 63 "_law_script" mg f h := by
  have cd := c.t.d
  have gl : ∀ x, He.Fa.glo x ∈ fa → mg x = some (.ref (He.ga K x)) := fun x hx => He.glo_ok KX G (cd.facts hx)
  have fr : ∀ x, He.Fa.free x ∈ fa → mg x = none := fun x hx => He.free_ok KX G (cd.facts hx)
  have df : ∀ (x : Str) (st : Stmt), dOf x st ∈ fn → ∃ fd, Df K x st (He.ga K x) fd := fun x st hx => cd.defs hx
  obtain ⟨x0, cm⟩ := He.ba c.more
  obtain ⟨x1, cm⟩ := He.ba cm
  obtain ⟨x2, cm⟩ := He.ba cm
  obtain ⟨x3, cm⟩ := He.ba cm
  have x4 := cm
  have B : Bl mg := ⟨fr _ (fam (by decide +kernel)), fr _ (fam (by decide +kernel)), fr _ (fam (by decide +kernel)), fr _ (fam (by decide +kernel)), fr _ (fam (by decide +kernel)), fr _ (fam (by decide +kernel)), fr _ (fam (by decide +kernel)), fr _ (fam (by decide +kernel)), fr _ (fam (by decide +kernel)), fr _ (fam (by decide +kernel)), fr _ (fam (by decide +kernel))⟩
  have i_PERCENT : GlD K mg "PERCENT" (.int 37) := gld_int KX G (cd.facts (fam (by decide +kernel)))
  have i_MOST_INK : GlD K mg "MOST_INK" (.int 7) := gld_int KX G (cd.facts (fam (by decide +kernel)))
  have X_BadFace : ExcF K mg "BadFace" (He.ga K "BadFace") := exc_of KX G (cd.facts (fam (by decide +kernel))) (cd.facts (fam (by decide +kernel)))
  have i_MOST_ROWS : GlD K mg "MOST_ROWS" (.int 10) := gld_int KX G (cd.facts (fam (by decide +kernel)))
  have i_MOST_COLUMNS : GlD K mg "MOST_COLUMNS" (.int 20) := gld_int KX G (cd.facts (fam (by decide +kernel)))
  have i_BLANK : GlD K mg "BLANK" blankC := gldB_ok KX G x0
  have i_MOST_ROLL : GlD K mg "MOST_ROLL" (.int 10) := gld_int KX G (cd.facts (fam (by decide +kernel)))
  have X_BadChange : ExcF K mg "BadChange" (He.ga K "BadChange") := exc_of KX G (cd.facts (fam (by decide +kernel))) (cd.facts (fam (by decide +kernel)))
  have i_ROLL_COST : GlD K mg "ROLL_COST" (.int 4) := gld_int KX G (cd.facts (fam (by decide +kernel)))
  have i_CURSOR_COST : GlD K mg "CURSOR_COST" (.int 3) := gld_int KX G (cd.facts (fam (by decide +kernel)))
  have i_PUT_COST : GlD K mg "PUT_COST" (.int 4) := gld_int KX G (cd.facts (fam (by decide +kernel)))
  refine law_at KX G hfa c (params := defArgs s_law) (body := defBody s_law) (scope := defScope s_law) (fnm 47 rfl) (fam (by decide +kernel)) sc_law (fun _ _ _ _ _ _ us hl => match us, hl with | [_], _ => rfl) (fun base hB hN T cdv A outer s H E ns hT L hr h1 h2 => ?_)
  obtain ⟨_, F_is_whole⟩ := df "is_whole" s_is_whole (fnm 0 rfl)
  have G_whole := ok_whole (P := l.prog) (w := w) (mg := mg) (base := base) F_is_whole (gl _ (fam (by decide +kernel))) B
  obtain ⟨_, F_is_within⟩ := df "is_within" s_is_within (fnm 1 rfl)
  have G_within := ok_within (P := l.prog) (w := w) (mg := mg) (base := base) F_is_within (gl _ (fam (by decide +kernel))) G_whole
  obtain ⟨_, F_is_tuple_of⟩ := df "is_tuple_of" s_is_tuple_of (fnm 2 rfl)
  have G_tupleof := ok_tupleof (P := l.prog) (w := w) (mg := mg) (base := base) F_is_tuple_of (gl _ (fam (by decide +kernel))) B
  obtain ⟨_, F_are_signs⟩ := df "are_signs" s_are_signs (fnm 3 rfl)
  have G_signs := ok_signs (P := l.prog) (w := w) (mg := mg) (base := base) F_are_signs (gl _ (fam (by decide +kernel))) B i_PERCENT
  obtain ⟨_, F_is_sign⟩ := df "is_sign" s_is_sign (fnm 4 rfl)
  have G_sign := ok_sign (P := l.prog) (w := w) (mg := mg) (base := base) F_is_sign (gl _ (fam (by decide +kernel))) B G_signs
  obtain ⟨_, F_is_cell⟩ := df "is_cell" s_is_cell (fnm 7 rfl)
  have G_cell := ok_cell (P := l.prog) (w := w) (mg := mg) (base := base) F_is_cell (gl _ (fam (by decide +kernel))) G_tupleof G_sign G_within i_MOST_INK
  obtain ⟨_, F_need_size⟩ := df "need_size" s_need_size (fnm 8 rfl)
  have G_size := ok_size (P := l.prog) (w := w) (mg := mg) (base := base) F_need_size (gl _ (fam (by decide +kernel))) X_BadFace G_within i_MOST_ROWS i_MOST_COLUMNS
  obtain ⟨_, F_need_rows⟩ := df "need_rows" s_need_rows (fnm 6 rfl)
  have G_rows := ok_rows (P := l.prog) (w := w) (mg := mg) (base := base) F_need_rows (gl _ (fam (by decide +kernel))) B X_BadFace G_size G_cell
  obtain ⟨_, F_need_face⟩ := df "need_face" s_need_face (fnm 5 rfl)
  have G_face := ok_face (P := l.prog) (w := w) (mg := mg) (base := base) F_need_face (gl _ (fam (by decide +kernel))) B X_BadFace G_tupleof G_rows G_within
  obtain ⟨_, F_blank_cells⟩ := df "blank_cells" s_blank_cells (fnm 12 rfl)
  have G_bcells := ok_bcells (P := l.prog) (w := w) (mg := mg) (base := base) F_blank_cells (gl _ (fam (by decide +kernel))) i_BLANK
  obtain ⟨_, F__law_cell⟩ := df "_law_cell" s__law_cell (fnm 33 rfl)
  have G_lcell := ok_lcell (P := l.prog) (w := w) (mg := mg) (base := base) F__law_cell (gl _ (fam (by decide +kernel))) B
  obtain ⟨_, F__law_drawn⟩ := df "_law_drawn" s__law_drawn (fnm 34 rfl)
  have G_drawn := ok_drawn (P := l.prog) (w := w) (mg := mg) (base := base) F__law_drawn (gl _ (fam (by decide +kernel)))
  obtain ⟨_, F__law_cell_of⟩ := df "_law_cell_of" s__law_cell_of (fnm 37 rfl)
  have G_cellof := ok_cellof (P := l.prog) (w := w) (mg := mg) (base := base) F__law_cell_of (gl _ (fam (by decide +kernel)))
  obtain ⟨_, F__law_size⟩ := df "_law_size" s__law_size (fnm 39 rfl)
  have G_lsize := ok_lsize (P := l.prog) (w := w) (mg := mg) (base := base) F__law_size (gl _ (fam (by decide +kernel)))
  obtain ⟨_, F__law_face⟩ := df "_law_face" s__law_face (fnm 38 rfl)
  have G_lface := ok_lface (P := l.prog) (w := w) (mg := mg) (base := base) F__law_face (gl _ (fam (by decide +kernel))) B G_drawn G_cellof
  obtain ⟨_, F_pushed⟩ := df "pushed" s_pushed (fnm 13 rfl)
  have G_push := ok_push (P := l.prog) (w := w) (mg := mg) (base := base) F_pushed (gl _ (fam (by decide +kernel))) B
  obtain ⟨_, F_pulled⟩ := df "pulled" s_pulled (fnm 14 rfl)
  have G_pull := ok_pull (P := l.prog) (w := w) (mg := mg) (base := base) F_pulled (gl _ (fam (by decide +kernel))) B
  obtain ⟨_, F_rolled⟩ := df "rolled" s_rolled (fnm 15 rfl)
  have G_roll := ok_roll (P := l.prog) (w := w) (mg := mg) (base := base) F_rolled (gl _ (fam (by decide +kernel))) B G_push G_pull G_bcells
  obtain ⟨_, F_is_place⟩ := df "is_place" s_is_place (fnm 18 rfl)
  have G_isplace := ok_isplace (P := l.prog) (w := w) (mg := mg) (base := base) F_is_place (gl _ (fam (by decide +kernel))) G_whole
  obtain ⟨_, F_is_part⟩ := df "is_part" s_is_part (fnm 17 rfl)
  have G_ispart := ok_ispart (P := l.prog) (w := w) (mg := mg) (base := base) F_is_part (gl _ (fam (by decide +kernel))) B i_MOST_ROLL i_MOST_INK G_within G_isplace G_signs
  obtain ⟨_, F_need_change⟩ := df "need_change" s_need_change (fnm 16 rfl)
  have G_nc := ok_nc (P := l.prog) (w := w) (mg := mg) (base := base) F_need_change (gl _ (fam (by decide +kernel))) B (fr _ (fam (by decide +kernel))) X_BadChange G_ispart
  obtain ⟨_, F_need_places⟩ := df "need_places" s_need_places (fnm 22 rfl)
  have G_np := ok_np (P := l.prog) (w := w) (mg := mg) (base := base) F_need_places (gl _ (fam (by decide +kernel))) B X_BadChange
  obtain ⟨_, F_cells_of⟩ := df "cells_of" s_cells_of (fnm 23 rfl)
  have G_cs := ok_cs (P := l.prog) (w := w) (mg := mg) (base := base) F_cells_of (gl _ (fam (by decide +kernel))) B
  obtain ⟨_, F_with_put⟩ := df "with_put" s_with_put (fnm 24 rfl)
  have G_wp := ok_wp (P := l.prog) (w := w) (mg := mg) (base := base) F_with_put (gl _ (fam (by decide +kernel))) B
  obtain ⟨_, F_part_done⟩ := df "part_done" s_part_done (fnm 21 rfl)
  have G_pd := ok_pd (P := l.prog) (w := w) (mg := mg) (base := base) F_part_done (gl _ (fam (by decide +kernel))) B G_roll G_np G_cs G_wp
  obtain ⟨_, F_parts_done⟩ := df "parts_done" s_parts_done (fnm 20 rfl)
  have G_pds := ok_pds (P := l.prog) (w := w) (mg := mg) (base := base) F_parts_done (gl _ (fam (by decide +kernel))) G_pd
  obtain ⟨_, F_changed⟩ := df "changed" s_changed (fnm 19 rfl)
  have G_changed := ok_changed (P := l.prog) (w := w) (mg := mg) (base := base) F_changed (gl _ (fam (by decide +kernel))) G_face G_nc G_pds
  obtain ⟨_, F_part_cost⟩ := df "part_cost" s_part_cost (fnm 27 rfl)
  have G_pc := ok_pc (P := l.prog) (w := w) (mg := mg) (base := base) F_part_cost (gl _ (fam (by decide +kernel))) B i_ROLL_COST i_CURSOR_COST i_PUT_COST
  obtain ⟨_, F_cost_of_parts⟩ := df "cost_of_parts" s_cost_of_parts (fnm 26 rfl)
  have G_cp := ok_cp (P := l.prog) (w := w) (mg := mg) (base := base) F_cost_of_parts (gl _ (fam (by decide +kernel))) (fr _ (fam (by decide +kernel))) G_pc
  obtain ⟨_, F_cost⟩ := df "cost" s_cost (fnm 25 rfl)
  have G_cost := ok_cost (P := l.prog) (w := w) (mg := mg) (base := base) F_cost (gl _ (fam (by decide +kernel))) G_nc G_cp
  obtain ⟨_, F__law_part⟩ := df "_law_part" s__law_part (fnm 40 rfl)
  have G_lpart := ok_lpart (P := l.prog) (w := w) (mg := mg) (base := base) F__law_part (gl _ (fam (by decide +kernel))) B G_drawn
  obtain ⟨_, F__law_rolled⟩ := df "_law_rolled" s__law_rolled (fnm 41 rfl)
  have G_lrolled := ok_lrolled (P := l.prog) (w := w) (mg := mg) (base := base) F__law_rolled (gl _ (fam (by decide +kernel))) B (fr _ (fam (by decide +kernel)))
  obtain ⟨_, F__law_changed⟩ := df "_law_changed" s__law_changed (fnm 42 rfl)
  have G_lch := ok_lch (P := l.prog) (w := w) (mg := mg) (base := base) F__law_changed (gl _ (fam (by decide +kernel))) B (fr _ (fam (by decide +kernel))) (fr _ (fam (by decide +kernel))) G_lrolled
  obtain ⟨_, F_put_of⟩ := df "put_of" s_put_of (fnm 30 rfl)
  have G_po := ok_po (P := l.prog) (w := w) (mg := mg) (base := base) F_put_of (gl _ (fam (by decide +kernel)))
  obtain ⟨_, F_is_worth_joining⟩ := df "is_worth_joining" s_is_worth_joining (fnm 32 rfl)
  have G_wj := ok_wj (P := l.prog) (w := w) (mg := mg) (base := base) F_is_worth_joining (gl _ (fam (by decide +kernel))) B i_PUT_COST
  obtain ⟨_, F_spans_to_put⟩ := df "spans_to_put" s_spans_to_put (fnm 31 rfl)
  have G_sp := ok_sp (P := l.prog) (w := w) (mg := mg) (base := base) F_spans_to_put (gl _ (fam (by decide +kernel))) B G_wj
  obtain ⟨_, F_need_face_of_size⟩ := df "need_face_of_size" s_need_face_of_size (fnm 9 rfl)
  have G_fos := ok_fos (P := l.prog) (w := w) (mg := mg) (base := base) F_need_face_of_size (gl _ (fam (by decide +kernel))) B X_BadFace G_face
  obtain ⟨_, F_size_of⟩ := df "size_of" s_size_of (fnm 10 rfl)
  have G_so := ok_so (P := l.prog) (w := w) (mg := mg) (base := base) F_size_of (gl _ (fam (by decide +kernel))) B
  obtain ⟨_, F_need_face_like⟩ := df "need_face_like" s_need_face_like (fnm 11 rfl)
  have G_like := ok_like (P := l.prog) (w := w) (mg := mg) (base := base) F_need_face_like (gl _ (fam (by decide +kernel))) G_so G_fos
  obtain ⟨_, F_change_of⟩ := df "change_of" s_change_of (fnm 28 rfl)
  obtain ⟨_, F_change_with_roll⟩ := df "change_with_roll" s_change_with_roll (fnm 29 rfl)
  have G_cwr := ok_cwr (P := l.prog) (w := w) (mg := mg) (base := base) F_change_with_roll (gl _ (fam (by decide +kernel))) (fr _ (fam (by decide +kernel))) (fr _ (fam (by decide +kernel))) G_roll G_po G_sp
  obtain ⟨_, F__law_row_cost⟩ := df "_law_row_cost" s__law_row_cost (fnm 43 rfl)
  have G_rc := ok_rc (P := l.prog) (w := w) (mg := mg) (base := base) F__law_row_cost (gl _ (fam (by decide +kernel))) B
  obtain ⟨_, F__law_least⟩ := df "_law_least" s__law_least (fnm 44 rfl)
  have G_lst := ok_lst (P := l.prog) (w := w) (mg := mg) (base := base) F__law_least (gl _ (fam (by decide +kernel))) B (fr _ (fam (by decide +kernel))) (fr _ (fam (by decide +kernel))) (fr _ (fam (by decide +kernel))) G_lrolled G_rc
  obtain ⟨_, F__law_is_kind⟩ := df "_law_is_kind" s__law_is_kind (fnm 45 rfl)
  have G_kind := ok_kind (P := l.prog) (w := w) (mg := mg) (base := base) F__law_is_kind (gl _ (fam (by decide +kernel))) B (fr _ (fam (by decide +kernel)))
  obtain ⟨_, F__law_other⟩ := df "_law_other" s__law_other (fnm 46 rfl)
  have G_other := ok_other (P := l.prog) (w := w) (mg := mg) (base := base) F__law_other (gl _ (fam (by decide +kernel))) B (fr _ (fam (by decide +kernel))) G_drawn G_lface G_lpart G_lch
  have G_coB := ok_coB (P := l.prog) (w := w) (mg := mg) (base := base) F_change_of (gl _ (fam (by decide +kernel))) G_face G_like
  have G_co := ok_co (P := l.prog) (w := w) (mg := mg) (base := base) F_change_of (gl _ (fam (by decide +kernel))) B (fr _ (fam (by decide +kernel))) (fr _ (fam (by decide +kernel))) G_face G_like G_cwr G_cp
  obtain ⟨ec_BadFace, ka_BadFace, kv_BadFace⟩ := wordB_ok x1
  obtain ⟨ec_BadChange, ka_BadChange, kv_BadChange⟩ := wordB_ok x3
  obtain ⟨_, F__law_word⟩ := df "_law_word" s__law_word (fnm 35 rfl)
  obtain ⟨_, F__law_told⟩ := df "_law_told" s__law_told (fnm 36 rfl)
  have WD := fun (k : Nat) (hk : 1 ≤ k) => word_mono (ok_word (P := l.prog) (w := w) (base := base) F__law_word (gl _ (fam (by decide +kernel))) B.isi B.int (fr _ (fam (by decide +kernel))) (fr _ (fam (by decide +kernel))) (fun c hc => by
    simp only [List.mem_cons, List.not_mem_nil, or_false] at hc
    rcases hc with rfl | rfl | rfl | rfl | rfl <;> exact gl _ (fam (by decide +kernel))) ⟨ec_BadFace, ka_BadFace, kv_BadFace⟩ ⟨ec_BadChange, ka_BadChange, kv_BadChange⟩) hk
  exact law_body (CS := He.ga K "ScreenError") ⟨B, (G_lcell.mono (by decide)), (G_drawn.mono (by decide)), (G_lsize.mono (by decide)), (G_lface.mono (by decide)), (G_other.mono (by decide)), (G_lch.mono (by decide)), (G_kind.mono (by decide)), (G_lst.mono (by decide)), (G_changed.mono (by decide)), (G_cost.mono (by decide)), (G_co.mono (by decide)), (G_coB.mono (by decide)), (fr _ (fam (by decide +kernel))), ⟨_, _, F__law_told, gl _ (fam (by decide +kernel))⟩, (WD _ (by decide)), (gl _ (fam (by decide +kernel))), (of_decide_eq_true x2)⟩ L hT hr h1
end K41
open PySem PySem.W PySem.Calls PyProof.Rows
set_option maxRecDepth 100000 in
set_option maxHeartbeats 0 in
theorem PySem.Challenge.cw_farpanes_k41_whole_least_changes_holds : PySem.Challenge.rw_farpanes_k41_whole_least_changes.Holds := by
  w_on; o_law
  refine HandSHeadRun.head_any (r := OpenLaw.row PySem.Challenge.rw_farpanes_k41_whole_least_changes) (q := view (OpenLaw.row PySem.Challenge.rw_farpanes_k41_whole_least_changes).prog [68]) (H := K41.hk) (ob := K41.ob) (M := 8000) (loose := K41.loose) (d := HandSHeadRun.topDef (OpenLaw.row PySem.Challenge.rw_farpanes_k41_whole_least_changes).prog 68) (kwd := []) K41.ob_eq
    (by kernel_rfl) (fun s => by kernel_rfl) K41.run (by kernel_rfl) (by kernel_rfl) (by kernel_rfl) (by rfl) (by first | assumption | decide +kernel) (by decide +kernel) ⟨rfl, rfl, rfl, rfl, rfl, by decide +kernel⟩ ?hw ?hc
  case hw => w_witness2
  case hc =>
    refine LamX.walk_ofTsE (l := PySem.Challenge.rw_farpanes_k41_whole_least_changes) (n := 63) (k := 11) (x := "_law_script") (CX := fun w => L2N.CX (PySem.Challenge.rw_farpanes_k41_whole_least_changes).prog w) rfl (by decide) (by kernel_rfl) ⟨rfl, by decide, by decide⟩ ?F (fun w H s e s' z => FP.cx_none z)
    intro w mg fa h Y G hmg0
    obtain ⟨K, KX, c⟩ := Y
    have hmg : mg ("law" : PySem.Str) = some (.ref fa) := by
      have e : (HandSHeadRun.topDef (OpenLaw.row PySem.Challenge.rw_farpanes_k41_whole_least_changes).prog 68).name = ("law" : PySem.Str) := by kernel_rfl
      rw [← e]
      exact hmg0
    exact ⟨K, KX, K41.facts KX G hmg c⟩

