import PyProof.Rows.All
import Wide.All
import OpenK.AllK
import Wide.FinOn
import HandS.ForMost
import HandS.IsInst
import HandS.Style
import HandS.TupAny
import HandS.Deep
import KE.SortData
import HandS.Walk
import PySem.Challenge.RW_patchlots_k80_whole_papers_against
import HandS.ForExc
import HandS.ExcInit
import HandS.ExcField
import HandS.Evl
import HandS.Zip
import HandS.Set
import HandS.Strs
import KE.GoesMore
import PyProof.EnumMake
import PyProof.Draws
import KE.KBits
import HandS.Text
import HandS.Iter
import HandS.Steps
import HandS.List
import HandS.Defaults
import HandS.NoneIn
import HandS.DictComp
import KE.DataMinMax
import HandS.SortKw
import HandS.Dict
import HandS.TupMul
import KE.KeyNested
import PyProof.ReprReads
import PyProof.ReprRoads
import HandS.Conv
import HandS.EndTab
set_option Elab.async false
set_option linter.all false
set_option maxRecDepth 100000
set_option maxHeartbeats 4000000
/-! Data as a whole over the hand layer: DX, what evaluates to what, a def's promise over data. -/
namespace KD
open PySem L2

/-! ### data that stands apart from some addresses -/
def kd : Key → PyData
  | .inl i => .int i
  | .inr x => .str x
mutual
inductive DX (X : Addr → Prop) (H : Hp) : V → PyData → Prop
  | non : DX X H .non .none
  | bl (b : Bool) : DX X H (.bl b) (.bool b)
  | int (i : Int) : DX X H (.int i) (.int i)
  | str (x : Str) : DX X H (.str x) (.str x)
  | lst {a : Addr} {xs : List V} {ds : List PyData} : ¬ X a → H a = some (.lst xs) → DXs X H xs ds → DX X H (.ref a) (.list ds)
  | tup {a : Addr} {xs : List V} {ds : List PyData} : ¬ X a → H a = some (.tup xs) → DXs X H xs ds → DX X H (.ref a) (.tuple ds)
  | dic {a : Addr} {kvs : List (Key × V)} {ks : List (PyData × PyData)} : ¬ X a → H a = some (.dK kvs) → DXk X H kvs ks → DX X H (.ref a) (.dict ks)
inductive DXs (X : Addr → Prop) (H : Hp) : List V → List PyData → Prop
  | nil : DXs X H [] []
  | cons {v : V} {vs : List V} {d : PyData} {ds : List PyData} : DX X H v d → DXs X H vs ds → DXs X H (v :: vs) (d :: ds)
inductive DXk (X : Addr → Prop) (H : Hp) : List (Key × V) → List (PyData × PyData) → Prop
  | nil : DXk X H [] []
  | cons {k : Key} {v : V} {vs : List (Key × V)} {d : PyData} {ds : List (PyData × PyData)} : DX X H v d → DXk X H vs ds → DXk X H ((k, v) :: vs) ((kd k, d) :: ds)
end
/-- what is not of X is kept -/
def Kp (X : Addr → Prop) (H H' : Hp) : Prop := ∀ a o, ¬ X a → H a = some o → H' a = some o
theorem Kp.of {X : Addr → Prop} {H H' : Hp} (h : Same H H') : Kp X H H' := fun a o _ e => h a o e
theorem Kp.refl {X : Addr → Prop} {H : Hp} : Kp X H H := fun _ _ _ e => e
theorem Kp.trans {X : Addr → Prop} {H H1 H2 : Hp} (h : Kp X H H1) (k : Kp X H1 H2) : Kp X H H2 := fun a o n e => k a o n (h a o n e)
section
variable {X : Addr → Prop} {H H' : Hp}
mutual
theorem DX.mono (k : Kp X H H') : ∀ {v : V} {d : PyData}, DX X H v d → DX X H' v d
  | _, _, .non => .non
  | _, _, .bl b => .bl b
  | _, _, .int i => .int i
  | _, _, .str x => .str x
  | _, _, .lst n h r => .lst n (k _ _ n h) (DXs.mono k r)
  | _, _, .tup n h r => .tup n (k _ _ n h) (DXs.mono k r)
  | _, _, .dic n h r => .dic n (k _ _ n h) (DXk.mono k r)
theorem DXs.mono (k : Kp X H H') : ∀ {vs : List V} {ds : List PyData}, DXs X H vs ds → DXs X H' vs ds
  | _, _, .nil => .nil
  | _, _, .cons h r => .cons (DX.mono k h) (DXs.mono k r)
theorem DXk.mono (k : Kp X H H') : ∀ {vs : List (Key × V)} {ds : List (PyData × PyData)}, DXk X H vs ds → DXk X H' vs ds
  | _, _, .nil => .nil
  | _, _, .cons h r => .cons (DX.mono k h) (DXk.mono k r)
end
theorem DXs.length : ∀ {vs : List V} {ds : List PyData}, DXs X H vs ds → vs.length = ds.length
  | _, _, .nil => rfl
  | _, _, .cons _ r => congrArg (· + 1) (DXs.length r)
theorem DXs.get : ∀ {vs : List V} {ds : List PyData} {i : Nat} {d : PyData}, DXs X H vs ds → ds[i]? = some d → ∃ v, vs[i]? = some v ∧ DX X H v d
  | _, _, _, _, .nil, e => by simp at e
  | _, _, 0, _, .cons h _, e => by simp at e; subst e; exact ⟨_, rfl, h⟩
  | _, _, i + 1, d, .cons _ r, e => by
    obtain ⟨v, h1, h2⟩ := DXs.get (i := i) (d := d) r (by simpa using e)
    exact ⟨v, by simpa using h1, h2⟩
theorem DXs.getV : ∀ {vs : List V} {ds : List PyData} {i : Nat} {v : V}, DXs X H vs ds → vs[i]? = some v → ∃ d, ds[i]? = some d ∧ DX X H v d
  | _, _, _, _, .nil, e => by simp at e
  | _, _, 0, _, .cons h _, e => by simp at e; subst e; exact ⟨_, rfl, h⟩
  | _, _, i + 1, d, .cons _ r, e => by
    obtain ⟨v, h1, h2⟩ := DXs.getV (i := i) (v := d) r (by simpa using e)
    exact ⟨v, by simpa using h1, h2⟩
theorem DXs.append : ∀ {vs ws : List V} {ds es : List PyData}, DXs X H vs ds → DXs X H ws es → DXs X H (vs ++ ws) (ds ++ es)
  | _, _, _, _, .nil, s => s
  | _, _, _, _, .cons h r, s => .cons h (DXs.append r s)
theorem DXs.take : ∀ {vs : List V} {ds : List PyData} (n : Nat), DXs X H vs ds → DXs X H (vs.take n) (ds.take n)
  | _, _, 0, _ => .nil
  | _, _, _ + 1, .nil => .nil
  | _, _, n + 1, .cons h r => .cons h (DXs.take n r)
theorem DXs.drop : ∀ {vs : List V} {ds : List PyData} (n : Nat), DXs X H vs ds → DXs X H (vs.drop n) (ds.drop n)
  | _, _, 0, r => r
  | _, _, _ + 1, .nil => .nil
  | _, _, n + 1, .cons _ r => DXs.drop n r
theorem DXs.erase : ∀ {vs : List V} {ds : List PyData} (n : Nat), DXs X H vs ds → DXs X H (vs.eraseIdx n) (ds.eraseIdx n)
  | _, _, _, .nil => .nil
  | _, _, 0, .cons _ r => r
  | _, _, n + 1, .cons h r => .cons h (DXs.erase n r)
theorem DXs.rep {vs : List V} {ds : List PyData} (h : DXs X H vs ds) : ∀ n : Nat, DXs X H (List.replicate n vs).flatten (List.replicate n ds).flatten
  | 0 => .nil
  | n + 1 => by
    rw [List.replicate_succ, List.replicate_succ, List.flatten_cons, List.flatten_cons]
    exact DXs.append h (DXs.rep h n)
theorem DXs.snoc {vs : List V} {ds : List PyData} {v : V} {d : PyData} (h : DXs X H vs ds) (k : DX X H v d) : DXs X H (vs ++ [v]) (ds ++ [d]) := DXs.append h (.cons k .nil)

/-! ### data without dicts is the layer's data -/
mutual
def noDict : PyData → Bool
  | .none => true
  | .bool _ => true
  | .int _ => true
  | .str _ => true
  | .list ds => noDicts ds
  | .tuple ds => noDicts ds
  | .dict _ => false
def noDicts : List PyData → Bool
  | [] => true
  | d :: ds => noDict d && noDicts ds
end
mutual
theorem DX.dp {K : PySem.W.Frag} : ∀ {v : V} {d : PyData}, DX X H v d → noDict d = true → Dp K H v d
  | _, _, .non, _ => .non
  | _, _, .bl b, _ => .bl b
  | _, _, .int i, _ => .int i
  | _, _, .str x, _ => .str x
  | _, _, .lst _ h r, n => .lst (SqL.of h) (DXs.dp r (by simpa [noDict] using n))
  | _, _, .tup _ h r, n => .tup (SqT.of h) (DXs.dp r (by simpa [noDict] using n))
  | _, _, .dic _ _ _, n => by simp [noDict] at n
theorem DXs.dp {K : PySem.W.Frag} : ∀ {vs : List V} {ds : List PyData}, DXs X H vs ds → noDicts ds = true → DpAll K H vs ds
  | _, _, .nil, _ => .nil
  | _, _, .cons (d := d) (ds := ds) h r, n => by
    have n' : noDict d = true ∧ noDicts ds = true := by simpa [noDicts] using n
    exact .cons (DX.dp h n'.1) (DXs.dp r n'.2)
end
end
/-- the addresses of X stand in the heap -/
def Trk (X : Addr → Prop) (H : Hp) : Prop := ∀ a, X a → ∃ o, H a = some o
theorem Trk.mono {X : Addr → Prop} {H H' : Hp} (t : Trk X H) (s : Same H H') : Trk X H' := fun a h => let ⟨o, e⟩ := t a h; ⟨o, s a o e⟩
theorem Trk.new {X : Addr → Prop} {H : Hp} {p : Addr} (t : Trk X H) (h : H p = none) : ¬ X p := fun x => by
  obtain ⟨o, e⟩ := t p x
  rw [h] at e
  cases e
theorem Same.upd {H : Hp} {p : Addr} {o : HO} (h : H p = none) : Same H (upd H p o) := fun b u e => by
  rw [upd_ne (ne_of_none e h)]
  exact e

/-! ### the frame's values as data -/
inductive Sv where
  | dat (d : PyData) | val (v : V) | un
def SvOk (X : Addr → Prop) (H : Hp) : Sv → Option (Option V) → Prop
  | .dat d, o => ∃ v, o = some (some v) ∧ DX X H v d
  | .val v, o => o = some (some v)
  | .un, _ => True
structure EnvOk (X : Addr → Prop) (H : Hp) (σ : St) (Γ : List Sv) : Prop where
  len : σ.length = Γ.length
  get : ∀ (i : Nat) (s : Sv), Γ[i]? = some s → SvOk X H s σ[i]?
section
variable {X : Addr → Prop} {H H' : Hp} {σ : St} {Γ : List Sv}
theorem SvOk.mono (k : Kp X H H') {s : Sv} {o : Option (Option V)} (h : SvOk X H s o) : SvOk X H' s o := by
  cases s with
  | dat d =>
    obtain ⟨v, e, r⟩ := h
    exact ⟨v, e, r.mono k⟩
  | val v => exact h
  | un => trivial
theorem EnvOk.mono (k : Kp X H H') (h : EnvOk X H σ Γ) : EnvOk X H' σ Γ := ⟨h.len, fun i s e => (h.get i s e).mono k⟩
theorem EnvOk.same (k : Same H H') (h : EnvOk X H σ Γ) : EnvOk X H' σ Γ := h.mono (Kp.of k)
theorem EnvOk.put {i : Nat} {v : V} {s : Sv} (h : EnvOk X H σ Γ) (hs : SvOk X H s (some (some v))) : EnvOk X H (σ.set i (some v)) (Γ.set i s) := by
  refine ⟨by rw [List.length_set, List.length_set]; exact h.len, fun j t e => ?_⟩
  by_cases hj : i = j
  · subst hj
    by_cases hl : i < Γ.length
    · rw [List.getElem?_set_self hl] at e
      cases e
      rw [List.getElem?_set_self (by rw [h.len]; exact hl)]
      exact hs
    · rw [List.getElem?_eq_none (by rw [List.length_set]; omega)] at e
      cases e
  · rw [List.getElem?_set_ne hj] at e
    rw [List.getElem?_set_ne hj]
    exact h.get j t e
theorem EnvOk.set {i : Nat} {v : V} {d : PyData} (h : EnvOk X H σ Γ) (hd : DX X H v d) : EnvOk X H (σ.set i (some v)) (Γ.set i (.dat d)) := h.put ⟨v, rfl, hd⟩
theorem EnvOk.setV {i : Nat} {v : V} (h : EnvOk X H σ Γ) : EnvOk X H (σ.set i (some v)) (Γ.set i (.val v)) := h.put rfl
/-- what is not asked any more -/
theorem EnvOk.wipe (h : EnvOk X H σ Γ) : ∀ vs : List Nat, EnvOk X H (wipe σ vs) (vs.foldr (fun v g => g.set v .un) Γ)
  | [] => h
  | v :: vs => by
    have ih := EnvOk.wipe h vs
    show EnvOk X H ((L2.wipe σ vs).set v none) ((vs.foldr (fun v g => g.set v .un) Γ).set v .un)
    refine ⟨by rw [List.length_set, List.length_set]; exact ih.len, fun j t e => ?_⟩
    by_cases hj : v = j
    · subst hj
      by_cases hl : v < (vs.foldr (fun v g => g.set v Sv.un) Γ).length
      · rw [List.getElem?_set_self hl] at e
        cases e
        trivial
      · rw [List.getElem?_eq_none (by rw [List.length_set]; omega)] at e
        cases e
    · rw [List.getElem?_set_ne hj] at e
      rw [List.getElem?_set_ne hj]
      exact ih.get j t e
theorem envOk_start {N : List Str} {vs : List V} {ss : List Sv} (hl : vs.length = ss.length) (hs : ∀ (i : Nat) (s : Sv), ss[i]? = some s → ∀ v, vs[i]? = some v → SvOk X H s (some (some v))) (hN : vs.length ≤ N.length) : EnvOk X H (L2.start N vs) (ss ++ List.replicate (N.length - vs.length) .un) := by
  unfold L2.start
  refine ⟨by simp [hl], fun i s e => ?_⟩
  by_cases hi : i < vs.length
  · rw [List.getElem?_append_left (by omega)] at e
    rw [List.getElem?_append_left (by simpa using hi)]
    rw [List.getElem?_map, List.getElem?_eq_getElem hi]
    exact hs i s e _ (List.getElem?_eq_getElem hi)
  · rw [List.getElem?_append_right (by omega)] at e
    have hu : s = .un := by
      have := List.mem_of_getElem? e
      exact List.eq_of_mem_replicate this
    subst hu
    trivial
end

/-! ### what evaluates to what datum, leaving all as it is -/
def G (X : Addr → Prop) (te : TE) (σ : St) (H : Hp) (d : PyData) : Prop := ∀ H1, Same H H1 → ∀ Q : VK, (∀ v H2, Same H1 H2 → DX X H2 v d → Q v H2) → te σ H1 Q
def GV (te : TE) (σ : St) (H : Hp) (v : V) : Prop := ∀ H1, Same H H1 → ∀ Q : VK, Q v H1 → te σ H1 Q
def GT (tt : TT) (σ : St) (H : Hp) (b : Bool) : Prop := ∀ H1, Same H H1 → ∀ Q : Bool → Hp → Prop, (∀ H2, Same H1 H2 → Q b H2) → tt σ H1 Q
def GA (X : Addr → Prop) (ta : TA) (σ : St) (H : Hp) (ds : List PyData) : Prop := ∀ H1, Same H H1 → ∀ Q : List V → Hp → Prop, (∀ vs H2, Same H1 H2 → DXs X H2 vs ds → Q vs H2) → ta σ H1 Q
def GO (to : TO) (σ : St) (H : Hp) (o : Option Int) : Prop := ∀ H1, Same H H1 → ∀ Q : Option Int → Hp → Prop, (∀ H2, Same H1 H2 → Q o H2) → to σ H1 Q
/-- operations on data -/
def RD (X : Addr → Prop) (r : R2) (x y z : PyData) : Prop := ∀ H u v, Trk X H → DX X H u x → DX X H v y → ∀ Q : VK, (∀ w H2, Same H H2 → DX X H2 w z → Q w H2) → r u v H Q
def RB (X : Addr → Prop) (r : R2) (x y : PyData) (b : Bool) : Prop := ∀ H u v, Trk X H → DX X H u x → DX X H v y → ∀ Q : VK, Q (.bl b) H → r u v H Q
def RF (X : Addr → Prop) (r : List V → Hp → VK → Prop) (xs : List PyData) (z : PyData) : Prop := ∀ H us, Trk X H → DXs X H us xs → ∀ Q : VK, (∀ w H2, Same H H2 → DX X H2 w z → Q w H2) → r us H Q
section
variable {X : Addr → Prop} {σ : St} {H H' : Hp} {te ta tb tc : TE} {tt tu : TT} {x y z d e : PyData} {Γ : List Sv} {K : PySem.W.Frag} {r : R2}
theorem DX.int_inv {v : V} {i : Int} (h : DX X H v (.int i)) : v = .int i := by cases h; rfl
theorem DX.bl_inv {v : V} {b : Bool} (h : DX X H v (.bool b)) : v = .bl b := by cases h; rfl
theorem DX.str_inv {v : V} {s : Str} (h : DX X H v (.str s)) : v = .str s := by cases h; rfl
theorem DX.non_inv {v : V} (h : DX X H v .none) : v = .non := by cases h; rfl
theorem DX.lst_inv {v : V} {ds : List PyData} (h : DX X H v (.list ds)) : ∃ a xs, v = .ref a ∧ ¬ X a ∧ H a = some (.lst xs) ∧ DXs X H xs ds := by
  cases h with | lst n e r => exact ⟨_, _, rfl, n, e, r⟩
theorem DX.tup_inv {v : V} {ds : List PyData} (h : DX X H v (.tuple ds)) : ∃ a xs, v = .ref a ∧ ¬ X a ∧ H a = some (.tup xs) ∧ DXs X H xs ds := by
  cases h with | tup n e r => exact ⟨_, _, rfl, n, e, r⟩
theorem DX.newL {xs : List V} {ds : List PyData} (t : Trk X H) (h : DXs X H xs ds) {p : Addr} (hp : H p = none) : DX X (upd H p (.lst xs)) (.ref p) (.list ds) := .lst (t.new hp) upd_same (h.mono (Kp.of (Same.upd hp)))
theorem DX.newT {xs : List V} {ds : List PyData} (t : Trk X H) (h : DXs X H xs ds) {p : Addr} (hp : H p = none) : DX X (upd H p (.tup xs)) (.ref p) (.tuple ds) := .tup (t.new hp) upd_same (h.mono (Kp.of (Same.upd hp)))
theorem DX.isa_bool {v : V} {b : Bool} (h : DX X H v d) (e : v = .bl b) : d = .bool b := by subst e; cases h; rfl

theorem G.mono (s : Same H H') (h : G X te σ H d) : G X te σ H' d := fun H1 k Q q => h H1 (s.trans k) Q q
theorem GT.mono {b : Bool} (s : Same H H') (h : GT tt σ H b) : GT tt σ H' b := fun H1 k Q q => h H1 (s.trans k) Q q
theorem g_var {i : Nat} (E : EnvOk X H σ Γ) (h : Γ[i]? = some (.dat d)) : G X (tVar i) σ H d := fun H1 s Q q => by
  obtain ⟨v, e, r⟩ := E.get i _ h
  exact ⟨v, e, q v H1 (Same.refl H1) (r.mono (Kp.of s))⟩
theorem gv_var {i : Nat} {v : V} (E : EnvOk X H σ Γ) (h : Γ[i]? = some (.val v)) : GV (tVar i) σ H v := fun H1 s Q q => ⟨v, E.get i _ h, q⟩
theorem g_int {i : Int} : G X (tC (.int i)) σ H (.int i) := fun H1 _ Q q => q _ H1 (Same.refl H1) (.int i)
theorem g_bl {b : Bool} : G X (tC (.bl b)) σ H (.bool b) := fun H1 _ Q q => q _ H1 (Same.refl H1) (.bl b)
theorem g_str {s : Str} : G X (tC (.str s)) σ H (.str s) := fun H1 _ Q q => q _ H1 (Same.refl H1) (.str s)
theorem g_non : G X (tC .non) σ H .none := fun H1 _ Q q => q _ H1 (Same.refl H1) .non
theorem ga_nil : GA X tNil σ H [] := fun H1 _ Q q => q [] H1 (Same.refl H1) .nil
theorem ga_cons {ta : TE} {tr : TA} {ds : List PyData} (h : G X ta σ H d) (k : GA X tr σ H ds) : GA X (tCons ta tr) σ H (d :: ds) := fun H1 s Q q =>
  h H1 s _ fun v H2 s2 r => k H2 (s.trans s2) _ fun vs H3 s3 rs => q _ H3 (s2.trans s3) (.cons (r.mono (Kp.of s3)) rs)
theorem g_lst {ta : TA} {ds : List PyData} (t : Trk X H) (h : GA X ta σ H ds) (hl : ds.length ≤ 1000000) : G X (tLst ta) σ H (.list ds) := fun H1 s Q q =>
  h H1 s _ fun vs H2 s2 rs => ⟨by rw [rs.length, sizeLine_eq]; omega, fun p hp => q _ _ (s2.trans (Same.upd hp)) (DX.newL ((t.mono s).mono s2) rs hp)⟩
theorem g_tup {ta : TA} {ds : List PyData} (t : Trk X H) (h : GA X ta σ H ds) (hl : ds.length ≤ 1000000) : G X (tTup ta) σ H (.tuple ds) := fun H1 s Q q =>
  h H1 s _ fun vs H2 s2 rs => ⟨by rw [rs.length, sizeLine_eq]; omega, fun p hp => q _ _ (s2.trans (Same.upd hp)) (DX.newT ((t.mono s).mono s2) rs hp)⟩
theorem g_op (t : Trk X H) (ha : G X ta σ H x) (hb : G X tb σ H y) (hr : RD X r x y z) : G X (tOp r ta tb) σ H z := fun H1 s Q q =>
  ha H1 s _ fun u H2 s2 ru => hb H2 (s.trans s2) _ fun v H3 s3 rv => hr H3 u v (((t.mono s).mono s2).mono s3) (ru.mono (Kp.of s3)) rv Q fun w H4 s4 rw_ => q w H4 ((s2.trans s3).trans s4) rw_
theorem gt_op {b : Bool} (t : Trk X H) (ha : G X ta σ H x) (hb : G X tb σ H y) (hr : RB X r x y b) : GT (tTest (tOp r ta tb)) σ H b := fun H1 s Q q =>
  ha H1 s _ fun u H2 s2 ru => hb H2 (s.trans s2) _ fun v H3 s3 rv => hr H3 u v (((t.mono s).mono s2).mono s3) (ru.mono (Kp.of s3)) rv _ ⟨b, rfl, q H3 (s2.trans s3)⟩
theorem RB.rd {b : Bool} (h : RB X r x y b) : RD X r x y (.bool b) := fun H u v t ru rv Q q => h H u v t ru rv Q (q _ H (Same.refl H) (.bl b))
theorem RD.or1 {r r' : R2} (h : RD X r x y z) : RD X (fun x y H Q => r x y H Q ∨ r' x y H Q) x y z := fun H u v t ru rv Q q => .inl (h H u v t ru rv Q q)
theorem RD.or2 {r r' : R2} (h : RD X r' x y z) : RD X (fun x y H Q => r x y H Q ∨ r' x y H Q) x y z := fun H u v t ru rv Q q => .inr (h H u v t ru rv Q q)
/-- a test that is a bool's -/
theorem gt_B {b : Bool} (h : G X te σ H (.bool b)) : GT (tB te) σ H b := fun H1 s Q q => h H1 s _ fun v H2 s2 r => ⟨b, r.bl_inv, q H2 s2⟩
theorem gt_test {b : Bool} (h : G X te σ H (.bool b)) : GT (tTest te) σ H b := fun H1 s Q q => h H1 s _ fun v H2 s2 r => ⟨b, r.bl_inv, q H2 s2⟩
theorem gt_not {b : Bool} (h : GT tt σ H b) : GT (tNot tt) σ H (!b) := fun H1 s Q q => h H1 s _ fun H2 s2 => q H2 s2
theorem gt_and {a b : Bool} (h : GT tt σ H a) (k : a = true → GT tu σ H b) : GT (tAnd tt tu) σ H (a && b) := fun H1 s Q q => h H1 s _ fun H2 s2 => by
  cases a with
  | true =>
    show tu σ H2 Q
    exact k rfl H2 (s.trans s2) Q fun H3 s3 => q H3 (s2.trans s3)
  | false =>
    show Q false H2
    exact q H2 s2
theorem gt_or {a b : Bool} (h : GT tt σ H a) (k : a = false → GT tu σ H b) : GT (tOr tt tu) σ H (a || b) := fun H1 s Q q => h H1 s _ fun H2 s2 => by
  cases a with
  | true =>
    show Q true H2
    exact q H2 s2
  | false =>
    show tu σ H2 Q
    exact k rfl H2 (s.trans s2) Q fun H3 s3 => q H3 (s2.trans s3)
theorem gt_is {a b : Bool} (h : GT tt σ H a) (e : a = b) : GT tt σ H b := e ▸ h
theorem g_is (h : G X te σ H d) (e' : d = e) : G X te σ H e := e' ▸ h
theorem g_and {a b : Bool} (h : G X ta σ H (.bool a)) (k : a = true → G X tb σ H (.bool b)) : G X (tAndV ta tb) σ H (.bool (a && b)) := fun H1 s Q q => h H1 s _ fun v H2 s2 r => ⟨a, r.bl_inv, by
  cases a with
  | true =>
    show tb σ H2 Q
    exact k rfl H2 (s.trans s2) Q fun v H3 s3 r3 => q v H3 (s2.trans s3) r3
  | false =>
    show Q (.bl false) H2
    exact q _ H2 s2 (.bl false)⟩
theorem g_or {a b : Bool} (h : G X ta σ H (.bool a)) (k : a = false → G X tb σ H (.bool b)) : G X (tOrV ta tb) σ H (.bool (a || b)) := fun H1 s Q q => h H1 s _ fun v H2 s2 r => ⟨a, r.bl_inv, by
  cases a with
  | true =>
    show Q (.bl true) H2
    exact q _ H2 s2 (.bl true)
  | false =>
    show tb σ H2 Q
    exact k rfl H2 (s.trans s2) Q fun v H3 s3 r3 => q v H3 (s2.trans s3) r3⟩
theorem g_not {a : Bool} (h : G X ta σ H (.bool a)) : G X (tNotV ta) σ H (.bool (!a)) := fun H1 s Q q => h H1 s _ fun v H2 s2 r => ⟨a, r.bl_inv, q _ H2 s2 (.bl _)⟩
theorem g_if {b : Bool} (h : GT tt σ H b) (h1 : b = true → G X ta σ H d) (h2 : b = false → G X tb σ H d) : G X (tIf tt ta tb) σ H d := fun H1 s Q q => h H1 s _ fun H2 s2 => by
  cases b with
  | true =>
    show ta σ H2 Q
    exact h1 rfl H2 (s.trans s2) Q fun v H3 s3 r3 => q v H3 (s2.trans s3) r3
  | false =>
    show tb σ H2 Q
    exact h2 rfl H2 (s.trans s2) Q fun v H3 s3 r3 => q v H3 (s2.trans s3) r3
theorem g_call {sp : Sp} {E : XK} {ta : TA} {ds : List PyData} (h : GA X ta σ H ds) (k : ∀ vs H1, Same H H1 → DXs X H1 vs ds → ∀ Q : VK, (∀ v H2, Same H1 H2 → DX X H2 v d → Q v H2) → sp vs H1 Q E) : G X (tCall sp [] E ta) σ H d := fun H1 s Q q =>
  h H1 s _ fun vs H2 s2 rs => by
    rw [List.append_nil]
    exact k vs H2 (s.trans s2) rs Q fun v H3 s3 r3 => q v H3 (s2.trans s3) r3
theorem g_cb {rr : List V → Hp → VK → Prop} {ta : TA} {ds : List PyData} (t : Trk X H) (h : GA X ta σ H ds) (k : RF X rr ds d) : G X (tCB rr ta) σ H d := fun H1 s Q q =>
  h H1 s _ fun vs H2 s2 rs => k H2 vs ((t.mono s).mono s2) rs Q fun w H3 s3 r3 => q w H3 (s2.trans s3) r3
theorem go_none : GO tNoPart σ H none := fun H1 _ Q q => q H1 (Same.refl H1)
theorem go_some {i : Int} (h : G X te σ H (.int i)) : GO (tPart te) σ H (some i) := fun H1 s Q q => h H1 s _ fun v H2 s2 r => ⟨i, r.int_inv, q H2 s2⟩

/-! ### the operations -/
theorem rd_I0 {g : Int → Int → Int} {i j : Int} : RD X (rI0 fun i j => .int (g i j)) (.int i) (.int j) (.int (g i j)) := fun H u v _ ru rv Q q => ⟨i, j, ru.int_inv, rv.int_inv, q _ H (Same.refl H) (.int _)⟩
theorem rd_I {C : Int → Int → Prop} {g : Int → Int → Int} {i j : Int} (c : C i j) : RD X (rI C fun i j => .int (g i j)) (.int i) (.int j) (.int (g i j)) := fun H u v _ ru rv Q q => ⟨i, j, ru.int_inv, rv.int_inv, c, q _ H (Same.refl H) (.int _)⟩
theorem rb_I0 {g : Int → Int → Bool} {i j : Int} : RB X (rI0 fun i j => .bl (g i j)) (.int i) (.int j) (g i j) := fun H u v _ ru rv Q q => ⟨i, j, ru.int_inv, rv.int_inv, q⟩
theorem rd_cat {xs ys : List PyData} (hl : xs.length + ys.length ≤ 1000000) : RD X rCat (.list xs) (.list ys) (.list (xs ++ ys)) := fun H u v t ru rv Q q => by
  obtain ⟨a, us, rfl, _, ha, rs⟩ := ru.lst_inv
  obtain ⟨b, ws, rfl, _, hb, rt⟩ := rv.lst_inv
  exact ⟨a, b, us, ws, rfl, rfl, ha, hb, by rw [rs.length, rt.length, sizeLine_eq]; omega, fun p hp => q _ _ (Same.upd hp) (DX.newL t (rs.append rt) hp)⟩
theorem rd_rep {xs : List PyData} {k : Int} (h1 : -(2 ^ 63) ≤ k) (h2 : k < 2 ^ 63) (hl : xs.length * k.toNat ≤ 1000000) : RD X rRep (.list xs) (.int k) (.list (List.replicate k.toNat xs).flatten) := fun H u v t ru rv Q q => by
  obtain ⟨a, us, rfl, _, ha, rs⟩ := ru.lst_inv
  exact ⟨a, k, us, rfl, rv.int_inv, ha, h1, h2, by rw [rs.length, sizeLine_eq]; omega, fun p hp => q _ _ (Same.upd hp) (DX.newL t (rs.rep k.toNat) hp)⟩
theorem rd_addS {a b : Str} (hl : a.length + b.length ≤ 1000000) : RD X (fun x y H Q => ∃ i j, x = V.str i ∧ y = V.str j ∧ i.length + j.length ≤ sizeLine ∧ Q (V.str (i ++ j)) H) (.str a) (.str b) (.str (a ++ b)) := fun H u v _ ru rv Q q => ⟨a, b, ru.str_inv, rv.str_inv, by rw [sizeLine_eq]; omega, q _ H (Same.refl H) (.str _)⟩
theorem rb_eqD (hd : noDict x = true) (he : noDict y = true) (hs : SeqAt.shaped x = true) (ht : SeqAt.shaped y = true) : RB X (rEqD K) x y (PyData.eqv x y) := fun H u v _ ru rv Q q => ⟨x, y, ru.dp hd, rv.dp he, hs, ht, q⟩
theorem rb_neD (hd : noDict x = true) (he : noDict y = true) (hs : SeqAt.shaped x = true) (ht : SeqAt.shaped y = true) : RB X (rNeD K) x y (!PyData.eqv x y) := fun H u v _ ru rv Q q => ⟨x, y, ru.dp hd, rv.dp he, hs, ht, q⟩
def isNone : PyData → Bool
  | .none => true
  | _ => false
theorem dx_none {v : V} (h : DX X H v d) : decide (v = .non) = isNone d := by cases h <;> simp [isNone]
theorem rb_isN : RB X (fun x y H Q => y = .non ∧ Q (.bl (decide (x = .non))) H) x .none (isNone x) := fun H u v _ ru rv Q q => ⟨rv.non_inv, by rw [dx_none ru]; exact q⟩
theorem rb_notN : RB X (fun x y H Q => y = .non ∧ Q (.bl (!decide (x = .non))) H) x .none (!isNone x) := fun H u v _ ru rv Q q => ⟨rv.non_inv, by rw [dx_none ru]; exact q⟩
theorem rb_isB {a b : Bool} : RB X rIsB (.bool a) (.bool b) (decide (a = b)) := fun H u v _ ru rv Q q => ⟨a, b, ru.bl_inv, rv.bl_inv, q⟩
theorem rb_notB {a b : Bool} : RB X rNotB (.bool a) (.bool b) (!decide (a = b)) := fun H u v _ ru rv Q q => ⟨a, b, ru.bl_inv, rv.bl_inv, q⟩
/-- an item -/
theorem rd_ixL {ds : List PyData} {i : Int} (h : atI ds i = some z) : RD X (rIx K) (.list ds) (.int i) z := fun H u v _ ru rv Q q => by
  obtain ⟨a, us, rfl, _, ha, rs⟩ := ru.lst_inv
  unfold atI at h
  cases hx : ixN ds.length i with
  | none => rw [hx] at h; cases h
  | some j =>
    rw [hx] at h
    obtain ⟨w, hw, rz⟩ := rs.get (i := j) (show ds[j]? = some z from h)
    exact .inl ⟨a, us, i, w, rfl, rv.int_inv, SqL.of ha, by unfold atI; rw [rs.length, hx]; exact hw, q w H (Same.refl H) rz⟩
theorem rd_ixT {ds : List PyData} {i : Int} (h : atI ds i = some z) : RD X (rIx K) (.tuple ds) (.int i) z := fun H u v _ ru rv Q q => by
  obtain ⟨a, us, rfl, _, ha, rs⟩ := ru.tup_inv
  unfold atI at h
  cases hx : ixN ds.length i with
  | none => rw [hx] at h; cases h
  | some j =>
    rw [hx] at h
    obtain ⟨w, hw, rz⟩ := rs.get (i := j) (show ds[j]? = some z from h)
    exact .inr (.inl ⟨a, us, i, w, rfl, rv.int_inv, SqT.of ha, by unfold atI; rw [rs.length, hx]; exact hw, q w H (Same.refl H) rz⟩)
/-- a slice of a list -/
def cutPD (xs : List PyData) (lo hi : Option Int) : List PyData := (xs.drop (HT.sIx xs.length 0 lo)).take (HT.sIx xs.length xs.length hi - HT.sIx xs.length 0 lo)
theorem DXs.cut {vs : List V} {ds : List PyData} (h : DXs X H vs ds) (lo hi : Option Int) : DXs X H (cutV vs lo hi) (cutPD ds lo hi) := by
  unfold cutV cutPD
  rw [h.length]
  exact (h.drop _).take _
theorem g_sl {tl th : TO} {ds : List PyData} {lo hi : Option Int} (t : Trk X H) (h : G X te σ H (.list ds)) (hl : GO tl σ H lo) (hh : GO th σ H hi) : G X (tSl (rSlL K) te tl th) σ H (.list (cutPD ds lo hi)) := fun H1 s Q q =>
  h H1 s _ fun v H2 s2 r2 => hl H2 (s.trans s2) _ fun H3 s3 => hh H3 ((s.trans s2).trans s3) _ fun H4 s4 => by
    obtain ⟨a, us, rfl, _, ha, rs⟩ := (r2.mono (Kp.of (s3.trans s4))).lst_inv
    exact ⟨a, us, rfl, SqL.of ha, fun p hp => q _ _ (((s2.trans s3).trans s4).trans (Same.upd hp)) (DX.newL (((t.mono s).mono s2).mono (s3.trans s4)) (rs.cut lo hi) hp)⟩

/-! ### functions of the language -/
def lenD : PyData → Nat
  | .str s => s.length
  | .list ds => ds.length
  | .tuple ds => ds.length
  | _ => 0
def hasLen : PyData → Bool
  | .str s => decide (s.length ≤ 1000000)
  | .list _ => true
  | .tuple _ => true
  | _ => false
theorem rf_len (h : hasLen d = true) : RF X (fun xs H Q => ∃ x n, xs = [x] ∧ LenV K x H n ∧ Q (.int n) H) [d] (.int (lenD d : Int)) := fun H us _ rs Q q => by
  cases rs with
  | cons r r2 =>
    cases r2
    cases r with
    | str s => exact ⟨_, s.length, rfl, ⟨by have := of_decide_eq_true (show decide (s.length ≤ 1000000) = true from h); rw [sizeLine_eq]; omega, rfl⟩, q _ H (Same.refl H) (.int _)⟩
    | lst n e r => exact ⟨_, _, rfl, .inl ⟨_, SqL.of e, rfl⟩, q _ H (Same.refl H) (by rw [r.length]; exact .int _)⟩
    | tup n e r => exact ⟨_, _, rfl, .inr ⟨_, SqT.of e, rfl⟩, q _ H (Same.refl H) (by rw [r.length]; exact .int _)⟩
    | _ => exact absurd h (by simp [hasLen])
/-- the items of a list or tuple -/
def itemsD : PyData → List PyData
  | .list ds => ds
  | .tuple ds => ds
  | _ => []
def isSeq : PyData → Bool
  | .list _ => true
  | .tuple _ => true
  | _ => false
theorem rf_list (h : isSeq d = true) : RF X (fun xs H Q => ∃ p ys, xs = [V.ref p] ∧ (SqL K H p ys ∨ SqT K H p ys) ∧ ∀ l, H l = none → Q (.ref l) (upd H l (.lst ys))) [d] (.list (itemsD d)) := fun H us t rs Q q => by
  cases rs with
  | cons r r2 =>
    cases r2
    cases r with
    | lst n e r => exact ⟨_, _, rfl, .inl (SqL.of e), fun l hl => q _ _ (Same.upd hl) (DX.newL t r hl)⟩
    | tup n e r => exact ⟨_, _, rfl, .inr (SqT.of e), fun l hl => q _ _ (Same.upd hl) (DX.newL t r hl)⟩
    | _ => exact absurd h (by simp [isSeq])
theorem rf_tuple (h : isSeq d = true) : RF X (fun xs H Q => ∃ p ys, xs = [V.ref p] ∧ ((SqL K H p ys ∧ ∀ l, H l = none → Q (.ref l) (upd H l (.tup ys))) ∨ (SqT K H p ys ∧ Q (.ref p) H))) [d] (.tuple (itemsD d)) := fun H us t rs Q q => by
  cases rs with
  | cons r r2 =>
    cases r2
    cases r with
    | lst n e r => exact ⟨_, _, rfl, .inl ⟨SqL.of e, fun l hl => q _ _ (Same.upd hl) (DX.newT t r hl)⟩⟩
    | tup n e r => exact ⟨_, _, rfl, .inr ⟨SqT.of e, q _ H (Same.refl H) (.tup n e r)⟩⟩
    | _ => exact absurd h (by simp [isSeq])
theorem DXs.ints : ∀ {vs : List V} {ns : List Int}, DXs X H vs (ns.map PyData.int) → vs = ns.map V.int
  | _, [], .nil => rfl
  | _, n :: ns, .cons h r => by rw [h.int_inv, DXs.ints r]; rfl
theorem DXs.bls : ∀ {vs : List V} {ns : List Bool}, DXs X H vs (ns.map PyData.bool) → vs = ns.map V.bl
  | _, [], .nil => rfl
  | _, n :: ns, .cons h r => by rw [h.bl_inv, DXs.bls r]; rfl
theorem DXs.strs : ∀ {vs : List V} {ns : List Str}, DXs X H vs (ns.map PyData.str) → vs = ns.map V.str
  | _, [], .nil => rfl
  | _, n :: ns, .cons h r => by rw [h.str_inv, DXs.strs r]; rfl
theorem DX.ofInts {p : Addr} {ns : List Int} (n : ¬ X p) (h : H p = some (.lst (ns.map V.int))) : DX X H (.ref p) (.list (ns.map PyData.int)) := by
  refine .lst n h ?_
  clear h
  induction ns with
  | nil => exact .nil
  | cons a r ih => exact .cons (.int a) ih
theorem rf_min {ns : List Int} {m : Int} (h0 : 0 < ns.length) (hm : m ∈ ns) (hl : ∀ y ∈ ns, m ≤ y) : RF X (rMin K) [.list (ns.map PyData.int)] (.int m) := fun H us _ rs Q q => by
  cases rs with
  | cons r r2 =>
    cases r2
    obtain ⟨a, vs, rfl, _, ha, rv⟩ := r.lst_inv
    refine ⟨a, ns, rfl, SqL.of (by rw [← rv.ints]; exact ha), h0, fun m' h1 h2 => ?_⟩
    have e : m' = m := Int.le_antisymm (h2 m hm) (hl m' h1)
    subst e
    exact q _ H (Same.refl H) (.int _)
theorem rf_all {bs : List Bool} : RF X (rAll K) [.list (bs.map PyData.bool)] (.bool (bs.all id)) := fun H us _ rs Q q => by
  cases rs with
  | cons r r2 =>
    cases r2
    obtain ⟨a, vs, rfl, _, ha, rv⟩ := r.lst_inv
    exact ⟨a, bs, rfl, SqL.of (by rw [← rv.bls]; exact ha), q _ H (Same.refl H) (.bl _)⟩
theorem rf_any {bs : List Bool} : RF X (rAny K) [.list (bs.map PyData.bool)] (.bool (bs.any id)) := fun H us _ rs Q q => by
  cases rs with
  | cons r r2 =>
    cases r2
    obtain ⟨a, vs, rfl, _, ha, rv⟩ := r.lst_inv
    exact ⟨a, bs, rfl, SqL.of (by rw [← rv.bls]; exact ha), q _ H (Same.refl H) (.bl _)⟩
theorem rf_int {i : Int} : RF X (fun xs H Q => (∃ i, xs = [V.int i] ∧ Q (.int i) H) ∨ ∃ k, xs = [V.bl k] ∧ Q (.int (if k = true then 1 else 0)) H) [.int i] (.int i) := fun H us _ rs Q q => by
  cases rs with
  | cons r r2 =>
    cases r2
    rw [r.int_inv]
    exact .inl ⟨i, rfl, q _ H (Same.refl H) (.int _)⟩
/-- isinstance -/
def tyD : PyData → String
  | .none => "NoneType"
  | .bool _ => "bool"
  | .int _ => "int"
  | .str _ => "str"
  | .list _ => "list"
  | .tuple _ => "tuple"
  | .dict _ => "dict"
theorem DX.ty {v : V} (h : DX X H v d) : TyX K H v (.type (tyD d)) := by
  cases h with
  | non => exact .base .non
  | bl b => exact .base (.bl b)
  | int i => exact .base (.int i)
  | str s => exact .base (.str s)
  | lst n e r => exact .base (.lst e)
  | tup n e r => exact .base (.tup e)
  | dic n e r => exact .base (.dK e)
def isD (n : String) (d : PyData) : Bool := (kitB (tyD d) n).getD false
theorem kit_d {n : String} (h : (kitB (tyD d) n).isSome = true) : PySem.W.kitOne K (.type (tyD d)) (.type n) = some (isD n d) := by
  unfold isD
  cases e : kitB (tyD d) n with
  | none => rw [e] at h; cases h
  | some b => exact kit_ty e
theorem g_isi {n : String} (h : G X te σ H d) (hk : (kitB (tyD d) n).isSome = true) : G X (tCB (rIsi K) (tCons te (tCons (tC (.ty n)) tNil))) σ H (.bool (isD n d)) := fun H1 s Q q =>
  h H1 s _ fun v H2 s2 r => ⟨v, .ty n, _, _, _, rfl, .ty n, r.ty, kit_d hk, q _ H2 s2 (.bl _)⟩
def isDs (ns : List String) (d : PyData) : Bool := ns.any fun n => isD n d
theorem kit_ds : ∀ {ns : List String}, (∀ n ∈ ns, (kitB (tyD d) n).isSome = true) → PySem.W.kitAny K (.type (tyD d)) (ns.map Value.type) = some (isDs ns d)
  | [], _ => by unfold PySem.W.kitAny; rfl
  | n :: ns, h => by
    have h1 := kit_d (K := K) (h n List.mem_cons_self)
    have h2 := kit_ds (ns := ns) fun m hm => h m (List.mem_cons_of_mem _ hm)
    refine kitAny_cons h1 (fun e => ?_) (fun e => ?_)
    · rw [h2]
      unfold isDs
      rw [List.any_cons, e, Bool.false_or]
    · unfold isDs
      rw [List.any_cons, e, Bool.true_or]
def tyArgs : List String → TA
  | [] => tNil
  | n :: ns => tCons (tC (.ty n)) (tyArgs ns)
theorem tyArgs_run : ∀ (ns : List String) (σ : St) (H : Hp) (Q : List V → Hp → Prop), Q (ns.map V.ty) H → tyArgs ns σ H Q
  | [], _, _, _, q => q
  | n :: ns, σ, H, Q, q => tyArgs_run ns σ H _ q
theorem clsV_all : ∀ ns : List String, Paired ClsV (ns.map V.ty) (ns.map Value.type)
  | [] => .nil
  | n :: ns => .cons (.ty n) (clsV_all ns)
theorem g_isiT {ns : List String} {t2 : TA} (h : G X te σ H d) (e2 : t2 = tyArgs ns) (hl : ns.length ≤ 1000) (hk : ∀ n ∈ ns, (kitB (tyD d) n).isSome = true) : G X (tCB (rIsiT K) (tCons te (tCons (tTup t2) tNil))) σ H (.bool (isDs ns d)) := fun H1 s Q q =>
  h H1 s _ fun v H2 s2 r => by
    subst e2
    refine tyArgs_run ns σ H2 _ ⟨by rw [List.length_map, sizeLine_eq]; omega, fun p hp => ?_⟩
    exact ⟨v, p, ns.map V.ty, _, ns.map Value.type, _, rfl, upd_same, clsV_all ns, (r.mono (Kp.of (Same.upd hp))).ty, kit_ds hk, q _ _ (s2.trans (Same.upd hp)) (.bl _)⟩
end
theorem kb_NoneType_int : kitB "NoneType" "int" = some false := by decide +kernel
theorem kb_bool_int : kitB "bool" "int" = some true := by decide +kernel
theorem kb_int_int : kitB "int" "int" = some true := by decide +kernel
theorem kb_str_int : kitB "str" "int" = some false := by decide +kernel
theorem kb_list_int : kitB "list" "int" = some false := by decide +kernel
theorem kb_tuple_int : kitB "tuple" "int" = some false := by decide +kernel
theorem kb_dict_int : kitB "dict" "int" = some false := by decide +kernel
theorem kb_NoneType_bool : kitB "NoneType" "bool" = some false := by decide +kernel
theorem kb_bool_bool : kitB "bool" "bool" = some true := by decide +kernel
theorem kb_int_bool : kitB "int" "bool" = some false := by decide +kernel
theorem kb_str_bool : kitB "str" "bool" = some false := by decide +kernel
theorem kb_list_bool : kitB "list" "bool" = some false := by decide +kernel
theorem kb_tuple_bool : kitB "tuple" "bool" = some false := by decide +kernel
theorem kb_dict_bool : kitB "dict" "bool" = some false := by decide +kernel
theorem kb_NoneType_str : kitB "NoneType" "str" = some false := by decide +kernel
theorem kb_bool_str : kitB "bool" "str" = some false := by decide +kernel
theorem kb_int_str : kitB "int" "str" = some false := by decide +kernel
theorem kb_str_str : kitB "str" "str" = some true := by decide +kernel
theorem kb_list_str : kitB "list" "str" = some false := by decide +kernel
theorem kb_tuple_str : kitB "tuple" "str" = some false := by decide +kernel
theorem kb_dict_str : kitB "dict" "str" = some false := by decide +kernel
theorem kb_NoneType_list : kitB "NoneType" "list" = some false := by decide +kernel
theorem kb_bool_list : kitB "bool" "list" = some false := by decide +kernel
theorem kb_int_list : kitB "int" "list" = some false := by decide +kernel
theorem kb_str_list : kitB "str" "list" = some false := by decide +kernel
theorem kb_list_list : kitB "list" "list" = some true := by decide +kernel
theorem kb_tuple_list : kitB "tuple" "list" = some false := by decide +kernel
theorem kb_dict_list : kitB "dict" "list" = some false := by decide +kernel
theorem kb_NoneType_tuple : kitB "NoneType" "tuple" = some false := by decide +kernel
theorem kb_bool_tuple : kitB "bool" "tuple" = some false := by decide +kernel
theorem kb_int_tuple : kitB "int" "tuple" = some false := by decide +kernel
theorem kb_str_tuple : kitB "str" "tuple" = some false := by decide +kernel
theorem kb_list_tuple : kitB "list" "tuple" = some false := by decide +kernel
theorem kb_tuple_tuple : kitB "tuple" "tuple" = some true := by decide +kernel
theorem kb_dict_tuple : kitB "dict" "tuple" = some false := by decide +kernel
theorem kb_NoneType_dict : kitB "NoneType" "dict" = some false := by decide +kernel
theorem kb_bool_dict : kitB "bool" "dict" = some false := by decide +kernel
theorem kb_int_dict : kitB "int" "dict" = some false := by decide +kernel
theorem kb_str_dict : kitB "str" "dict" = some false := by decide +kernel
theorem kb_list_dict : kitB "list" "dict" = some false := by decide +kernel
theorem kb_tuple_dict : kitB "tuple" "dict" = some false := by decide +kernel
theorem kb_dict_dict : kitB "dict" "dict" = some true := by decide +kernel
def isa_int : PyData → Bool
  | .bool _ => true
  | .int _ => true
  | _ => false
theorem kis_int (d : PyData) : kitB (tyD d) "int" = some (isa_int d) := by
  cases d
  · exact kb_NoneType_int
  · exact kb_bool_int
  · exact kb_int_int
  · exact kb_str_int
  · exact kb_list_int
  · exact kb_tuple_int
  · exact kb_dict_int
theorem isD_int (d : PyData) : isD "int" d = isa_int d := by unfold isD; rw [kis_int]; rfl
theorem ksm_int (d : PyData) : (kitB (tyD d) "int").isSome = true := by rw [kis_int]; rfl
def isa_bool : PyData → Bool
  | .bool _ => true
  | _ => false
theorem kis_bool (d : PyData) : kitB (tyD d) "bool" = some (isa_bool d) := by
  cases d
  · exact kb_NoneType_bool
  · exact kb_bool_bool
  · exact kb_int_bool
  · exact kb_str_bool
  · exact kb_list_bool
  · exact kb_tuple_bool
  · exact kb_dict_bool
theorem isD_bool (d : PyData) : isD "bool" d = isa_bool d := by unfold isD; rw [kis_bool]; rfl
theorem ksm_bool (d : PyData) : (kitB (tyD d) "bool").isSome = true := by rw [kis_bool]; rfl
def isa_str : PyData → Bool
  | .str _ => true
  | _ => false
theorem kis_str (d : PyData) : kitB (tyD d) "str" = some (isa_str d) := by
  cases d
  · exact kb_NoneType_str
  · exact kb_bool_str
  · exact kb_int_str
  · exact kb_str_str
  · exact kb_list_str
  · exact kb_tuple_str
  · exact kb_dict_str
theorem isD_str (d : PyData) : isD "str" d = isa_str d := by unfold isD; rw [kis_str]; rfl
theorem ksm_str (d : PyData) : (kitB (tyD d) "str").isSome = true := by rw [kis_str]; rfl
def isa_list : PyData → Bool
  | .list _ => true
  | _ => false
theorem kis_list (d : PyData) : kitB (tyD d) "list" = some (isa_list d) := by
  cases d
  · exact kb_NoneType_list
  · exact kb_bool_list
  · exact kb_int_list
  · exact kb_str_list
  · exact kb_list_list
  · exact kb_tuple_list
  · exact kb_dict_list
theorem isD_list (d : PyData) : isD "list" d = isa_list d := by unfold isD; rw [kis_list]; rfl
theorem ksm_list (d : PyData) : (kitB (tyD d) "list").isSome = true := by rw [kis_list]; rfl
def isa_tuple : PyData → Bool
  | .tuple _ => true
  | _ => false
theorem kis_tuple (d : PyData) : kitB (tyD d) "tuple" = some (isa_tuple d) := by
  cases d
  · exact kb_NoneType_tuple
  · exact kb_bool_tuple
  · exact kb_int_tuple
  · exact kb_str_tuple
  · exact kb_list_tuple
  · exact kb_tuple_tuple
  · exact kb_dict_tuple
theorem isD_tuple (d : PyData) : isD "tuple" d = isa_tuple d := by unfold isD; rw [kis_tuple]; rfl
theorem ksm_tuple (d : PyData) : (kitB (tyD d) "tuple").isSome = true := by rw [kis_tuple]; rfl
def isa_dict : PyData → Bool
  | .dict _ => true
  | _ => false
theorem kis_dict (d : PyData) : kitB (tyD d) "dict" = some (isa_dict d) := by
  cases d
  · exact kb_NoneType_dict
  · exact kb_bool_dict
  · exact kb_int_dict
  · exact kb_str_dict
  · exact kb_list_dict
  · exact kb_tuple_dict
  · exact kb_dict_dict
theorem isD_dict (d : PyData) : isD "dict" d = isa_dict d := by unfold isD; rw [kis_dict]; rfl
theorem ksm_dict (d : PyData) : (kitB (tyD d) "dict").isSome = true := by rw [kis_dict]; rfl
end KD

namespace KD
open PySem L2
/-! ### more addresses that stand apart -/
def More (X X' : Addr → Prop) (H : Hp) : Prop := (∀ a, X a → X' a) ∧ ∀ a, X' a → X a ∨ H a = none
section
variable {X X' : Addr → Prop} {H H' : Hp} {σ : St} {Γ : List Sv}
theorem More.refl : More X X H := ⟨fun _ h => h, fun _ h => .inl h⟩
theorem More.one {p : Addr} (h : H p = none) : More X (fun a => X a ∨ a = p) H := ⟨fun _ h => .inl h, fun a k => k.elim .inl fun e => .inr (by rw [e]; exact h)⟩
theorem More.back (s : Same H H') (m : More X X' H') : More X X' H := ⟨m.1, fun a h => (m.2 a h).elim .inl fun e => .inr (s.free e)⟩
mutual
theorem DX.more (m : More X X' H) : ∀ {v : V} {d : PyData}, DX X H v d → DX X' H v d
  | _, _, .non => .non
  | _, _, .bl b => .bl b
  | _, _, .int i => .int i
  | _, _, .str x => .str x
  | _, _, .lst n h r => .lst (fun k => (m.2 _ k).elim n fun e => by rw [h] at e; cases e) h (DXs.more m r)
  | _, _, .tup n h r => .tup (fun k => (m.2 _ k).elim n fun e => by rw [h] at e; cases e) h (DXs.more m r)
  | _, _, .dic n h r => .dic (fun k => (m.2 _ k).elim n fun e => by rw [h] at e; cases e) h (DXk.more m r)
theorem DXs.more (m : More X X' H) : ∀ {vs : List V} {ds : List PyData}, DXs X H vs ds → DXs X' H vs ds
  | _, _, .nil => .nil
  | _, _, .cons h r => .cons (DX.more m h) (DXs.more m r)
theorem DXk.more (m : More X X' H) : ∀ {vs : List (Key × V)} {ds : List (PyData × PyData)}, DXk X H vs ds → DXk X' H vs ds
  | _, _, .nil => .nil
  | _, _, .cons h r => .cons (DX.more m h) (DXk.more m r)
end
mutual
theorem DX.less (m : ∀ a, X a → X' a) : ∀ {v : V} {d : PyData}, DX X' H v d → DX X H v d
  | _, _, .non => .non
  | _, _, .bl b => .bl b
  | _, _, .int i => .int i
  | _, _, .str x => .str x
  | _, _, .lst n h r => .lst (fun k => n (m _ k)) h (DXs.less m r)
  | _, _, .tup n h r => .tup (fun k => n (m _ k)) h (DXs.less m r)
  | _, _, .dic n h r => .dic (fun k => n (m _ k)) h (DXk.less m r)
theorem DXs.less (m : ∀ a, X a → X' a) : ∀ {vs : List V} {ds : List PyData}, DXs X' H vs ds → DXs X H vs ds
  | _, _, .nil => .nil
  | _, _, .cons h r => .cons (DX.less m h) (DXs.less m r)
theorem DXk.less (m : ∀ a, X a → X' a) : ∀ {vs : List (Key × V)} {ds : List (PyData × PyData)}, DXk X' H vs ds → DXk X H vs ds
  | _, _, .nil => .nil
  | _, _, .cons h r => .cons (DX.less m h) (DXk.less m r)
end
theorem EnvOk.more (m : More X X' H) (E : EnvOk X H σ Γ) : EnvOk X' H σ Γ := ⟨E.len, fun i s e => by
  have h := E.get i s e
  cases s with
  | dat d =>
    obtain ⟨v, e1, r⟩ := h
    exact ⟨v, e1, r.more m⟩
  | val v => exact h
  | un => trivial⟩
theorem Trk.one {p : Addr} {o : HO} (t : Trk X H) (h : H p = none) : Trk (fun a => X a ∨ a = p) (upd H p o) := fun a k => k.elim (fun x => (t.mono (Same.upd h)) a x) fun e => by
  subst e
  exact ⟨o, upd_same⟩
theorem Trk.put {p : Addr} {o : HO} (t : Trk X H) : Trk X (upd H p o) := fun a x => by
  by_cases e : a = p
  · subst e
    exact ⟨o, upd_same⟩
  · obtain ⟨u, k⟩ := t a x
    exact ⟨u, by rw [upd_ne e]; exact k⟩
theorem Kp.put {p : Addr} {o : HO} (h : X p) : Kp X H (upd H p o) := fun a u n e => by
  rw [upd_ne (fun z => n (by rw [z]; exact h))]
  exact e
/-- a new object that was changed behind -/
theorem Same.mut {p : Addr} {o : HO} (s : Same H H') (h : H p = none) : Same H (L2.upd H' p o) := fun a u e => by
  rw [upd_ne (ne_of_none e h)]
  exact s a u e
end

/-! ### what is walked, as data -/
def WalkD (X : Addr → Prop) (J : It) (H : Hp) (ds : List PyData) : Prop := ∃ (Gd : Hp → Prop) (Y : Nat → Hp → V → Hp → Prop), Walk J ds.length Gd Y ∧
  ∀ X', (∀ a, X' a → X a ∨ H a = none) → ∀ H3, Kp X' H H3 → Trk X' H3 → Gd H3 ∧ ∀ i x H4, Y i H3 x H4 → Same H3 H4 ∧ ∃ d, ds[i]? = some d ∧ DX X' H4 x d
def GI (X : Addr → Prop) (wi : TI) (σ : St) (H : Hp) (ds : List PyData) : Prop := ∀ H1, Same H H1 → ∀ R : It → Hp → Prop, (∀ J H2, Same H1 H2 → WalkD X J H2 ds → R J H2) → wi σ H1 R
section
variable {X : Addr → Prop} {H H' : Hp} {σ : St} {Γ : List Sv} {te : TE} {K : PySem.W.Frag} {ds es : List PyData}
theorem DX.grow {X' : Addr → Prop} (m : ∀ a, X' a → X a ∨ H a = none) {v : V} {d : PyData} (h : DX X H v d) : DX X' H v d :=
  (h.more (X' := fun a => X a ∨ X' a) ⟨fun _ => .inl, fun a k => k.elim .inl (m a)⟩).less fun _ => .inr
theorem DXs.grow {X' : Addr → Prop} (m : ∀ a, X' a → X a ∨ H a = none) {vs : List V} {ds : List PyData} (h : DXs X H vs ds) : DXs X' H vs ds :=
  (h.more (X' := fun a => X a ∨ X' a) ⟨fun _ => .inl, fun a k => k.elim .inl (m a)⟩).less fun _ => .inr
theorem gi_list (h : G X te σ H (.list ds)) : GI X (iList K te) σ H ds := fun H1 s R r => h H1 s _ fun v H2 s2 rv => by
  obtain ⟨a, xs, rfl, n, e, rx⟩ := rv.lst_inv
  refine ⟨a, rfl, ⟨xs, SqL.of e⟩, r _ H2 s2 ⟨_, _, by rw [← rx.length]; exact walk_list, fun X' m H3 k t => ?_⟩⟩
  have n' : ¬ X' a := fun z => (m a z).elim n fun q => by rw [e] at q; cases q
  refine ⟨SqL.of (k a _ n' e), fun i x H4 y => ?_⟩
  obtain ⟨rfl, hx⟩ := y
  obtain ⟨d, h1, h2⟩ := rx.getV hx
  exact ⟨Same.refl _, d, h1, (h2.grow m).mono k⟩
theorem gi_tup (h : G X te σ H (.tuple ds)) : GI X (iTup K te) σ H ds := fun H1 s R r => h H1 s _ fun v H2 s2 rv => by
  obtain ⟨a, xs, rfl, n, e, rx⟩ := rv.tup_inv
  refine ⟨a, rfl, ⟨xs, SqT.of e⟩, r _ H2 s2 ⟨_, _, by rw [← rx.length]; exact walk_tup, fun X' m H3 k t => ?_⟩⟩
  have n' : ¬ X' a := fun z => (m a z).elim n fun q => by rw [e] at q; cases q
  refine ⟨SqT.of (k a _ n' e), fun i x H4 y => ?_⟩
  obtain ⟨rfl, hx⟩ := y
  obtain ⟨d, h1, h2⟩ := rx.getV hx
  exact ⟨Same.refl _, d, h1, (h2.grow m).mono k⟩
def rangeD (lo : Int) (n : Nat) : List PyData := (List.range n).map fun (i : Nat) => PyData.int (lo + (i : Int))
theorem rangeD_len {lo : Int} {n : Nat} : (rangeD lo n).length = n := by simp [rangeD]
theorem rangeD_get {lo : Int} {n i : Nat} (h : i < n) : (rangeD lo n)[i]? = some (.int (lo + (i : Int))) := by
  unfold rangeD
  rw [List.getElem?_map, List.getElem?_range h]
  rfl
theorem walkD_range {lo : Int} {n : Nat} : WalkD X (Itr lo n) H (rangeD lo n) := by
  refine ⟨fun _ => True, fun i H x H' => (YFn fun i => V.int (lo + i)) i H x H' ∧ i < n, ?_, fun X' m H3 k t => ⟨trivial, fun i x H4 y => ?_⟩⟩
  · rw [rangeD_len]
    exact ⟨fun _ _ hi _ => hi, fun _ _ => Nat.le_refl _, fun _ _ _ _ hi _ y => ⟨y, hi⟩⟩
  · obtain ⟨⟨rfl, rfl⟩, hi⟩ := y
    exact ⟨Same.refl _, _, rangeD_get hi, .int _⟩
theorem gi_range1 {n : Int} (h : G X te σ H (.int n)) (hn : n ≤ 1000000) (hm : -1000000 ≤ n) : GI X (iRng1 (tCons te tNil)) σ H (rangeD 0 n.toNat) := fun H1 s R r => h H1 s _ fun v H2 s2 rv =>
  ⟨n, by rw [rv.int_inv], by omega, by omega, r _ H2 s2 walkD_range⟩
theorem gi_range2 {tb : TE} {a n : Int} (ha : G X te σ H (.int a)) (h : G X tb σ H (.int n)) (hb : -1000000 ≤ a ∧ a ≤ 1000000 ∧ -1000000 ≤ n ∧ n ≤ 1000000) : GI X (iRng2 (tCons te (tCons tb tNil))) σ H (rangeD a (n - a).toNat) := fun H1 s R r =>
  ha H1 s _ fun v H2 s2 rv => h H2 (s.trans s2) _ fun w H3 s3 rw_ => ⟨a, n, by rw [rv.int_inv, rw_.int_inv], by omega, r _ H3 (s2.trans s3) walkD_range⟩
def enumD (ds : List PyData) : List PyData := ds.zipIdx.map fun p => .tuple [.int (p.2 : Nat), p.1]
theorem enumD_len : (enumD ds).length = ds.length := by simp [enumD]
theorem enumD_get {i : Nat} {d : PyData} (h : ds[i]? = some d) : (enumD ds)[i]? = some (.tuple [.int (i : Nat), d]) := by
  unfold enumD
  rw [List.getElem?_map, List.getElem?_zipIdx, h]
  simp
theorem gi_enum (h : G X te σ H (.list ds)) : GI X (iEnum K (tCons te tNil)) σ H (enumD ds) := fun H1 s R r => h H1 s _ fun v H2 s2 rv => by
  obtain ⟨a, xs, rfl, n, e, rx⟩ := rv.lst_inv
  refine ⟨a, xs, rfl, SqL.of e, r _ H2 s2 ⟨_, _, by rw [enumD_len, ← rx.length]; exact walk_enum, fun X' m H3 k t => ?_⟩⟩
  have n' : ¬ X' a := fun z => (m a z).elim n fun q => by rw [e] at q; cases q
  refine ⟨SqL.of (k a _ n' e), fun i x H4 y => ?_⟩
  obtain ⟨T, u, w, rfl, hT, rfl, hu, hw⟩ := y
  cases hu
  obtain ⟨d, h1, h2⟩ := rx.getV hw
  exact ⟨Same.upd hT, _, enumD_get h1, DX.newT t (.cons (.int _) (.cons ((h2.grow m).mono k) .nil)) hT⟩
def zipD (ds es : List PyData) : List PyData := List.zipWith (fun d e => .tuple [d, e]) ds es
theorem gi_zip {tb : TE} (h : G X te σ H (.list ds)) (h' : G X tb σ H (.list es)) : GI X (iZip K (tCons te (tCons tb tNil))) σ H (zipD ds es) := fun H1 s R r => h H1 s _ fun v H2 s2 rv => h' H2 (s.trans s2) _ fun w H3 s3 rw_ => by
  obtain ⟨a, xs, rfl, n, e, rx⟩ := (rv.mono (Kp.of s3)).lst_inv
  obtain ⟨b, ys, rfl, n2, e2, ry⟩ := rw_.lst_inv
  refine ⟨a, b, xs, ys, rfl, SqL.of e, SqL.of e2, r _ H3 (s2.trans s3) ⟨_, _, walk_zip (xs := xs) (ys := ys) (by simp [zipD, rx.length, ry.length]), fun X' m H4 k t => ?_⟩⟩
  have n' : ¬ X' a := fun z => (m a z).elim n fun q => by rw [e] at q; cases q
  have n2' : ¬ X' b := fun z => (m b z).elim n2 fun q => by rw [e2] at q; cases q
  refine ⟨⟨SqL.of (k a _ n' e), SqL.of (k b _ n2' e2)⟩, fun i x H5 y => ?_⟩
  obtain ⟨T, u, w, rfl, hT, rfl, hu, hw⟩ := y
  obtain ⟨d, h1, h2⟩ := rx.getV hu
  obtain ⟨d', h3, h4⟩ := ry.getV hw
  refine ⟨Same.upd hT, .tuple [d, d'], ?_, DX.newT t (.cons ((h2.grow m).mono k) (.cons ((h4.grow m).mono k) .nil)) hT⟩
  unfold zipD
  rw [List.getElem?_zipWith, h1, h3]

/-! ### comprehensions -/
/-- a target takes a datum: what the frame knows behind it -/
def Tgt (X : Addr → Prop) (g : TG) (σ : St) (Γ2 : List Sv) (vs : List Nat) (d : PyData) (H : Hp) : Prop :=
  ∀ X' H3, More X X' H → Kp X' H H3 → Trk X' H3 → ∀ v, DX X' H3 v d → ∀ Ψ : St → Hp → Prop, (∀ σ2, EnvOk X' H3 σ2 Γ2 → wipe σ2 vs = wipe σ vs → Ψ σ2 H3) → g v (wipe σ vs) H3 Ψ
theorem wipe_one {i : Nat} {x : Option V} : wipe ((wipe σ [i]).set i x) [i] = wipe σ [i] := by
  show ((σ.set i none).set i x).set i none = σ.set i none
  rw [List.set_set, List.set_set]
theorem tgt_name {i : Nat} {d : PyData} (E : EnvOk X H σ Γ) : Tgt X (gName i) σ ((Γ.set i .un).set i (.dat d)) [i] d H := fun X' H3 m k t v hd Ψ q =>
  q _ (((E.more m).mono k).wipe [i] |>.set hd) wipe_one
theorem wipe_two {i j : Nat} {x y : Option V} (h : i ≠ j) : wipe (((wipe σ [i, j]).set i x).set j y) [i, j] = wipe σ [i, j] := by
  show ((((((σ.set j none).set i none).set i x).set j y).set j none).set i none) = (σ.set j none).set i none
  apply List.ext_getElem?
  intro n
  simp only [List.getElem?_set, List.length_set]
  split <;> split <;> simp_all
theorem g_pair {i j : Nat} {K : PySem.W.Frag} {v : V} {d e : PyData} (hd : DX X H v (.tuple [d, e])) {Ψ : St → Hp → Prop} (q : ∀ u w, DX X H u d → DX X H w e → Ψ ((σ.set i (some u)).set j (some w)) H) : gTup K 2 (gCons (gName i) (gCons (gName j) gNil)) v σ H Ψ := by
  obtain ⟨a, xs, rfl, n, ea, rx⟩ := hd.tup_inv
  cases rx with
  | cons h1 r1 =>
    cases r1 with
    | cons h2 r2 =>
      cases r2
      exact ⟨a, _, rfl, SqT.of ea, rfl, _, _, rfl, _, _, rfl, rfl, q _ _ h1 h2⟩
theorem g_triple {i j l : Nat} {K : PySem.W.Frag} {v : V} {d e f : PyData} (hd : DX X H v (.tuple [d, e, f])) {Ψ : St → Hp → Prop} (q : ∀ u w z, DX X H u d → DX X H w e → DX X H z f → Ψ (((σ.set i (some u)).set j (some w)).set l (some z)) H) :
    gTup K 3 (gCons (gName i) (gCons (gName j) (gCons (gName l) gNil))) v σ H Ψ := by
  obtain ⟨a, xs, rfl, n, ea, rx⟩ := hd.tup_inv
  cases rx with
  | cons h1 r1 =>
    cases r1 with
    | cons h2 r2 =>
      cases r2 with
      | cons h3 r3 =>
        cases r3
        exact ⟨a, _, rfl, SqT.of ea, rfl, _, _, rfl, _, _, rfl, _, _, rfl, rfl, q _ _ _ h1 h2 h3⟩
theorem tgt_pair {i j : Nat} {d e : PyData} (E : EnvOk X H σ Γ) (hij : i ≠ j) : Tgt X (gTup K 2 (gCons (gName i) (gCons (gName j) gNil))) σ ((((Γ.set j .un).set i .un).set i (.dat d)).set j (.dat e)) [i, j] (.tuple [d, e]) H := fun X' H3 m k t v hd Ψ q =>
  g_pair hd fun u w h1 h2 => q _ ((((E.more m).mono k).wipe [i, j] |>.set h1).set h2) (wipe_two hij)
theorem g_lc {wi : TI} {g : TG} {tt : TT} {te : TE} {vs : List Nat} {Γ2 : PyData → List Sv} (f : PyData → Bool) (h : PyData → PyData) (t : Trk X H) (hi : GI X wi σ H ds) (hl : ds.length ≤ 1000000)
    (hg : ∀ H1, Same H H1 → ∀ d ∈ ds, Tgt X g σ (Γ2 d) vs d H1)
    (ht : ∀ X' H1 σ2 d, d ∈ ds → Trk X' H1 → EnvOk X' H1 σ2 (Γ2 d) → GT tt σ2 H1 (f d))
    (he : ∀ X' H1 σ2 d, d ∈ ds → f d = true → Trk X' H1 → EnvOk X' H1 σ2 (Γ2 d) → G X' te σ2 H1 (h d)) : G X (tLc wi g tt te vs) σ H (.list ((ds.filter f).map h)) := fun H1 s Q q =>
  hi H1 s _ fun J H2 s2 w => by
    intro D hD
    obtain ⟨Gd, Y, w1, w2⟩ := w
    have s02 : Same H H2 := s.trans s2
    have t2 : Trk X H2 := t.mono s02
    let X' : Addr → Prop := fun a => X a ∨ a = D
    have m2 : More X X' H2 := More.one hD
    have key : ∀ H3, Same H2 H3 ∧ Trk X' H3 → Gd H3 := fun H3 p => (w2 X' m2.2 H3 (Kp.of p.1) p.2).1
    refine lc_it w1 (fun i H3 => Same H2 H3 ∧ Trk X' H3 ∧ ∃ acc, H3 D = some (.lst acc) ∧ DXs X' H3 acc (((ds.take i).filter f).map h)) ?_ ?_ ?_ ?_
    · exact ⟨Same.upd hD, t2.one hD, [], upd_same, .nil⟩
    · rintro i H3 _ ⟨p1, p2, _⟩
      exact key H3 ⟨p1, p2⟩
    · rintro i x H3 H4 hi' ⟨p1, p2, acc, p3, p4⟩ y
      obtain ⟨s4, d, hd, dx⟩ := (w2 X' m2.2 H3 (Kp.of p1) p2).2 i x H4 y
      have hmem : d ∈ ds := List.mem_of_getElem? hd
      have k4 : Kp X' H2 H4 := Kp.of (p1.trans s4)
      have t4 : Trk X' H4 := p2.mono s4
      refine hg H2 s02 d hmem X' H4 m2 k4 t4 x dx _ fun σ2 E2 hw => ⟨hw, ?_⟩
      have etake : ds.take (i + 1) = ds.take i ++ [d] := by rw [List.take_succ, hd]; rfl
      refine ht X' H4 σ2 d hmem t4 E2 H4 (Same.refl _) _ fun H5 s5 => ?_
      have lacc : acc.length ≤ 1000000 := by
        rw [p4.length, List.length_map]
        exact Nat.le_trans (List.length_filter_le _ _) (Nat.le_trans (List.length_take_le _ _) (by omega))
      cases hf : f d with
      | true =>
        refine iteT ?_
        refine he X' H4 σ2 d hmem hf t4 E2 H5 s5 _ fun y H6 s6 ry => ?_
        have s36 : Same H3 H6 := (s4.trans s5).trans s6
        refine ⟨acc, s36 D _ p3, by rw [sizeLine_eq]; omega, ?_, ?_, acc ++ [y], upd_same, ?_⟩
        · exact Same.mut (p1.trans s36) hD
        · exact (p2.mono s36).put
        · rw [etake, List.filter_append, List.map_append]
          have ef : List.filter f [d] = [d] := by simp [hf]
          rw [ef]
          exact ((p4.mono (Kp.of s36)).snoc ry).mono (Kp.put (.inr rfl))
      | false =>
        refine iteF ?_
        have s35 : Same H3 H5 := s4.trans s5
        refine ⟨p1.trans s35, p2.mono s35, acc, s35 D _ p3, ?_⟩
        rw [etake, List.filter_append, List.map_append]
        have ef : List.filter f [d] = [] := by simp [hf]
        rw [ef, List.map_nil, List.append_nil]
        exact p4.mono (Kp.of s35)
    · rintro H3 ⟨p1, p2, acc, p3, p4⟩
      rw [List.take_length] at p4
      have nXD : ¬ X D := t2.new hD
      -- D itself is a datum again
      exact q (.ref D) H3 (s2.trans p1) (.lst nXD p3 (p4.less fun a => .inl))
/-- without a test -/
theorem g_lc1 {wi : TI} {g : TG} {te : TE} {vs : List Nat} {Γ2 : PyData → List Sv} (h : PyData → PyData) (t : Trk X H) (hi : GI X wi σ H ds) (hl : ds.length ≤ 1000000)
    (hg : ∀ H1, Same H H1 → ∀ d ∈ ds, Tgt X g σ (Γ2 d) vs d H1)
    (he : ∀ X' H1 σ2 d, d ∈ ds → Trk X' H1 → EnvOk X' H1 σ2 (Γ2 d) → G X' te σ2 H1 (h d)) : G X (tLc wi g tYes te vs) σ H (.list (ds.map h)) := by
  have e : ds.map h = (ds.filter fun _ => true).map h := by rw [List.filter_eq_self.mpr (fun _ _ => rfl)]
  rw [e]
  exact g_lc (fun _ => true) h t hi hl hg (fun X' H2 σ2 z _ _ _ H3 s3 Q3 q3 => q3 H3 (Same.refl _)) fun X' H1 σ2 d m _ t2 E2 => he X' H1 σ2 d m t2 E2
end
end KD

namespace KD
open PySem PySem.Spec PyProof.Rows L2
/-! ### defs of the text that are called by their names -/
structure Own (P : Program) (w : World) (K : PySem.W.Frag) (mg : Str → Option Value) (base : Heap) (CX : CXT) (k : Nat) (x : Str) (ps : List Str) (sp : Sp) : Prop where
  ex : ∃ (f : Addr) (fd : FuncData), mg x = some (.ref f) ∧ PySem.W.keepIn K (.ref f) = true ∧ Binds K fd ps [] ∧ FnOk P w K mg base CX k f fd ps sp
section
variable {X : Cx} {k j : Nat} {x : Str} {ps : List Str} {sp : Sp} {e : Expr} {es : List Expr} {p pos : Pos} {ta : TA}
theorem pe_own (O : Own X.prog X.w X.K X.mg X.base CX0 k x ps sp) (hr : Room j X.A) (hk : k ≤ j) (hg : Gl X x) (ha : PA X (e :: es) ta) (hdb : (x == ("__debug__" : Str)) = false := by decide)
    (he : starEach (e :: es) X.env = (false, eval e X.env) :: starEach es X.env := by rfl) (hpl : (backTo pos (starEach es X.env)).any (·.1) = false := by rfl) : PE X (.Call (.Name x p) (e :: es) [] pos) (tCall sp [] E0 ta) := by
  obtain ⟨f, fd, h1, h2, h3, h4⟩ := O.ex
  exact pe_call h4 (hr.mono hk) hg h1 h2 h3 .nil pass0 ha hdb he hpl
end
/-! ### promises over data -/
def sp1 (pre : PyData → Prop) (f : PyData → PyData) : Sp := fun vs H Q _ => ∃ (X : Addr → Prop) (v : V) (d : PyData), vs = [v] ∧ Trk X H ∧ DX X H v d ∧ pre d ∧ ∀ w H', Same H H' → DX X H' w (f d) → Q w H'
def sp2 (pre : PyData → PyData → Prop) (f : PyData → PyData → PyData) : Sp := fun vs H Q _ => ∃ (X : Addr → Prop) (v1 v2 : V) (d1 d2 : PyData), vs = [v1, v2] ∧ Trk X H ∧ DX X H v1 d1 ∧ DX X H v2 d2 ∧ pre d1 d2 ∧ ∀ w H', Same H H' → DX X H' w (f d1 d2) → Q w H'
def sp3 (pre : PyData → PyData → PyData → Prop) (f : PyData → PyData → PyData → PyData) : Sp := fun vs H Q _ => ∃ (X : Addr → Prop) (v1 v2 v3 : V) (d1 d2 d3 : PyData), vs = [v1, v2, v3] ∧ Trk X H ∧ DX X H v1 d1 ∧ DX X H v2 d2 ∧ DX X H v3 d3 ∧ pre d1 d2 d3 ∧ ∀ w H', Same H H' → DX X H' w (f d1 d2 d3) → Q w H'
section
variable {X : Addr → Prop} {σ : L2.St} {H : Hp} {ta tb tc : TE} {d d1 d2 d3 : PyData} {E : XK}
theorem g_call1 {pre : PyData → Prop} {f : PyData → PyData} (t : Trk X H) (h : G X ta σ H d) (hp : pre d) : G X (tCall (sp1 pre f) [] E (tCons ta tNil)) σ H (f d) :=
  g_call (ga_cons h ga_nil) fun vs H1 s rs Q q => by
    cases rs with
    | cons r1 r2 =>
      cases r2
      exact ⟨X, _, d, rfl, t.mono s, r1, hp, q⟩
theorem g_call2 {pre : PyData → PyData → Prop} {f : PyData → PyData → PyData} (t : Trk X H) (h1 : G X ta σ H d1) (h2 : G X tb σ H d2) (hp : pre d1 d2) : G X (tCall (sp2 pre f) [] E (tCons ta (tCons tb tNil))) σ H (f d1 d2) :=
  g_call (ga_cons h1 (ga_cons h2 ga_nil)) fun vs H1 s rs Q q => by
    cases rs with
    | cons r1 r2 =>
      cases r2 with
      | cons r2 r3 =>
        cases r3
        exact ⟨X, _, _, d1, d2, rfl, t.mono s, r1, r2, hp, q⟩
theorem g_call3 {pre : PyData → PyData → PyData → Prop} {f : PyData → PyData → PyData → PyData} (t : Trk X H) (h1 : G X ta σ H d1) (h2 : G X tb σ H d2) (h3 : G X tc σ H d3) (hp : pre d1 d2 d3) : G X (tCall (sp3 pre f) [] E (tCons ta (tCons tb (tCons tc tNil)))) σ H (f d1 d2 d3) :=
  g_call (ga_cons h1 (ga_cons h2 (ga_cons h3 ga_nil))) fun vs H1 s rs Q q => by
    cases rs with
    | cons r1 r2 =>
      cases r2 with
      | cons r2 r3 =>
        cases r3 with
        | cons r3 r4 =>
          cases r4
          exact ⟨X, _, _, _, d1, d2, d3, rfl, t.mono s, r1, r2, r3, hp, q⟩
end
/-! ### a def's body -/
section
variable {P : Program} {w : World} {K : PySem.W.Frag} {mg : Str → Option Value} {base : Heap} {x qual : Str} {st : Stmt} {f : Addr} {fd : FuncData} {N : List Str} {k : Nat} {a b c : Str}
def pad (N : List Str) (ss : List Sv) : List Sv := ss ++ List.replicate (N.length - ss.length) .un
theorem env1 {X : Addr → Prop} {H : Hp} {v : V} {d : PyData} (h : DX X H v d) (hN : 1 ≤ N.length) : EnvOk X H (L2.start N [v]) (pad N [.dat d]) :=
  envOk_start rfl (fun i s e u e2 => by
    match i, e, e2 with
    | 0, e, e2 => cases e; cases e2; exact ⟨_, rfl, h⟩) hN
theorem env2 {X : Addr → Prop} {H : Hp} {v1 v2 : V} {d1 d2 : PyData} (h1 : DX X H v1 d1) (h2 : DX X H v2 d2) (hN : 2 ≤ N.length) : EnvOk X H (L2.start N [v1, v2]) (pad N [.dat d1, .dat d2]) :=
  envOk_start rfl (fun i s e u e2 => by
    match i, e, e2 with
    | 0, e, e2 => cases e; cases e2; exact ⟨_, rfl, h1⟩
    | 1, e, e2 => cases e; cases e2; exact ⟨_, rfl, h2⟩) hN
theorem env3 {X : Addr → Prop} {H : Hp} {v1 v2 v3 : V} {d1 d2 d3 : PyData} (h1 : DX X H v1 d1) (h2 : DX X H v2 d2) (h3 : DX X H v3 d3) (hN : 3 ≤ N.length) : EnvOk X H (L2.start N [v1, v2, v3]) (pad N [.dat d1, .dat d2, .dat d3]) :=
  envOk_start rfl (fun i s e u e2 => by
    match i, e, e2 with
    | 0, e, e2 => cases e; cases e2; exact ⟨_, rfl, h1⟩
    | 1, e, e2 => cases e; cases e2; exact ⟨_, rfl, h2⟩
    | 2, e, e2 => cases e; cases e2; exact ⟨_, rfl, h3⟩) hN
theorem ok1 {pre : PyData → Prop} {g : PyData → PyData} (F : Fun K x qual st f fd) (S : FnScope N [a] (defScope st)) (hN : 1 ≤ N.length)
    (hbody : ∀ (cdv : Value) (A : Around) (outer : List Env) (s : Shared) (H : Hp) (E : XK) (X : Addr → Prop) (d : PyData) (Q : VK), Room k (A.deeper (envOfC qual (defScope st) s.heap.objs.size f cdv)) → Trk X H → pre d → (∀ w H', Same H H' → DX X H' w (g d) → Q w H') →
      ∃ t, PSs (cxOf CX0 P w K mg base N qual (defScope st) f cdv A outer s H E).nox (defBody st) t ∧ ∀ σ, EnvOk X H σ (pad N [.dat d]) → t { nx := fun _ H' => Q .non H', rt := Q } σ H) : FnOk P w K mg base CX0 (k + 1) f fd [a] (sp1 pre g) := by
  refine F.ok S (fun vs H Q E h => ?_) (fun cdv A outer s H vs Q E hr h => ?_)
  · obtain ⟨X, v, d, rfl, _⟩ := h
    rfl
  · obtain ⟨X, v, d, rfl, t, hd, hp, q⟩ := h
    obtain ⟨tt, h1, h2⟩ := hbody cdv A outer s H E X d Q hr t hp q
    exact ⟨tt, h1, h2 _ (env1 hd hN)⟩
theorem ok2 {pre : PyData → PyData → Prop} {g : PyData → PyData → PyData} (F : Fun K x qual st f fd) (S : FnScope N [a, b] (defScope st)) (hN : 2 ≤ N.length)
    (hbody : ∀ (cdv : Value) (A : Around) (outer : List Env) (s : Shared) (H : Hp) (E : XK) (X : Addr → Prop) (d1 d2 : PyData) (Q : VK), Room k (A.deeper (envOfC qual (defScope st) s.heap.objs.size f cdv)) → Trk X H → pre d1 d2 → (∀ w H', Same H H' → DX X H' w (g d1 d2) → Q w H') →
      ∃ t, PSs (cxOf CX0 P w K mg base N qual (defScope st) f cdv A outer s H E).nox (defBody st) t ∧ ∀ σ, EnvOk X H σ (pad N [.dat d1, .dat d2]) → t { nx := fun _ H' => Q .non H', rt := Q } σ H) : FnOk P w K mg base CX0 (k + 1) f fd [a, b] (sp2 pre g) := by
  refine F.ok S (fun vs H Q E h => ?_) (fun cdv A outer s H vs Q E hr h => ?_)
  · obtain ⟨X, v1, v2, d1, d2, rfl, _⟩ := h
    rfl
  · obtain ⟨X, v1, v2, d1, d2, rfl, t, r1, r2, hp, q⟩ := h
    obtain ⟨tt, h1, h2⟩ := hbody cdv A outer s H E X d1 d2 Q hr t hp q
    exact ⟨tt, h1, h2 _ (env2 r1 r2 hN)⟩
end
/-! ### statements -/
section
variable {X : Addr → Prop} {σ : L2.St} {H : Hp} {te : TE} {tt : TT} {tu tw tz : TS} {d : PyData} {D : Ends} {Γ : List Sv} {Q : VK}
theorem s_ret (h : G X te σ H d) (q : ∀ w H', Same H H' → DX X H' w d → D.rt w H') : tRet te D σ H := h H (Same.refl H) _ q
theorem s_if {b : Bool} (h : GT tt σ H b) (h1 : b = true → ∀ H1, Same H H1 → tu D σ H1) (h2 : b = false → ∀ H1, Same H H1 → tw D σ H1) : tIfS tt tu tw D σ H := h H (Same.refl H) _ fun H1 s => by
  cases b with
  | true => exact iteT (h1 rfl H1 s)
  | false => exact iteF (h2 rfl H1 s)
theorem q_if {b : Bool} (h : GT tt σ H b) (h1 : b = true → ∀ H1, Same H H1 → tu { D with nx := tz D } σ H1) (h2 : b = false → ∀ H1, Same H H1 → tz D σ H1) : tSeq (tIfS tt tu tNext) tz D σ H := s_if (D := { D with nx := tz D }) h h1 h2
theorem q_asg {g : TG} (h : G X te σ H d) (k : ∀ H1 v, Same H H1 → DX X H1 v d → g v σ H1 (fun σ2 H2 => tz D σ2 H2)) : tSeq (tAsg te g) tz D σ H := h H (Same.refl H) _ fun v H1 s r => k H1 v s r
theorem q_set {i : Nat} (En : EnvOk X H σ Γ) (h : G X te σ H d) (k : ∀ H1 v, Same H H1 → EnvOk X H1 (σ.set i (some v)) (Γ.set i (.dat d)) → tz D (σ.set i (some v)) H1) : tSeq (tAsg te (gName i)) tz D σ H := h H (Same.refl H) _ fun v H1 s r => k H1 v s ((En.same s).set r)
end
/-- a for over data: I by the base heap, the turn, the slots, the heap -/
theorem s_forD {X : Addr → Prop} {σ : L2.St} {H : Hp} {wi : TI} {g : TG} {tb : TS} {D : Ends} {ds : List PyData} (hi : GI X wi σ H ds) (I : Hp → Nat → L2.St → Hp → Prop) (h0 : ∀ Hb, Same H Hb → I Hb 0 σ Hb)
    (hk : ∀ Hb i σ' H', I Hb i σ' H' → Kp X Hb H' ∧ Trk X H')
    (hs : ∀ Hb i x d σ' H' H'', Same H Hb → ds[i]? = some d → I Hb i σ' H' → Same H' H'' → DX X H'' x d → g x σ' H'' fun σ2 H2 => tb { D with nx := I Hb (i + 1), ct := I Hb (i + 1), bk := D.nx } σ2 H2)
    (hd : ∀ Hb σ' H', Same H Hb → I Hb ds.length σ' H' → D.nx σ' H') : tFor wi g tb D σ H := hi H (Same.refl H) _ fun J H2 s w => by
  obtain ⟨Gd, Y, w1, w2⟩ := w
  have key : ∀ i σ' H', I H2 i σ' H' → _ := fun i σ' H' p => w2 X (fun _ => .inl) H' (hk H2 i σ' H' p).1 (hk H2 i σ' H' p).2
  refine for_it w1 (I H2) (h0 H2 s) (fun i σ' H' _ p => (key i σ' H' p).1) (fun i x σ' H' H'' _ p y => ?_) (fun σ' H' p => hd H2 σ' H' s p)
  obtain ⟨s4, d, hd1, dx⟩ := (key i σ' H' p).2 i x H'' y
  exact hs H2 i x d σ' H' H'' s hd1 p s4 dx
/-! ### the language's own names; tests of kinds -/
structure Bl (mg : Str → Option Value) : Prop where
  b_isinstance : mg "isinstance" = none
  b_len : mg "len" = none
  b_list : mg "list" = none
  b_tuple : mg "tuple" = none
  b_dict : mg "dict" = none
  b_int : mg "int" = none
  b_bool : mg "bool" = none
  b_str : mg "str" = none
  b_min : mg "min" = none
  b_all : mg "all" = none
  b_range : mg "range" = none
  b_enumerate : mg "enumerate" = none
  b_zip : mg "zip" = none
  b_repr : mg "repr" = none
section
variable {X : Cx}
abbrev rAddA : R2 := fun x y H Q => (rI0 fun i j => V.int (i + j)) x y H Q ∨ (fun x y H Q => rCat x y H Q ∨ (fun x y H Q => ∃ i j, x = V.str i ∧ y = V.str j ∧ i.length + j.length ≤ sizeLine ∧ Q (V.str (i ++ j)) H) x y H Q) x y H Q
abbrev rMulA : R2 := fun x y H Q => (rI CMul fun i j => V.int (i * j)) x y H Q ∨ rRep x y H Q
theorem op_addA : OpR X (binaryOp .Add) rAddA := op_add.or (op_cat.or op_add_str)
theorem op_mulA : OpR X (binaryOp .Mult) rMulA := op_mul.or op_rep
end
section
variable {X : Addr → Prop} {te ta tb : TE} {σ : L2.St} {H : Hp} {d : PyData} {K : PySem.W.Frag}
theorem isDs_seq (d : PyData) : isDs ["list", "tuple"] d = isSeq d := by
  unfold isDs
  rw [List.any_cons, List.any_cons, List.any_nil, isD_list, isD_tuple]
  cases d <;> rfl
theorem g_isSeq (h : G X te σ H d) : G X (tCB (rIsiT K) (tCons te (tCons (tTup (tCons (tC (.ty "list")) (tCons (tC (.ty "tuple")) tNil))) tNil))) σ H (.bool (isSeq d)) := by
  rw [← isDs_seq]
  exact g_isiT (ns := ["list", "tuple"]) h rfl (by decide) fun n hn => by
    simp at hn
    rcases hn with rfl | rfl
    · exact ksm_list d
    · exact ksm_tuple d
theorem g_isInt (h : G X te σ H d) : G X (tCB (rIsi K) (tCons te (tCons (tC (.ty "int")) tNil))) σ H (.bool (isa_int d)) := by
  rw [← isD_int]; exact g_isi h (ksm_int d)
theorem g_isBool (h : G X te σ H d) : G X (tCB (rIsi K) (tCons te (tCons (tC (.ty "bool")) tNil))) σ H (.bool (isa_bool d)) := by
  rw [← isD_bool]; exact g_isi h (ksm_bool d)
theorem g_isStr (h : G X te σ H d) : G X (tCB (rIsi K) (tCons te (tCons (tC (.ty "str")) tNil))) σ H (.bool (isa_str d)) := by
  rw [← isD_str]; exact g_isi h (ksm_str d)
theorem g_isList (h : G X te σ H d) : G X (tCB (rIsi K) (tCons te (tCons (tC (.ty "list")) tNil))) σ H (.bool (isa_list d)) := by
  rw [← isD_list]; exact g_isi h (ksm_list d)
theorem g_isTuple (h : G X te σ H d) : G X (tCB (rIsi K) (tCons te (tCons (tC (.ty "tuple")) tNil))) σ H (.bool (isa_tuple d)) := by
  rw [← isD_tuple]; exact g_isi h (ksm_tuple d)
theorem g_isDict (h : G X te σ H d) : G X (tCB (rIsi K) (tCons te (tCons (tC (.ty "dict")) tNil))) σ H (.bool (isa_dict d)) := by
  rw [← isD_dict]; exact g_isi h (ksm_dict d)
theorem g_len (t : Trk X H) (h : G X te σ H d) (hl : hasLen d = true) : G X (tCB (fun xs H Q => ∃ x n, xs = [x] ∧ LenV K x H n ∧ Q (V.int n) H) (tCons te tNil)) σ H (.int (lenD d : Int)) := g_cb t (ga_cons h ga_nil) (rf_len hl)
theorem g_listOf (t : Trk X H) (h : G X te σ H d) (hl : isSeq d = true) : G X (tCB (fun xs H Q => ∃ p ys, xs = [V.ref p] ∧ (SqL K H p ys ∨ SqT K H p ys) ∧ ∀ l, H l = none → Q (V.ref l) (upd H l (.lst ys))) (tCons te tNil)) σ H (.list (itemsD d)) := g_cb t (ga_cons h ga_nil) (rf_list hl)
theorem g_addI (t : Trk X H) {i j : Int} (ha : G X ta σ H (.int i)) (hb : G X tb σ H (.int j)) : G X (tOp rAddA ta tb) σ H (.int (i + j)) := g_op t ha hb (RD.or1 (rd_I0 (g := fun i j => i + j)))
theorem g_cat (t : Trk X H) {xs ys : List PyData} (ha : G X ta σ H (.list xs)) (hb : G X tb σ H (.list ys)) (hl : xs.length + ys.length ≤ 1000000) : G X (tOp rAddA ta tb) σ H (.list (xs ++ ys)) := g_op t ha hb (RD.or2 (RD.or1 (rd_cat hl)))
theorem g_sub (t : Trk X H) {i j : Int} (ha : G X ta σ H (.int i)) (hb : G X tb σ H (.int j)) : G X (tOp (rI0 fun i j => V.int (i - j)) ta tb) σ H (.int (i - j)) := g_op t ha hb (rd_I0 (g := fun i j => i - j))
theorem g_cmpI (t : Trk X H) {g : Int → Int → Bool} {i j : Int} (ha : G X ta σ H (.int i)) (hb : G X tb σ H (.int j)) : G X (tOp (rI0 fun i j => V.bl (g i j)) ta tb) σ H (.bool (g i j)) := g_op t ha hb rb_I0.rd
theorem gt_cmpI (t : Trk X H) {g : Int → Int → Bool} {i j : Int} (ha : G X ta σ H (.int i)) (hb : G X tb σ H (.int j)) : GT (tTest (tOp (rI0 fun i j => V.bl (g i j)) ta tb)) σ H (g i j) := gt_op t ha hb rb_I0
theorem g_ixL (t : Trk X H) {ds : List PyData} {i : Int} {z : PyData} (ha : G X ta σ H (.list ds)) (hb : G X tb σ H (.int i)) (h : atI ds i = some z) : G X (tOp (rIx K) ta tb) σ H z := g_op t ha hb (rd_ixL h)
theorem g_ixT (t : Trk X H) {ds : List PyData} {i : Int} {z : PyData} (ha : G X ta σ H (.tuple ds)) (hb : G X tb σ H (.int i)) (h : atI ds i = some z) : G X (tOp (rIx K) ta tb) σ H z := g_op t ha hb (rd_ixT h)
/-- an item of a list or tuple -/
theorem g_ix (t : Trk X H) {i : Int} {z : PyData} (ha : G X ta σ H d) (hs : isSeq d = true) (hb : G X tb σ H (.int i)) (h : atI (itemsD d) i = some z) : G X (tOp (rIx K) ta tb) σ H z := by
  cases d with
  | list ds => exact g_ixL t ha hb h
  | tuple ds => exact g_ixT t ha hb h
  | _ => cases hs
theorem g_eqD (t : Trk X H) {x y : PyData} (ha : G X ta σ H x) (hb : G X tb σ H y) (hd : noDict x = true) (he : noDict y = true) (hs : SeqAt.shaped x = true) (ht : SeqAt.shaped y = true) : G X (tOp (rEqD K) ta tb) σ H (.bool (PyData.eqv x y)) := g_op t ha hb (rb_eqD hd he hs ht).rd
theorem gt_eqD (t : Trk X H) {x y : PyData} (ha : G X ta σ H x) (hb : G X tb σ H y) (hd : noDict x = true) (he : noDict y = true) (hs : SeqAt.shaped x = true) (ht : SeqAt.shaped y = true) : GT (tTest (tOp (rEqD K) ta tb)) σ H (PyData.eqv x y) := gt_op t ha hb (rb_eqD hd he hs ht)
theorem gt_neD (t : Trk X H) {x y : PyData} (ha : G X ta σ H x) (hb : G X tb σ H y) (hd : noDict x = true) (he : noDict y = true) (hs : SeqAt.shaped x = true) (ht : SeqAt.shaped y = true) : GT (tTest (tOp (rNeD K) ta tb)) σ H (!PyData.eqv x y) := gt_op t ha hb (rb_neD hd he hs ht)
end
/-! ### a list or a tuple walked -/
def iSeq (K : PySem.W.Frag) (tl : TE) : TI := fun σ H R => tl σ H fun x H1 => ∃ c, x = V.ref c ∧ (((∃ zs, SqL K H1 c zs) ∧ R (Itl K c) H1) ∨ ((∃ zs, SqT K H1 c zs) ∧ R (Itt K c) H1))
theorem pi_seq {Y : Cx} {tg l : Expr} {tl : TE} (hl : PE Y l tl) : PI Y tg l (iSeq Y.K tl) := by
  constructor
  intro pn st sl hh RR inv rd
  refine thn (hl.run pn st sl hh _ inv rd) ?_
  rintro val st1 ⟨x, hh1, inv1, rel, c, rfl, alt⟩
  cases rel
  have fresh := inv1.hok.fresh (Nat.le_refl st1.heap.objs.size)
  have fpk : ∀ b ∈ [st1.heap.objs.size], _ := fun b hb => by
    have eb := List.mem_singleton.mp hb
    exact eb ▸ inv1.fpOk (Nat.le_refl _) fresh
  rcases alt with ⟨⟨zs, sq⟩, rest⟩ | ⟨⟨zs, sq⟩, rest⟩
  · obtain ⟨us, _, pl, _⟩ := inv1.list sq
    exact wpAny_pyIter_list pl.isList
      ⟨_, _, _, _, _, rfl, inv1.kept (t' := st1.toks) (fun _ _ z => Heap.get?_push_of_some _ z), turn_list c _,
        ⟨_, Heap.get?_push_size _ rfl, rfl, rfl⟩, fpk, rest⟩
  · obtain ⟨us, _, pl, _⟩ := inv1.tuple sq
    exact wpAny_pyIter_tuple (items := us.toArray) pl
      ⟨_, _, _, _, _, rfl, inv1.kept (t' := st1.toks) (fun _ _ z => Heap.get?_push_of_some _ z), turn_tuple c _,
        ⟨_, Heap.get?_push_size _ rfl, rfl, rfl⟩, fpk, rest⟩
theorem gi_seq {X : Addr → Prop} {σ : L2.St} {H : Hp} {te : TE} {K : PySem.W.Frag} {d : PyData} (h : G X te σ H d) (hs : isSeq d = true) : GI X (iSeq K te) σ H (itemsD d) := by
  cases d with
  | list ds =>
      intro H1 s R r
      refine h H1 s _ fun v H2 s2 rv => ?_
      obtain ⟨a, xs, rfl, n, e, rx⟩ := rv.lst_inv
      obtain ⟨a', e', _, rr⟩ := gi_list (K := K) (te := fun _ H Q => Q (.ref a) H) (σ := σ) (H := H2) (X := X) (ds := ds) (fun H5 s5 Q5 q5 => q5 _ H5 (Same.refl _) (rv.mono (Kp.of s5))) H2 (Same.refl _) R (fun J H3 s3 => r J H3 (s2.trans s3))
      cases e'
      exact ⟨a, rfl, .inl ⟨⟨xs, SqL.of e⟩, rr⟩⟩
  | tuple ds =>
      intro H1 s R r
      refine h H1 s _ fun v H2 s2 rv => ?_
      obtain ⟨a, xs, rfl, n, e, rx⟩ := rv.tup_inv
      obtain ⟨a', e', _, rr⟩ := gi_tup (K := K) (te := fun _ H Q => Q (.ref a) H) (σ := σ) (H := H2) (X := X) (ds := ds) (fun H5 s5 Q5 q5 => q5 _ H5 (Same.refl _) (rv.mono (Kp.of s5))) H2 (Same.refl _) R (fun J H3 s3 => r J H3 (s2.trans s3))
      cases e'
      exact ⟨a, rfl, .inr ⟨⟨xs, SqT.of e⟩, rr⟩⟩
  | _ => cases hs
/-! ### data that may be compared: words, ints, lists of words -/
theorem shaped_int (i : Int) : SeqAt.shaped (.int i) = true := by simp [SeqAt.shaped, PyData.canLay0, PyData.depth]
theorem shaped_str {s : Str} (h : PyData.strOk s = true) : SeqAt.shaped (.str s) = true := by simp [SeqAt.shaped, PyData.canLay0, PyData.depth, h]
theorem canLay_strs : ∀ {ws : List Str}, (∀ w ∈ ws, PyData.strOk w = true) → PyData.canLayAll0 (ws.map PyData.str) = true
  | [], _ => by simp [PyData.canLayAll0]
  | w :: ws, h => by
    have h1 := h w List.mem_cons_self
    have h2 := canLay_strs (ws := ws) fun v hv => h v (List.mem_cons_of_mem _ hv)
    simp [PyData.canLayAll0, PyData.canLay0, h1, h2]
theorem depth_strs : ∀ ws : List Str, PyData.depthAll (ws.map PyData.str) ≤ 1
  | [] => by simp [PyData.depthAll]
  | w :: ws => by
    have := depth_strs ws
    simp only [List.map_cons, PyData.depthAll, PyData.depth]
    omega
theorem shaped_strs {ws : List Str} (h : ∀ w ∈ ws, PyData.strOk w = true) : SeqAt.shaped (.list (ws.map PyData.str)) = true := by
  have := depth_strs ws
  have h2 : PyData.depth (.list (ws.map PyData.str)) ≤ 64 := by
    simp only [PyData.depth]
    omega
  show ((PyData.list (ws.map PyData.str)).canLay0 && decide ((PyData.list (ws.map PyData.str)).depth ≤ 64)) = true
  rw [Bool.and_eq_true]
  exact ⟨by simp only [PyData.canLay0]; exact canLay_strs h, decide_eq_true h2⟩
theorem noDict_strs : ∀ ws : List Str, noDicts (ws.map PyData.str) = true
  | [] => by simp [noDicts]
  | w :: ws => by simp [noDicts, noDict, noDict_strs ws]
theorem eqv_strs : ∀ ws zs : List Str, PyData.eqvAll (ws.map PyData.str) (zs.map PyData.str) = decide (ws = zs)
  | [], [] => by simp [PyData.eqvAll]
  | [], z :: zs => by simp [PyData.eqvAll]
  | w :: ws, [] => by simp [PyData.eqvAll]
  | w :: ws, z :: zs => by
    simp only [List.map_cons, PyData.eqvAll, PyData.eqv, eqv_strs ws zs]
    by_cases h : w = z
    · subst h
      simp
    · have : (w == z) = false := by simpa using h
      rw [this]
      simp [h]
/-! ### what is new -/
def Nw (H : Hp) (v : V) : Prop := ∀ a, v = .ref a → H a = none
theorem Nw.back {H H1 : Hp} {v : V} (s : Same H H1) (n : Nw H1 v) : Nw H v := fun a e => s.free (n a e)
theorem Nw.of {H : Hp} {p : Addr} (h : H p = none) : Nw H (.ref p) := fun a e => by cases e; exact h
def GN (X : Addr → Prop) (te : TE) (σ : L2.St) (H : Hp) (d : PyData) : Prop := ∀ H1, Same H H1 → ∀ Q : VK, (∀ v H2, Same H1 H2 → DX X H2 v d → Nw H1 v → Q v H2) → te σ H1 Q
def sp2N (pre : PyData → PyData → Prop) (f : PyData → PyData → PyData) : Sp := fun vs H Q _ => ∃ (X : Addr → Prop) (v1 v2 : V) (d1 d2 : PyData), vs = [v1, v2] ∧ Trk X H ∧ DX X H v1 d1 ∧ DX X H v2 d2 ∧ pre d1 d2 ∧ ∀ w H', Same H H' → DX X H' w (f d1 d2) → Nw H w → Q w H'
section
variable {X : Addr → Prop} {σ : L2.St} {H : Hp} {te ta tb tc : TE} {d d1 d2 d3 : PyData} {E : XK} {K : PySem.W.Frag} {D : Ends}
theorem GN.g (h : GN X te σ H d) : G X te σ H d := fun H1 s Q q => h H1 s Q fun v H2 s2 dv _ => q v H2 s2 dv
theorem GN.is {e : PyData} (h : GN X te σ H d) (e' : d = e) : GN X te σ H e := e' ▸ h
theorem gn_lst {ta : TA} {ds : List PyData} (t : Trk X H) (h : GA X ta σ H ds) (hl : ds.length ≤ 1000000) : GN X (tLst ta) σ H (.list ds) := fun H1 s Q q =>
  h H1 s _ fun vs H2 s2 rs => ⟨by rw [rs.length, sizeLine_eq]; omega, fun p hp => q _ _ (s2.trans (Same.upd hp)) (DX.newL ((t.mono s).mono s2) rs hp) (Nw.back s2 (Nw.of hp))⟩
theorem gn_tup {ta : TA} {ds : List PyData} (t : Trk X H) (h : GA X ta σ H ds) (hl : ds.length ≤ 1000000) : GN X (tTup ta) σ H (.tuple ds) := fun H1 s Q q =>
  h H1 s _ fun vs H2 s2 rs => ⟨by rw [rs.length, sizeLine_eq]; omega, fun p hp => q _ _ (s2.trans (Same.upd hp)) (DX.newT ((t.mono s).mono s2) rs hp) (Nw.back s2 (Nw.of hp))⟩
theorem gn_listOf (t : Trk X H) (h : G X te σ H d) (hl : isSeq d = true) : GN X (tCB (fun xs H Q => ∃ p ys, xs = [V.ref p] ∧ (SqL K H p ys ∨ SqT K H p ys) ∧ ∀ l, H l = none → Q (V.ref l) (upd H l (.lst ys))) (tCons te tNil)) σ H (.list (itemsD d)) := fun H1 s Q q =>
  h H1 s _ fun v H2 s2 r => by
    cases r with
    | lst n e r => exact ⟨_, _, rfl, .inl (SqL.of e), fun l hl => q _ _ (s2.trans (Same.upd hl)) (DX.newL ((t.mono s).mono s2) r hl) (Nw.back s2 (Nw.of hl))⟩
    | tup n e r => exact ⟨_, _, rfl, .inr (SqT.of e), fun l hl => q _ _ (s2.trans (Same.upd hl)) (DX.newL ((t.mono s).mono s2) r hl) (Nw.back s2 (Nw.of hl))⟩
    | _ => exact absurd hl (by simp [isSeq])
theorem gn_cat (t : Trk X H) {xs ys : List PyData} (ha : G X ta σ H (.list xs)) (hb : G X tb σ H (.list ys)) (hl : xs.length + ys.length ≤ 1000000) : GN X (tOp rAddA ta tb) σ H (.list (xs ++ ys)) := fun H1 s Q q =>
  ha H1 s _ fun u H2 s2 ru => hb H2 (s.trans s2) _ fun v H3 s3 rv => by
    obtain ⟨a, us, rfl, _, ea, rs⟩ := (ru.mono (Kp.of s3)).lst_inv
    obtain ⟨b, ws, rfl, _, eb, rt⟩ := rv.lst_inv
    exact .inr (.inl ⟨a, b, us, ws, rfl, rfl, ea, eb, by rw [rs.length, rt.length, sizeLine_eq]; omega, fun p hp => q _ _ ((s2.trans s3).trans (Same.upd hp)) (DX.newL (((t.mono s).mono s2).mono s3) (rs.append rt) hp) (Nw.back (s2.trans s3) (Nw.of hp))⟩)
theorem gn_call2 {pre : PyData → PyData → Prop} {f : PyData → PyData → PyData} (t : Trk X H) (h1 : G X ta σ H d1) (h2 : G X tb σ H d2) (hp : pre d1 d2) : GN X (tCall (sp2N pre f) [] E (tCons ta (tCons tb tNil))) σ H (f d1 d2) := fun H1 s Q q =>
  h1 H1 s _ fun v H2 s2 r => h2 H2 (s.trans s2) _ fun v2 H3 s3 r2 => ⟨X, v, v2, d1, d2, rfl, ((t.mono s).mono s2).mono s3, r.mono (Kp.of s3), r2, hp, fun w H' s4 dw nw => q w H' ((s2.trans s3).trans s4) dw (Nw.back (s2.trans s3) nw)⟩
theorem s_retN (h : GN X te σ H d) (q : ∀ w H', Same H H' → DX X H' w d → Nw H w → D.rt w H') : tRet te D σ H := h H (Same.refl H) _ q
end
section
variable {P : Program} {w : World} {K : PySem.W.Frag} {mg : Str → Option Value} {base : Heap} {x qual : Str} {st : Stmt} {f : Addr} {fd : FuncData} {N : List Str} {k : Nat} {a b c : Str}
theorem ok2N {pre : PyData → PyData → Prop} {g : PyData → PyData → PyData} (F : Fun K x qual st f fd) (S : FnScope N [a, b] (defScope st)) (hN : 2 ≤ N.length)
    (hbody : ∀ (cdv : Value) (A : Around) (outer : List Env) (s : Shared) (H : Hp) (E : XK) (X : Addr → Prop) (d1 d2 : PyData) (Q : VK), Room k (A.deeper (envOfC qual (defScope st) s.heap.objs.size f cdv)) → Trk X H → pre d1 d2 → (∀ w H', Same H H' → DX X H' w (g d1 d2) → Nw H w → Q w H') →
      ∃ t, PSs (cxOf CX0 P w K mg base N qual (defScope st) f cdv A outer s H E).nox (defBody st) t ∧ ∀ σ, EnvOk X H σ (pad N [.dat d1, .dat d2]) → t { nx := fun _ H' => Q .non H', rt := Q } σ H) : FnOk P w K mg base CX0 (k + 1) f fd [a, b] (sp2N pre g) := by
  refine F.ok S (fun vs H Q E h => ?_) (fun cdv A outer s H vs Q E hr h => ?_)
  · obtain ⟨X, v1, v2, d1, d2, rfl, _⟩ := h
    rfl
  · obtain ⟨X, v1, v2, d1, d2, rfl, t, r1, r2, hp, q⟩ := h
    obtain ⟨tt, h1, h2⟩ := hbody cdv A outer s H E X d1 d2 Q hr t hp q
    exact ⟨tt, h1, h2 _ (env2 r1 r2 hN)⟩
end
/-! ### a new list is no part of itself -/
mutual
theorem DX.fn {X X' : Addr → Prop} {H : Hp} : ∀ {v : V} {d d' : PyData}, DX X H v d → DX X' H v d' → d = d'
  | _, _, _, .non, k => by cases k; rfl
  | _, _, _, .bl b, k => by cases k; rfl
  | _, _, _, .int i, k => by cases k; rfl
  | _, _, _, .str x, k => by cases k; rfl
  | _, _, _, .lst n e r, k => by
    cases k with
    | lst n2 e2 r2 =>
      rw [e] at e2
      cases e2
      rw [DXs.fn r r2]
    | tup n2 e2 r2 => rw [e] at e2; cases e2
    | dic n2 e2 r2 => rw [e] at e2; cases e2
  | _, _, _, .tup n e r, k => by
    cases k with
    | tup n2 e2 r2 =>
      rw [e] at e2
      cases e2
      rw [DXs.fn r r2]
    | lst n2 e2 r2 => rw [e] at e2; cases e2
    | dic n2 e2 r2 => rw [e] at e2; cases e2
  | _, _, _, .dic n e r, k => by
    cases k with
    | dic n2 e2 r2 =>
      rw [e] at e2
      cases e2
      rw [DXk.fn r r2]
    | lst n2 e2 r2 => rw [e] at e2; cases e2
    | tup n2 e2 r2 => rw [e] at e2; cases e2
theorem DXs.fn {X X' : Addr → Prop} {H : Hp} : ∀ {v : List V} {d d' : List PyData}, DXs X H v d → DXs X' H v d' → d = d'
  | _, _, _, .nil, k => by cases k; rfl
  | _, _, _, .cons h r, k => by
    cases k with
    | cons h2 r2 => rw [DX.fn h h2, DXs.fn r r2]
theorem DXk.fn {X X' : Addr → Prop} {H : Hp} : ∀ {v : List (Key × V)} {d d' : List (PyData × PyData)}, DXk X H v d → DXk X' H v d' → d = d'
  | _, _, _, .nil, k => by cases k; rfl
  | _, _, _, .cons h r, k => by
    cases k with
    | cons h2 r2 => rw [DX.fn h h2, DXk.fn r r2]
end
mutual
theorem DX.apart {X : Addr → Prop} {H : Hp} {a : Addr} {D : PyData} (hD : DX X H (.ref a) D) : ∀ {v : V} {d : PyData}, DX X H v d → sizeOf d < sizeOf D → DX (fun b => X b ∨ b = a) H v d
  | _, _, .non, _ => .non
  | _, _, .bl b, _ => .bl b
  | _, _, .int i, _ => .int i
  | _, _, .str x, _ => .str x
  | .ref b, .list ds, .lst n e r, hs => by
    refine .lst (fun x => x.elim n fun q => ?_) e (DXs.apart hD r (by simp at hs; omega))
    subst q
    have e2 := hD.fn (X' := X) (DX.lst n e r)
    rw [e2] at hs
    omega
  | .ref b, .tuple ds, .tup n e r, hs => by
    refine .tup (fun x => x.elim n fun q => ?_) e (DXs.apart hD r (by simp at hs; omega))
    subst q
    have e2 := hD.fn (X' := X) (DX.tup n e r)
    rw [e2] at hs
    omega
  | .ref b, .dict ds, .dic n e r, hs => by
    refine .dic (fun x => x.elim n fun q => ?_) e (DXk.apart hD r (by simp at hs; omega))
    subst q
    have e2 := hD.fn (X' := X) (DX.dic n e r)
    rw [e2] at hs
    omega
theorem DXs.apart {X : Addr → Prop} {H : Hp} {a : Addr} {D : PyData} (hD : DX X H (.ref a) D) : ∀ {v : List V} {d : List PyData}, DXs X H v d → sizeOf d < sizeOf D → DXs (fun b => X b ∨ b = a) H v d
  | _, _, .nil, _ => .nil
  | _, _, .cons h r, hs => .cons (DX.apart hD h (by simp at hs; omega)) (DXs.apart hD r (by simp at hs; omega))
theorem DXk.apart {X : Addr → Prop} {H : Hp} {a : Addr} {D : PyData} (hD : DX X H (.ref a) D) : ∀ {v : List (Key × V)} {d : List (PyData × PyData)}, DXk X H v d → sizeOf d < sizeOf D → DXk (fun b => X b ∨ b = a) H v d
  | _, _, .nil, _ => .nil
  | _, _, .cons h r, hs => .cons (DX.apart hD h (by simp at hs; omega)) (DXk.apart hD r (by simp at hs; omega))
end
/-- the items of a list, apart from the list itself -/
theorem DX.inner {X : Addr → Prop} {H : Hp} {v : V} {ds : List PyData} (h : DX X H v (.list ds)) : ∃ a xs, v = .ref a ∧ ¬ X a ∧ H a = some (.lst xs) ∧ DXs (fun b => X b ∨ b = a) H xs ds := by
  cases h with
  | lst n e r => exact ⟨_, _, rfl, n, e, DXs.apart (DX.lst n e r) r (by simp)⟩
end KD

namespace K80
open PySem PySem.Spec PyProof.Rows L2 KD
def topS (i : Nat) : Stmt := PySem.Challenge.pw_patchlots_k80_whole_papers_against.main.body.getD i (.Pass ⟨0, 0, 0, 0⟩)
variable {P : Program} {w : World} {K : PySem.W.Frag} {mg : Str → Option Value} {base : Heap}

abbrev s_is_list : Stmt := topS 8
abbrev n_is_list : List Str := ["thing"]
theorem sc_is_list : FnScope n_is_list ["thing"] (defScope s_is_list) := ⟨rfl, rfl, rfl, by decide +kernel, rfl, by decide +kernel, by decide +kernel⟩
theorem ok_is_list {f : Addr} {fd : FuncData} (F : Fun K "is_list" "is_list" s_is_list f fd) (T : Bl mg) : FnOk P w K mg base CX0 1 f fd ["thing"] (sp1 (fun _ => True) fun d => .bool (isSeq d)) := by
  refine ok1 F sc_is_list (by decide) fun cdv A outer s H E X d Q hr t _ q => ⟨_, (pss_one (ps_ret (pe_callB call_isiT (by rfl) T.b_isinstance boot_isinstance (pa_cons (pv 0) (pa_cons (pe_tup (pa_cons (pe_bltn (v := .ty "list") (by rfl) T.b_list boot_list rfl) (pa_cons (pe_bltn (v := .ty "tuple") (by rfl) T.b_tuple boot_tuple rfl) pa_nil))) pa_nil))))), fun σ En => ?_⟩
  exact s_ret (g_isSeq (g_var En rfl)) q

def isIntD (d : PyData) : Bool := isa_int d && !isa_bool d
def isNumD : PyData → Bool
  | .int i => decide (0 ≤ i)
  | _ => false
theorem isIntD_int {d : PyData} (h : isIntD d = true) : ∃ i, d = .int i := by
  cases d <;> simp [isIntD, isa_int, isa_bool] at h ⊢
theorem isNumD_eq (d : PyData) : (∃ i, d = .int i ∧ isIntD d = true ∧ isNumD d = decide (0 ≤ i)) ∨ (isIntD d = false ∧ isNumD d = false) := by
  cases d <;> simp [isIntD, isa_int, isa_bool, isNumD]
abbrev s_is_integer : Stmt := topS 9
abbrev n_is_integer : List Str := ["thing"]
theorem sc_is_integer : FnScope n_is_integer ["thing"] (defScope s_is_integer) := ⟨rfl, rfl, rfl, by decide +kernel, rfl, by decide +kernel, by decide +kernel⟩
theorem ok_is_integer {f : Addr} {fd : FuncData} (F : Fun K "is_integer" "is_integer" s_is_integer f fd) (T : Bl mg) : FnOk P w K mg base CX0 1 f fd ["thing"] (sp1 (fun _ => True) fun d => .bool (isIntD d)) := by
  refine ok1 F sc_is_integer (by decide) fun cdv A outer s H E X d Q hr t _ q => ⟨_, (pss_one (ps_ret (pe_and (pe_callB call_isi (by rfl) T.b_isinstance boot_isinstance (pa_cons (pv 0) (pa_cons (pe_bltn (v := .ty "int") (by rfl) T.b_int boot_int rfl) pa_nil))) (pe_one (pe_not (pe_callB call_isi (by rfl) T.b_isinstance boot_isinstance (pa_cons (pv 0) (pa_cons (pe_bltn (v := .ty "bool") (by rfl) T.b_bool boot_bool rfl) pa_nil)))))))), fun σ En => ?_⟩
  exact s_ret (g_and (g_isInt (g_var En rfl)) fun _ => g_not (g_isBool (g_var En rfl))) q

abbrev s_is_number : Stmt := topS 10
abbrev n_is_number : List Str := ["thing"]
theorem sc_is_number : FnScope n_is_number ["thing"] (defScope s_is_number) := ⟨rfl, rfl, rfl, by decide +kernel, rfl, by decide +kernel, by decide +kernel⟩
theorem ok_is_number {f : Addr} {fd : FuncData} (F : Fun K "is_number" "is_number" s_is_number f fd) (T : Bl mg) (O_is_integer : Own P w K mg base CX0 1 "is_integer" ["thing"] (sp1 (fun _ => True) fun d => .bool (isIntD d))) : FnOk P w K mg base CX0 2 f fd ["thing"] (sp1 (fun _ => True) fun d => .bool (isNumD d)) := by
  refine ok1 F sc_is_number (by decide) fun cdv A outer s H E X d Q hr t _ q => ⟨_, (pss_one (ps_ret (pe_and (pe_own O_is_integer hr (by decide) (by rfl) (pa_cons (pv 0) pa_nil)) (pe_one (pe_cmpR op_ge (pv 0) pe_int (nomark _)))))), fun σ En => ?_⟩
  refine s_ret ?_ q
  rcases isNumD_eq d with ⟨i, rfl, h1, h2⟩ | ⟨h1, h2⟩
  · rw [h2]
    refine g_is (g_and (a := true) (b := decide (0 ≤ i)) (g_is (g_call1 t (g_var En rfl) trivial) (by rw [h1])) fun _ => ?_) rfl
    exact g_op t (g_var En rfl) g_int rb_I0.rd
  · rw [h2]
    exact g_and (a := false) (b := false) (g_is (g_call1 t (g_var En rfl) trivial) (by rw [h1])) fun z => absurd z (by decide)

-- HINT is_words in op_notIn_sign
def hasFeed (s : Str) : Bool := decide (10 ∈ s.cps.toList)
def isWordsD : PyData → Bool
  | .str s => decide (s.length ≤ 200) && !hasFeed s
  | _ => false
theorem rb_notInSign {X : Addr → Prop} {c : Nat} {s : Str} : RB X (fun x y H Q => ∃ (c : Nat) (z : Str), x = V.str ⟨#[c]⟩ ∧ y = V.str z ∧ Q (V.bl (!decide (c ∈ z.cps.toList))) H) (.str ⟨#[c]⟩) (.str s) (!decide (c ∈ s.cps.toList)) := fun H u v _ ru rv Q q => ⟨c, s, ru.str_inv, rv.str_inv, q⟩
def wordsPre : PyData → Prop
  | .str s => s.length ≤ 1000000
  | _ => True
abbrev s_first_false : Stmt := topS 14
abbrev n_first_false : List Str := ["tests", "index", "test"]
theorem sc_first_false : FnScope n_first_false ["tests"] (defScope s_first_false) := ⟨rfl, rfl, rfl, by decide +kernel, rfl, by decide +kernel, by decide +kernel⟩
def ffD : Nat → List PyData → PyData
  | _, [] => .none
  | i, .bool false :: _ => .int (i : Nat)
  | i, _ :: r => ffD (i + 1) r
def Bools (d : PyData) : Prop := ∃ bs : List Bool, d = .list (bs.map .bool) ∧ bs.length ≤ 100000
theorem ff_true (i : Nat) (r : List PyData) : ffD i (.bool true :: r) = ffD (i + 1) r := by simp [ffD]
theorem ok_first_false {f : Addr} {fd : FuncData} (F : Fun K "first_false" "first_false" s_first_false f fd) (T : Bl mg) : FnOk P w K mg base CX0 1 f fd ["tests"] (sp1 Bools fun d => ffD 0 (itemsD d)) := by
  refine ok1 F sc_first_false (by decide) fun cdv A outer s H E X d Q hr t hp q => ⟨_, (pss_cons (ps_for PassesOwn.never rfl (pi_enum (by rfl) T.b_enumerate (pa_cons (pv 0) pa_nil)) (pg_tup (n := 2) rfl (pgs_cons (pg_name (i := 1) sc_first_false.nd rfl (by first | exact Or.inl rfl | exact Or.inr rfl)) (pgs_cons (pg_name (i := 2) sc_first_false.nd rfl (by first | exact Or.inl rfl | exact Or.inr rfl)) pgs_nil)))
    (pss_one (ps_if (pt_not (pt_val (pv 2)))
    (pss_one (ps_ret (pv 1))) pss_nil)))
    (pss_one (ps_ret pe_non))), fun σ En => ?_⟩
  obtain ⟨bs, rfl, hl⟩ := hp
  have q : ∀ w H', Same H H' → DX X H' w (ffD 0 (bs.map PyData.bool)) → Q w H' := q
  refine s_forD (gi_enum (g_var En rfl)) (fun Hb i σ' H' => Same Hb H' ∧ Trk X H' ∧ EnvOk X H' σ' [.dat (.list (bs.map .bool)), .un, .un] ∧ ffD 0 (bs.map PyData.bool) = ffD i ((bs.drop i).map PyData.bool)) (fun Hb s => ⟨Same.refl _, t.mono s, En.same s, rfl⟩) (fun Hb i σ' H' p => ⟨Kp.of p.1, p.2.1⟩) ?_ ?_
  · rintro Hb i x d σ' H' H'' sb hd ⟨p1, p2, p3, p4⟩ s2 dx
    have hi : i < bs.length := by
      have := (List.getElem?_eq_some_iff.mp hd).1
      rw [enumD_len, List.length_map] at this
      exact this
    have hb : (bs.map PyData.bool)[i]? = some (.bool bs[i]) := by rw [List.getElem?_map, List.getElem?_eq_getElem hi]; rfl
    rw [enumD_get hb] at hd
    cases hd
    have edrop : bs.drop i = bs[i] :: bs.drop (i + 1) := List.drop_eq_getElem_cons hi
    refine g_pair dx fun u w h1 h2 => ?_
    have E2 := ((p3.same s2).set (i := 1) h1).set (i := 2) h2
    refine s_if (gt_not (gt_B (g_var E2 rfl))) (fun hb H1 s3 => ?_) (fun hb H1 s3 => ?_)
    · have e : bs[i] = false := by simpa using hb
      refine s_ret (g_var (E2.same s3) rfl) fun w H2 s4 dw => q w H2 ((((sb.trans p1).trans s2).trans s3).trans s4) ?_
      rw [p4, edrop, e]
      exact dw
    · have e : bs[i] = true := by simpa using hb
      refine ⟨(p1.trans s2).trans s3, (p2.mono s2).mono s3, ?_, ?_⟩
      · have E3 := (E2.same s3)
        exact ⟨E3.len, fun j sv e => by
          match j, e with
          | 0, e => exact E3.get 0 _ e
          | 1, e => cases e; trivial
          | 2, e => cases e; trivial⟩
      · rw [p4, edrop, e]
        exact ff_true i _
  · rintro Hb σ' H' sb ⟨p1, p2, p3, p4⟩
    rw [enumD_len, List.length_map, List.drop_length] at p4
    refine s_ret (σ := σ') (X := X) (D := { nx := fun _ H' => Q .non H', rt := Q }) g_non fun w H2 s4 dw => q w H2 ((sb.trans p1).trans s4) ?_
    rw [p4]
    exact dw

def wordsAll (d : PyData) : Prop := isSeq d = true → (itemsD d).length ≤ 100000 ∧ ∀ z ∈ itemsD d, wordsPre z
def wrongD (d : PyData) : PyData := if isSeq d then ffD 0 ((itemsD d).map fun z => .bool (isWordsD z)) else .int 0
-- HINT wrong_words it pi_seq
def it (d : PyData) (i : Nat) : PyData := (itemsD d).getD i .none
def ch3 (d : PyData) : Bool := isSeq d && (decide ((itemsD d).length = 3) && isNumD (it d 0))
def isChangeD (d : PyData) : Bool := ch3 d && (isNone (wrongD (it d 1)) && isNone (wrongD (it d 2))) && decide (0 < lenD (it d 1) + lenD (it d 2))
def chPre (d : PyData) : Prop := isSeq d = true → (itemsD d).length ≤ 100000 ∧ ∀ z ∈ itemsD d, wordsAll z
theorem lenD_seq {d : PyData} (h : isSeq d = true) : lenD d = (itemsD d).length := by cases d <;> first | rfl | cases h
theorem hasLen_seq {d : PyData} (h : isSeq d = true) : hasLen d = true := by cases d <;> first | rfl | cases h
theorem wrong_seq {d : PyData} (h : isNone (wrongD d) = true) : isSeq d = true := by
  cases e : isSeq d with
  | true => rfl
  | false =>
    unfold wrongD at h
    rw [e] at h
    simp [isNone] at h
theorem it_at {d : PyData} {i : Nat} {k : Int} (hk : k = (i : Int)) (h : i < (itemsD d).length) : atI (itemsD d) k = some (it d i) := by
  subst hk
  refine atI_nat ?_
  unfold it
  rw [List.getElem?_eq_getElem h, List.getD_eq_getElem?_getD, List.getElem?_eq_getElem h]
  rfl
theorem it_mem {d : PyData} {i : Nat} (h : i < (itemsD d).length) : it d i ∈ itemsD d := by
  unfold it
  rw [List.getD_eq_getElem?_getD, List.getElem?_eq_getElem h]
  exact List.getElem_mem h
theorem eqv_int (i j : Int) : PyData.eqv (.int i) (.int j) = decide (i = j) := by
  simp only [PyData.eqv]
  by_cases h : i = j
  · subst h; simp
  · rw [decide_eq_false h]; simpa using h
theorem gt_neI {X : Addr → Prop} {ta tb : TE} {σ : L2.St} {H : Hp} {K : PySem.W.Frag} {i j : Int} (t : Trk X H) (ha : G X ta σ H (.int i)) (hb : G X tb σ H (.int j)) : GT (tTest (tOp (rNeD K) ta tb)) σ H (!decide (i = j)) := by
  rw [← eqv_int]
  exact gt_neD t ha hb rfl rfl (shaped_int i) (shaped_int j)
theorem gt_eqI {X : Addr → Prop} {ta tb : TE} {σ : L2.St} {H : Hp} {K : PySem.W.Frag} {i j : Int} (t : Trk X H) (ha : G X ta σ H (.int i)) (hb : G X tb σ H (.int j)) : GT (tTest (tOp (rEqD K) ta tb)) σ H (decide (i = j)) := by
  rw [← eqv_int]
  exact gt_eqD t ha hb rfl rfl (shaped_int i) (shaped_int j)
def wsD (ws : List Str) : PyData := .list (ws.map .str)
def chD (p : Int) (os ns : List Str) : PyData := .tuple [.int p, wsD os, wsD ns]
def WsOk (ws : List Str) : Prop := ws.length ≤ 1000 ∧ ∀ z ∈ ws, PyData.strOk z = true
theorem sIx_nn {n d : Nat} {p : Int} (h : 0 ≤ p) : HT.sIx n d (some p) = min p.toNat n := by
  show (if p < 0 then (p + (n : Int)).toNat else min p.toNat n) = min p.toNat n
  rw [if_neg (by omega)]
theorem cutD_map (ws : List Str) (lo hi : Option Int) : cutPD (ws.map PyData.str) lo hi = ((ws.drop (HT.sIx ws.length 0 lo)).take (HT.sIx ws.length ws.length hi - HT.sIx ws.length 0 lo)).map PyData.str := by
  unfold cutPD
  rw [List.length_map, List.map_take, List.map_drop]
theorem cut_lo (ws : List Str) {p q : Int} (hp : 0 ≤ p) (hq : p ≤ q) : cutPD (ws.map PyData.str) (some p) (some q) = ((ws.drop p.toNat).take (q.toNat - p.toNat)).map PyData.str := by
  rw [cutD_map, sIx_nn hp, sIx_nn (by omega)]
  congr 1
  by_cases h : p.toNat ≤ ws.length
  · rw [Nat.min_eq_left h]
    apply List.ext_getElem?
    intro n
    simp only [List.getElem?_take, List.getElem?_drop]
    by_cases hn : n < q.toNat - p.toNat
    · rw [if_pos hn]
      split
      · rfl
      · exact (List.getElem?_eq_none (by omega)).symm
    · rw [if_neg hn, if_neg (by omega)]
  · rw [List.drop_eq_nil_of_le (by omega), List.drop_eq_nil_of_le (by omega), List.take_nil, List.take_nil]
theorem cut_hi (ws : List Str) {q : Int} (hq : 0 ≤ q) : cutPD (ws.map PyData.str) none (some q) = (ws.take q.toNat).map PyData.str := by
  rw [cutD_map, sIx_nn hq, HT.sIx_none, List.drop_zero, Nat.sub_zero]
  congr 1
  by_cases h : q.toNat ≤ ws.length
  · rw [Nat.min_eq_left h]
  · rw [Nat.min_eq_right (by omega), List.take_of_length_le (Nat.le_refl _), List.take_of_length_le (by omega)]
theorem cut_from (ws : List Str) {p : Int} (hp : 0 ≤ p) : cutPD (ws.map PyData.str) (some p) none = (ws.drop p.toNat).map PyData.str := by
  rw [cutD_map, sIx_nn hp, HT.sIx_none]
  congr 1
  by_cases h : p.toNat ≤ ws.length
  · rw [Nat.min_eq_left h, List.take_of_length_le (by rw [List.length_drop]; omega)]
  · rw [Nat.min_eq_right (by omega), List.drop_eq_nil_of_le (Nat.le_refl _), List.drop_eq_nil_of_le (by omega), List.take_nil]
theorem sl_from {X : Addr → Prop} {te ta : TE} {σ : L2.St} {H : Hp} {ws : List Str} {p : Int} (t : Trk X H) (h : G X te σ H (wsD ws)) (ha : G X ta σ H (.int p)) (hp : 0 ≤ p) : G X (tSl (rSlL K) te (tPart ta) tNoPart) σ H (wsD (ws.drop p.toNat)) := by
  refine g_is (g_sl t h (go_some ha) go_none) ?_
  rw [cut_from _ hp]
  rfl
theorem sl_to {X : Addr → Prop} {te ta : TE} {σ : L2.St} {H : Hp} {ws : List Str} {p : Int} (t : Trk X H) (h : G X te σ H (wsD ws)) (ha : G X ta σ H (.int p)) (hp : 0 ≤ p) : G X (tSl (rSlL K) te tNoPart (tPart ta)) σ H (wsD (ws.take p.toNat)) := by
  refine g_is (g_sl t h go_none (go_some ha)) ?_
  rw [cut_hi _ hp]
  rfl
theorem sl_mid {X : Addr → Prop} {te ta tb : TE} {σ : L2.St} {H : Hp} {ws : List Str} {p q : Int} (t : Trk X H) (h : G X te σ H (wsD ws)) (ha : G X ta σ H (.int p)) (hb : G X tb σ H (.int q)) (hp : 0 ≤ p) (hq : p ≤ q) : G X (tSl (rSlL K) te (tPart ta) (tPart tb)) σ H (wsD ((ws.drop p.toNat).take (q.toNat - p.toNat))) := by
  refine g_is (g_sl t h (go_some ha) (go_some hb)) ?_
  rw [cut_lo _ hp hq]
  rfl
theorem len_ws {X : Addr → Prop} {te : TE} {σ : L2.St} {H : Hp} {ws : List Str} (t : Trk X H) (h : G X te σ H (wsD ws)) : G X (tCB (fun xs H Q => ∃ x n, xs = [x] ∧ LenV K x H n ∧ Q (V.int n) H) (tCons te tNil)) σ H (.int (ws.length : Int)) := by
  refine g_is (g_len t h rfl) ?_
  show PyData.int (((ws.map PyData.str).length : Nat) : Int) = _
  rw [List.length_map]
theorem cat_ws {X : Addr → Prop} {ta tb : TE} {σ : L2.St} {H : Hp} {ws zs : List Str} (t : Trk X H) (ha : G X ta σ H (wsD ws)) (hb : G X tb σ H (wsD zs)) (hl : ws.length + zs.length ≤ 1000000) : G X (tOp rAddA ta tb) σ H (wsD (ws ++ zs)) := by
  refine g_is (g_cat t ha hb (by rw [List.length_map, List.length_map]; exact hl)) ?_
  rw [← List.map_append]
  rfl
theorem catn_ws {X : Addr → Prop} {ta tb : TE} {σ : L2.St} {H : Hp} {ws zs : List Str} (t : Trk X H) (ha : G X ta σ H (wsD ws)) (hb : G X tb σ H (wsD zs)) (hl : ws.length + zs.length ≤ 1000000) : GN X (tOp rAddA ta tb) σ H (wsD (ws ++ zs)) := by
  refine GN.is (gn_cat t ha hb (by rw [List.length_map, List.length_map]; exact hl)) ?_
  rw [← List.map_append]
  rfl
theorem WsOk.take {ws : List Str} (h : WsOk ws) (n : Nat) : WsOk (ws.take n) := ⟨by rw [List.length_take]; have := h.1; omega, fun z hz => h.2 z (List.mem_of_mem_take hz)⟩
theorem WsOk.drop {ws : List Str} (h : WsOk ws) (n : Nat) : WsOk (ws.drop n) := ⟨by rw [List.length_drop]; have := h.1; omega, fun z hz => h.2 z (List.mem_of_mem_drop hz)⟩

def fitsB (ws : List Str) (p : Int) (os : List Str) : Bool := decide (p ≤ ws.length) && decide ((ws.drop p.toNat).take os.length = os)
/-- a text and a told change -/
def TC (a b : PyData) : Prop := ∃ ws p os ns, a = wsD ws ∧ b = chD p os ns ∧ WsOk ws ∧ WsOk os ∧ WsOk ns ∧ 0 ≤ p
def wsOf (d : PyData) : List Str := (itemsD d).map fun z => match z with | .str s => s | _ => default
theorem wsOf_wsD (ws : List Str) : wsOf (wsD ws) = ws := by
  show (ws.map PyData.str).map _ = ws
  rw [List.map_map]
  exact (List.map_congr_left fun _ _ => rfl).trans (List.map_id ws)
def intOf : PyData → Int
  | .int i => i
  | _ => 0
end K80

namespace KD
open PySem PySem.Spec PyProof.Rows L2
/-! ### own errors with one field -/
def spInit (C : Addr) (f : Str) : Sp := fun vs H Q _ => ∃ (a : Addr) (y : V), vs = [.ref a, y] ∧ H a = some (exo a C none) ∧ ∀ d, H d = none → d ≠ a → Q .non (upd (upd H d (exd d [(f, y)])) a (exo a C (some d)))
structure Ec (P : Program) (w : World) (K : PySem.W.Frag) (mg : Str → Option Value) (base : Heap) (x f : Str) (C : Addr) : Prop where
  gC : mg x = some (.ref C)
  T : OexC K C
  xf : XfC K C
  noF : PySem.W.findIn K (.ref C) f = some none
  ini : ∃ (fI : Addr) (fd : FuncData), PySem.W.findIn K (.ref C) "__init__" = some (some (.ref fI)) ∧ PySem.W.typeIn K (.ref fI) = some (.type "function") ∧ FnOk P w K mg base CX0 1 fI fd ["self", f] (spInit C f) ∧ Binds K fd ["self", f] []
section
variable {P : Program} {w : World} {K : PySem.W.Frag} {mg : Str → Option Value} {base : Heap} {C : Addr} {x f qual : Str} {st : Stmt} {fI : Addr} {fd : FuncData}
theorem ok_initF (F : Fun K "__init__" qual st fI fd) (S : FnScope [("self" : Str), f] [("self" : Str), f] (defScope st)) (T : OexC K C) (hno : PySem.W.findIn K (.ref C) f = some none) {p1 p2 p3 p4 : Pos}
    (hb : defBody st = [.Assign [.Attribute (.Name ("self" : Str) p1) f p2] (.Name f p3) p4]) (v0 : (defScope st).names.lookup ("self" : Str) = some .local) (v1 : (defScope st).names.lookup f = some .local) (hd : (f == ("__debug__" : Str)) = false) (hcd : (f == ("__classdict__" : Str)) = false)
    (hs : ∀ env : Env, swapsWith (.Name f p3) (some (.Attribute (.Name ("self" : Str) p1) f p2)) p4.line env = pure false) : FnOk P w K mg base CX0 1 fI fd ["self", f] (spInit C f) := by
  refine F.ok S (fun vs H Q E h => ?_) (fun cdv A outer s H vs Q E hr h => ?_)
  · obtain ⟨a, y, rfl, _⟩ := h
    rfl
  · obtain ⟨a, y, rfl, ha, k⟩ := h
    refine ⟨_, by
      rw [hb]
      exact pss_one (ps_ost (pe_var (i := 0) rfl (.inl v0) (by decide) (by decide)) (pe_var (i := 1) rfl (.inl v1) hd hcd) (hs _)), ?_⟩
    exact ⟨y, rfl, .ref a, rfl, a, C, rfl, T, hno, .inl ⟨ha, fun d hd hne => k d hd hne⟩⟩
end
inductive Out where
  | val (d : PyData) | err (C : Addr) (f : Str) (d : PyData)
def EndQ (X : Addr → Prop) (H : Hp) (o : Out) (Q : VK) (E : XK) : Prop := (∀ r, o = .val r → ∀ w H', Same H H' → DX X H' w r → Nw H w → Q w H') ∧ (∀ C fl r, o = .err C fl r → ∀ a w H', Same H H' → H' a = some (.xd [(fl, w)]) → DX X H' w r → E (.ref C) (some a) H')
theorem EndQ.mono {X : Addr → Prop} {H H1 : Hp} {o : Out} {Q : VK} {E : XK} (s : Same H H1) (h : EndQ X H o Q E) : EndQ X H1 o Q E := ⟨fun r e w H' k dw nw => h.1 r e w H' (s.trans k) dw (Nw.back s nw), fun C fl r e a w H' k => h.2 C fl r e a w H' (s.trans k)⟩
def spX1 (pre : PyData → Prop) (f : PyData → Out) : Sp := fun vs H Q E => ∃ (X : Addr → Prop) (v : V) (d : PyData), vs = [v] ∧ Trk X H ∧ DX X H v d ∧ pre d ∧ EndQ X H (f d) Q E
def spX2 (pre : PyData → PyData → Prop) (f : PyData → PyData → Out) : Sp := fun vs H Q E => ∃ (X : Addr → Prop) (v1 v2 : V) (d1 d2 : PyData), vs = [v1, v2] ∧ Trk X H ∧ DX X H v1 d1 ∧ DX X H v2 d2 ∧ pre d1 d2 ∧ EndQ X H (f d1 d2) Q E
section
variable {X : Addr → Prop} {σ : L2.St} {H : Hp} {ta tb : TE} {d d1 d2 : PyData} {E : XK} {Γ : List Sv} {D : Ends} {tz : TS}
/-- the reading of «raise C(e)» -/
theorem mk_err {C : Addr} {f : Str} (h : G X ta σ H d) (q : ∀ a w H', Same H H' → H' a = some (.xd [(f, w)]) → DX X H' w d → E (.ref C) (some a) H') : tMkO C (spInit C f) [] (tCons ta tNil) σ H E :=
  h H (Same.refl H) _ fun v H1 s r => ⟨by show 1 ≤ 1000; decide, fun a ha => ⟨a, v, rfl, upd_same, fun dd hd hne => by
    have hd1 : H1 dd = none := by rw [upd_ne hne] at hd; exact hd
    refine ⟨rfl, dd, _, upd_same, by rw [upd_ne hne, upd_same], hd1, q dd v _ (fun b o e => ?_) upd_same (r.mono (Kp.of ?_))⟩
    · have e1 := s b o e
      have hb : b ≠ a := ne_of_none e1 ha
      rw [upd_ne (ne_of_none e1 hd1)]
      show (if b = a then none else _) = some o
      rw [if_neg hb, upd_ne hb, upd_ne (ne_of_none e1 hd1), upd_ne hb]
      exact e1
    · intro b o e1
      have hb : b ≠ a := ne_of_none e1 ha
      rw [upd_ne (ne_of_none e1 hd1)]
      show (if b = a then none else _) = some o
      rw [if_neg hb, upd_ne hb, upd_ne (ne_of_none e1 hd1), upd_ne hb]
      exact e1⟩⟩
/-- a call that may raise -/
theorem c_X1 {pre : PyData → Prop} {f : PyData → Out} {Q : VK} (t : Trk X H) (h : G X ta σ H d) (hp : pre d) (q : EndQ X H (f d) Q E) : tCall (spX1 pre f) [] E (tCons ta tNil) σ H Q :=
  h H (Same.refl H) _ fun v H1 s r => ⟨X, v, d, rfl, t.mono s, r, hp, q.mono s⟩
theorem c_X2 {pre : PyData → PyData → Prop} {f : PyData → PyData → Out} {Q : VK} (t : Trk X H) (h1 : G X ta σ H d1) (h2 : G X tb σ H d2) (hp : pre d1 d2) (q : EndQ X H (f d1 d2) Q E) : tCall (spX2 pre f) [] E (tCons ta (tCons tb tNil)) σ H Q :=
  h1 H (Same.refl H) _ fun v H1 s r => h2 H1 s _ fun v2 H2 s2 r2 => ⟨X, v, v2, d1, d2, rfl, (t.mono s).mono s2, r.mono (Kp.of s2), r2, hp, q.mono (s.trans s2)⟩
theorem q_setX1 {i : Nat} {pre : PyData → Prop} {f : PyData → Out} (En : EnvOk X H σ Γ) (t : Trk X H) (h : G X ta σ H d) (hp : pre d) (k : ∀ r, f d = .val r → ∀ H1 v, Same H H1 → EnvOk X H1 (σ.set i (some v)) (Γ.set i (.dat r)) → tz D (σ.set i (some v)) H1)
    (ke : ∀ C fl r, f d = .err C fl r → ∀ a w H', Same H H' → H' a = some (.xd [(fl, w)]) → DX X H' w r → E (.ref C) (some a) H') : tSeq (tAsg (tCall (spX1 pre f) [] E (tCons ta tNil)) (gName i)) tz D σ H :=
  c_X1 t h hp ⟨fun r e v H1 s dv _ => k r e H1 v s ((En.same s).set dv), ke⟩
theorem gn_X1 {pre : PyData → Prop} {f : PyData → Out} {r : PyData} (t : Trk X H) (h : G X ta σ H d) (hp : pre d) (e : f d = .val r) : GN X (tCall (spX1 pre f) [] E (tCons ta tNil)) σ H r := fun H1 s Q q =>
  c_X1 (t.mono s) (h.mono s) hp ⟨fun r' e' w H' k dw nw => by rw [e] at e'; cases e'; exact q w H' k dw nw, fun C fl r' e' => by rw [e] at e'; cases e'⟩
theorem gn_X2 {pre : PyData → PyData → Prop} {f : PyData → PyData → Out} {r : PyData} (t : Trk X H) (h1 : G X ta σ H d1) (h2 : G X tb σ H d2) (hp : pre d1 d2) (e : f d1 d2 = .val r) : GN X (tCall (spX2 pre f) [] E (tCons ta (tCons tb tNil))) σ H r := fun H1 s Q q =>
  c_X2 (t.mono s) (h1.mono s) (h2.mono s) hp ⟨fun r' e' w H' k dw nw => by rw [e] at e'; cases e'; exact q w H' k dw nw, fun C fl r' e' => by rw [e] at e'; cases e'⟩
/-- .. of which it is known that it doesn't -/
theorem g_X1 {pre : PyData → Prop} {f : PyData → Out} {r : PyData} (t : Trk X H) (h : G X ta σ H d) (hp : pre d) (e : f d = .val r) : G X (tCall (spX1 pre f) [] E (tCons ta tNil)) σ H r := fun H1 s Q q =>
  c_X1 (t.mono s) (h.mono s) hp ⟨fun r' e' w H' k dw _ => by rw [e] at e'; cases e'; exact q w H' k dw, fun C fl r' e' => by rw [e] at e'; cases e'⟩
theorem g_X2 {pre : PyData → PyData → Prop} {f : PyData → PyData → Out} {r : PyData} (t : Trk X H) (h1 : G X ta σ H d1) (h2 : G X tb σ H d2) (hp : pre d1 d2) (e : f d1 d2 = .val r) : G X (tCall (spX2 pre f) [] E (tCons ta (tCons tb tNil))) σ H r := fun H1 s Q q =>
  c_X2 (t.mono s) (h1.mono s) (h2.mono s) hp ⟨fun r' e' w H' k dw _ => by rw [e] at e'; cases e'; exact q w H' k dw, fun C fl r' e' => by rw [e] at e'; cases e'⟩
end
section
variable {P : Program} {w : World} {K : PySem.W.Frag} {mg : Str → Option Value} {base : Heap} {x qual : Str} {st : Stmt} {f : Addr} {fd : FuncData} {N : List Str} {k : Nat} {a b c : Str}
theorem okX1 {pre : PyData → Prop} {g : PyData → Out} (F : Fun K x qual st f fd) (S : FnScope N [a] (defScope st)) (hN : 1 ≤ N.length)
    (hbody : ∀ (cdv : Value) (A : Around) (outer : List Env) (s : Shared) (H : Hp) (E : XK) (X : Addr → Prop) (d : PyData) (Q : VK), Room k (A.deeper (envOfC qual (defScope st) s.heap.objs.size f cdv)) → Trk X H → pre d → EndQ X H (g d) Q E →
      ∃ t, PSs (cxOf (L2.CX P w) P w K mg base N qual (defScope st) f cdv A outer s H E) (defBody st) t ∧ ∀ σ, EnvOk X H σ (pad N [.dat d]) → t { nx := fun _ H' => Q .non H', rt := Q } σ H) : FnOk P w K mg base (L2.CX P w) (k + 1) f fd [a] (spX1 pre g) := by
  refine F.okX S (fun vs H Q E h => ?_) (fun cdv A outer s H vs Q E hr h => ?_)
  · obtain ⟨X, v, d, rfl, _⟩ := h
    rfl
  · obtain ⟨X, v, d, rfl, t, hd, hp, q⟩ := h
    obtain ⟨tt, h1, h2⟩ := hbody cdv A outer s H E X d Q hr t hp q
    exact ⟨tt, h1, h2 _ (env1 hd hN)⟩
theorem okX2 {pre : PyData → PyData → Prop} {g : PyData → PyData → Out} (F : Fun K x qual st f fd) (S : FnScope N [a, b] (defScope st)) (hN : 2 ≤ N.length)
    (hbody : ∀ (cdv : Value) (A : Around) (outer : List Env) (s : Shared) (H : Hp) (E : XK) (X : Addr → Prop) (d1 d2 : PyData) (Q : VK), Room k (A.deeper (envOfC qual (defScope st) s.heap.objs.size f cdv)) → Trk X H → pre d1 d2 → EndQ X H (g d1 d2) Q E →
      ∃ t, PSs (cxOf (L2.CX P w) P w K mg base N qual (defScope st) f cdv A outer s H E) (defBody st) t ∧ ∀ σ, EnvOk X H σ (pad N [.dat d1, .dat d2]) → t { nx := fun _ H' => Q .non H', rt := Q } σ H) : FnOk P w K mg base (L2.CX P w) (k + 1) f fd [a, b] (spX2 pre g) := by
  refine F.okX S (fun vs H Q E h => ?_) (fun cdv A outer s H vs Q E hr h => ?_)
  · obtain ⟨X, v1, v2, d1, d2, rfl, _⟩ := h
    rfl
  · obtain ⟨X, v1, v2, d1, d2, rfl, t, r1, r2, hp, q⟩ := h
    obtain ⟨tt, h1, h2⟩ := hbody cdv A outer s H E X d1 d2 Q hr t hp q
    exact ⟨tt, h1, h2 _ (env2 r1 r2 hN)⟩
end
section
variable {X : Cx} {k j : Nat} {x f : Str} {ps : List Str} {sp : Sp} {e : Expr} {es : List Expr} {p pos pos2 : Pos} {ta : TA} {E : XK} {C : Addr}
/-- a def that may raise, called within one that lets it out -/
theorem pe_ownX (O : Own X.prog X.w X.K X.mg X.base (L2.CX X.prog X.w) k x ps sp) (hr : Room j X.A) (hk : k ≤ j) (tk : Takes X (fun cls d _ H => E cls d H)) (hg : Gl X x) (ha : PA X (e :: es) ta) (hdb : (x == ("__debug__" : Str)) = false := by decide)
    (he : starEach (e :: es) X.env = (false, eval e X.env) :: starEach es X.env := by rfl) (hpl : (backTo pos (starEach es X.env)).any (·.1) = false := by rfl) : PE X (.Call (.Name x p) (e :: es) [] pos) (tCall sp [] E ta) := by
  obtain ⟨g, fd, h1, h2, h3, h4⟩ := O.ex
  exact pe_call h4 (hr.mono hk) hg h1 h2 h3 .nil (passes_call tk fun _ _ _ _ h => h) ha hdb he hpl
/-- raise C(e) -/
theorem ps_err {W : WX} (hc : X.calm = true) (T : Ec X.prog X.w X.K X.mg X.base x f C) (hr : Room j X.A) (hk : 2 ≤ j) (tk : Takes X W) (hg : Gl X x) {ta : TE} (ha : PA X [e] (tCons ta tNil)) (hdb : (x == ("__debug__" : Str)) = false := by decide)
    (he : starEach (e :: []) X.env = (false, eval e X.env) :: starEach [] X.env := by rfl) (hpl : (backTo pos (starEach [] X.env)).any (·.1) = false := by rfl) :
    PS X (.Raise (some (.Call (.Name x p) [e] [] pos)) none pos2) (fun _ σ H => tMkO C (spInit C f) [] (tCons ta tNil) σ H fun cls d H' => W cls d σ H') := by
  obtain ⟨fI, fd, h1, h2, h3, h4⟩ := T.ini
  exact ps_raise hc tk (pmk_oex T.T h1 h2 h3 (hr.mono hk) h4 .nil (pass0) hg T.gC ha hdb he hpl)
end
end KD

namespace K80
open PySem PySem.Spec PyProof.Rows L2 KD
-- RAISES change_of checked_text made_by turned_back
variable {P : Program} {w : World} {K : PySem.W.Frag} {mg : Str → Option Value} {base : Heap}
theorem ffD_none : ∀ {ds : List PyData} {i : Nat}, isNone (ffD i (ds.map fun z => .bool (isWordsD z))) = true → ∀ z ∈ ds, isWordsD z = true
  | [], _, _, z, hz => by cases hz
  | d :: ds, i, h, z, hz => by
    cases e : isWordsD d with
    | false =>
      rw [List.map_cons, e] at h
      simp [ffD, isNone] at h
    | true =>
      rw [List.map_cons, e, ff_true] at h
      rcases List.mem_cons.mp hz with rfl | hm
      · exact e
      · exact ffD_none h z hm
theorem words_str {d : PyData} (h : isWordsD d = true) : ∃ s, d = .str s := by
  cases d <;> first | exact ⟨_, rfl⟩ | cases h
theorem ws_map : ∀ {ds : List PyData}, (∀ z ∈ ds, isWordsD z = true) → ds = (ds.map fun z => match z with | .str s => s | _ => default).map PyData.str
  | [], _ => rfl
  | d :: ds, h => by
    obtain ⟨s, rfl⟩ := words_str (h d List.mem_cons_self)
    rw [List.map_cons, List.map_cons, ← ws_map fun z hz => h z (List.mem_cons_of_mem _ hz)]
theorem ws_of {d : PyData} (h : isNone (wrongD d) = true) : PyData.list (itemsD d) = wsD (wsOf d) := by
  have hs := wrong_seq h
  unfold wrongD at h
  rw [hs] at h
  show PyData.list (itemsD d) = PyData.list ((wsOf d).map PyData.str)
  congr 1
  exact ws_map (ffD_none h)

end K80

/-! The spring of draws. -/
namespace K80
open PySem PySem.Spec PyProof.Rows L2 KD
variable {P : Program} {w : World} {K : PySem.W.Frag} {mg : Str → Option Value} {base : Heap}
/-- the spring at st, its cells at cl: b draws done -/
structure SpAt (st cl : Addr) (ms : List Int) (a b c : Int) (H : Hp) : Prop where
  hs : H st = some (.lst [.ref cl, .int a, .int b, .int c])
  hc : H cl = some (.lst (ms.map V.int))
  ne : st ≠ cl
  a0 : 0 ≤ a
  b0 : 0 ≤ b
  c0 : 0 ≤ c
  c1 : c < 2147483647
  ml : ms.length ≤ 100000
def SpOk (st cl : Addr) (n : Nat) (H : Hp) : Prop := ∃ ms a b c, SpAt st cl ms a b c H ∧ b ≤ (n : Int)
/-- all but the spring stays -/
def KpS (st cl : Addr) (H H' : Hp) : Prop := ∀ a o, a ≠ st → a ≠ cl → H a = some o → H' a = some o
theorem KpS.refl {st cl : Addr} {H : Hp} : KpS st cl H H := fun _ _ _ _ e => e
theorem KpS.trans {st cl : Addr} {H H1 H2 : Hp} (h : KpS st cl H H1) (k : KpS st cl H1 H2) : KpS st cl H H2 := fun a o n m e => k a o n m (h a o n m e)
theorem KpS.of {st cl : Addr} {H H' : Hp} (h : Same H H') : KpS st cl H H' := fun a o _ _ e => h a o e
theorem KpS.kp {X : Addr → Prop} {st cl : Addr} {H H' : Hp} (h : KpS st cl H H') (x1 : X st) (x2 : X cl) : Kp X H H' := fun a o n e => h a o (fun z => n (z ▸ x1)) (fun z => n (z ▸ x2)) e
theorem SpOk.trk {X : Addr → Prop} {st cl : Addr} {n : Nat} {H H' : Hp} (h : SpOk st cl n H') (k : KpS st cl H H') (t : Trk X H) : Trk X H' := fun a x => by
  obtain ⟨ms, a', b, c, S, _⟩ := h
  by_cases h1 : a = st
  · subst h1
    exact ⟨_, S.hs⟩
  · by_cases h2 : a = cl
    · subst h2
      exact ⟨_, S.hc⟩
    · obtain ⟨o, e⟩ := t a x
      exact ⟨o, k a o h1 h2 e⟩
theorem SpAt.same {st cl : Addr} {ms : List Int} {a b c : Int} {H H' : Hp} (S : SpAt st cl ms a b c H) (s : Same H H') : SpAt st cl ms a b c H' := ⟨s _ _ S.hs, s _ _ S.hc, S.ne, S.a0, S.b0, S.c0, S.c1, S.ml⟩
theorem SpOk.same {st cl : Addr} {n : Nat} {H H' : Hp} (h : SpOk st cl n H) (s : Same H H') : SpOk st cl n H' := by
  obtain ⟨ms, a, b, c, S, hb⟩ := h
  exact ⟨ms, a, b, c, S.same s, hb⟩
theorem SpOk.le {st cl : Addr} {n m : Nat} {H : Hp} (h : SpOk st cl n H) (hm : n ≤ m) : SpOk st cl m H := by
  obtain ⟨ms, a, b, c, S, hb⟩ := h
  exact ⟨ms, a, b, c, S, by omega⟩
theorem KpS.put {st cl p : Addr} {H : Hp} {o : HO} (h : p = st ∨ p = cl) : KpS st cl H (upd H p o) := fun a u n m e => by
  rw [upd_ne (fun z => by rcases h with h | h; exact n (z.trans h); exact m (z.trans h))]
  exact e
section
variable {σ : L2.St} {H : Hp} {i : Nat} {p st cl : Addr} {xs : List V} {v : V} {k : Int} {Q : VK} {ms : List Int} {a b c : Int}
theorem ix_at (hv : σ[i]? = some (some (.ref p))) (hp : H p = some (.lst xs)) (hx : atI xs k = some v) (q : Q v H) : tOp (rIx K) (tVar i) (tC (.int k)) σ H Q := ⟨_, hv, .inl ⟨p, xs, k, v, rfl, rfl, SqL.of hp, hx, q⟩⟩
theorem set_at {R : L2.St → Hp → Prop} {j : Nat} (hv : σ[i]? = some (some (.ref p))) (hp : H p = some (.lst xs)) (hx : ixN xs.length k = some j) (q : R σ (upd H p (.lst (xs.set j v)))) : gSub (tVar i) (tC (.int k)) rSetL v σ H R := ⟨_, hv, p, xs, k, j, rfl, rfl, hp, hx, q⟩
theorem op2 {r : R2} {ta tb : TE} (h : ta σ H fun x H1 => tb σ H1 fun y H2 => r x y H2 Q) : tOp r ta tb σ H Q := h
theorem SpAt.put1 (S : SpAt st cl ms a b c H) {z : Int} (h : 0 ≤ z) : SpAt st cl ms z b c (upd H st (.lst [.ref cl, .int z, .int b, .int c])) := ⟨upd_same, by rw [upd_ne (Ne.symm S.ne)]; exact S.hc, S.ne, h, S.b0, S.c0, S.c1, S.ml⟩
theorem SpAt.put2 (S : SpAt st cl ms a b c H) {z : Int} (h : 0 ≤ z) : SpAt st cl ms a z c (upd H st (.lst [.ref cl, .int a, .int z, .int c])) := ⟨upd_same, by rw [upd_ne (Ne.symm S.ne)]; exact S.hc, S.ne, S.a0, h, S.c0, S.c1, S.ml⟩
theorem SpAt.put3 (S : SpAt st cl ms a b c H) {z : Int} (h : 0 ≤ z) (h2 : z < 2147483647) : SpAt st cl ms a b z (upd H st (.lst [.ref cl, .int a, .int b, .int z])) := ⟨upd_same, by rw [upd_ne (Ne.symm S.ne)]; exact S.hc, S.ne, S.a0, S.b0, h, h2, S.ml⟩
theorem SpAt.pop (S : SpAt st cl ms a b c H) {m : Int} {r : List Int} (e : ms = m :: r) : SpAt st cl r a b c (upd H cl (.lst (r.map V.int))) := ⟨by rw [upd_ne S.ne]; exact S.hs, upd_same, S.ne, S.a0, S.b0, S.c0, S.c1, by have := S.ml; rw [e, List.length_cons] at this; omega⟩
end
theorem dp_ints {H : Hp} : ∀ ms : List Int, DpAll K H (ms.map V.int) (ms.map PyData.int)
  | [] => .nil
  | m :: r => .cons (.int m) (dp_ints r)
theorem canLay_ints : ∀ ms : List Int, PyData.canLayAll0 (ms.map PyData.int) = true
  | [] => by simp [PyData.canLayAll0]
  | m :: r => by simp [PyData.canLayAll0, PyData.canLay0, canLay_ints r]
theorem depth_ints : ∀ ms : List Int, PyData.depthAll (ms.map PyData.int) ≤ 1
  | [] => by simp [PyData.depthAll]
  | m :: r => by
    have := depth_ints r
    simp only [List.map_cons, PyData.depthAll, PyData.depth]
    omega
theorem shaped_ints (ms : List Int) : SeqAt.shaped (.list (ms.map PyData.int)) = true := by
  have := depth_ints ms
  have h2 : PyData.depth (.list (ms.map PyData.int)) ≤ 64 := by
    simp only [PyData.depth]
    omega
  show ((PyData.list (ms.map PyData.int)).canLay0 && decide ((PyData.list (ms.map PyData.int)).depth ≤ 64)) = true
  rw [Bool.and_eq_true]
  exact ⟨by simp only [PyData.canLay0]; exact canLay_ints ms, decide_eq_true h2⟩

abbrev s__law_start : Stmt := topS 41
abbrev n__law_start : List Str := ["_law_script"]
theorem sc__law_start : FnScope n__law_start ["_law_script"] (defScope s__law_start) := ⟨rfl, rfl, rfl, by decide +kernel, rfl, by decide +kernel, by decide +kernel⟩
def spStart (K : PySem.W.Frag) : Sp := fun vs H Q _ => ∃ (a : Addr) (ns : List Int), vs = [.ref a] ∧ SqL K H a (ns.map V.int) ∧ ns.length ≤ 63 ∧ ∀ st cl H', Same H H' → H st = none → H cl = none → SpOk st cl 0 H' → Q (.ref st) H'
theorem ok_start {f : Addr} {fd : FuncData} (F : Fun K "_law_start" "_law_start" s__law_start f fd) (T : Bl mg) : FnOk P w K mg base CX0 1 f fd ["_law_script"] (spStart K) := by
  refine F.ok sc__law_start (fun vs H Q E h => ?_) (fun cdv A outer s H vs Q E hr h => ?_)
  · obtain ⟨a, ns, rfl, _⟩ := h
    rfl
  · obtain ⟨a, ns, rfl, hS, hl, k⟩ := h
    refine ⟨_, (pss_one (ps_ret (pe_lst (pa_cons (pe_callTy call_list_of (by rfl) T.b_list boot_list (pa_cons (pv 0) pa_nil)) (pa_cons pe_int (pa_cons pe_int (pa_cons pe_int pa_nil))))))), ?_⟩
    refine ⟨_, rfl, a, _, rfl, .inl hS, fun cl hcl => ⟨by show 4 ≤ sizeLine; decide, fun st hst => ?_⟩⟩
    have hst0 : H st = none := (Same.upd hcl).free hst
    have ne : st ≠ cl := fun e => by
      rw [e, upd_same] at hst
      cases hst
    refine k st cl _ ((Same.upd hcl).trans (Same.upd hst)) hst0 hcl ⟨ns, 0, 0, 11, ⟨upd_same, by rw [upd_ne (Ne.symm ne)]; exact upd_same, ne, by omega, by omega, by omega, by omega, by omega⟩, by omega⟩

abbrev s__law_draw : Stmt := topS 42
abbrev n__law_draw : List Str := ["_law_stream", "_law_many", "_law_cell", "_law_digit", "_law_mixed_here"]
theorem sc__law_draw : FnScope n__law_draw ["_law_stream", "_law_many"] (defScope s__law_draw) := ⟨rfl, rfl, rfl, by decide +kernel, rfl, by decide +kernel, by decide +kernel⟩
def spDraw : Sp := fun vs H Q _ => ∃ (st cl : Addr) (n : Nat) (m : Int), vs = [.ref st, .int m] ∧ SpOk st cl n H ∧ n ≤ 1000000000 ∧ 0 < m ∧ m < 1000000 ∧ ∀ i H', 0 ≤ i → i < m → KpS st cl H H' → SpOk st cl (n + 1) H' → Q (.int i) H'
def lenAt (cl : Addr) (H : Hp) : Nat := match H cl with
  | some (.lst xs) => xs.length
  | _ => 0
theorem ok_draw {f : Addr} {fd : FuncData} (F : Fun K "_law_draw" "_law_draw" s__law_draw f fd) (T : Bl mg) : FnOk P w K mg base CX0 1 f fd ["_law_stream", "_law_many"] spDraw := by
  refine F.ok sc__law_draw (fun vs H Q E h => ?_) (fun cdv A outer s H vs Q E hr h => ?_)
  · obtain ⟨st, cl, n, m, rfl, _⟩ := h
    rfl
  · obtain ⟨st, cl, n, m, rfl, ⟨ms, a, b, c, S, hbn⟩, hn, hm, hm2, k⟩ := h
    refine ⟨_, (pss_cons (ps_asg (pe_op op_addA (pe_ix ix_seq (pv 0) pe_int (fun _ _ => rfl)) pe_int) (pg_sub (pv 0) pe_int set_list))
    (Evl.pss_cut (ps_while PassesOwn.never (PW.pt (pw_and (pt_cmpR (op_eqD hr.units) (pe_ix ix_seq (pv 0) pe_int (fun _ _ => rfl)) pe_int (nomark _)) (pw_and1 (pt_cmpR (op_neD hr.units) (pe_ix ix_seq (pv 0) pe_int (fun _ _ => rfl)) (pe_lst pa_nil) (nomark _)))))
    (pss_cons (ps_set (i := 2) sc__law_draw.nd rfl (by first | exact Or.inl rfl | exact Or.inr rfl) (pe_bm PySem.F.plainAttrs_list PySem.F.slot_list_pop PySem.F.type_list_pop mt_popAt (pe_ix ix_seq (pv 0) pe_int (fun _ _ => rfl)) (pa_cons pe_int pa_nil)))
    (pss_cons (ps_asg (pe_op op_mod (pe_callTy call_int1 (by rfl) T.b_int boot_int (pa_cons (pe_op op_addA (pe_op op_addA (pe_op op_mulA (pe_ix ix_seq (pv 0) pe_int (fun _ _ => rfl)) pe_int) (pv 2)) pe_int) pa_nil)) pe_int) (pg_sub (pv 0) pe_int set_list))
    (pss_one (ps_asg (pe_ifExp (pt_cmpR op_ge (pv 2) (pe_op op_pow pe_int pe_int) (nomark _)) (pv 2) pe_int) (pg_sub (pv 0) pe_int set_list))))))
    (pss_cons (ps_if (pt_cmpR op_gt (pe_ix ix_seq (pv 0) pe_int (fun _ _ => rfl)) pe_int (nomark _))
    (pss_cons (ps_set (i := 3) sc__law_draw.nd rfl (by first | exact Or.inl rfl | exact Or.inr rfl) (pe_op op_mod (pe_callTy call_int1 (by rfl) T.b_int boot_int (pa_cons (pe_ix ix_seq (pv 0) pe_int (fun _ _ => rfl)) pa_nil)) (pv 1)))
    (pss_cons (ps_asg (pe_op op_fdiv (pe_ix ix_seq (pv 0) pe_int (fun _ _ => rfl)) (pv 1)) (pg_sub (pv 0) pe_int set_list))
    (pss_one (ps_ret (pv 3))))) pss_nil)
    (pss_cons (ps_set (i := 4) sc__law_draw.nd rfl (by first | exact Or.inl rfl | exact Or.inr rfl) (pe_op op_mod (pe_callTy call_int1 (by rfl) T.b_int boot_int (pa_cons (pe_op op_pow (pe_op op_addA (pe_op op_addA (pe_ix ix_seq (pv 0) pe_int (fun _ _ => rfl)) (pe_op op_mulA pe_int (pe_ix ix_seq (pv 0) pe_int (fun _ _ => rfl)))) pe_int) pe_int) pa_nil)) pe_int))
    (pss_one (ps_ret (pe_op op_mod (pe_op op_mod (pe_callTy call_int1 (by rfl) T.b_int boot_int (pa_cons (pe_op op_pow (pe_op op_addA (pe_op op_addA (pe_op op_mulA (pv 4) pe_int) (pe_op op_mulA pe_int (pe_ix ix_seq (pv 0) pe_int (fun _ _ => rfl)))) pe_int) pe_int) pa_nil)) pe_int) (pv 1)))))))), ?_⟩
    -- stream[2] = stream[2] + 1
    refine ix_at (i := 0) rfl S.hs (v := .int b) rfl ?_
    refine .inl ⟨b, 1, rfl, rfl, ?_⟩
    refine set_at (i := 0) (j := 2) rfl S.hs rfl ?_
    have S1 : SpAt st cl ms a (b + 1) c (upd H st (.lst [.ref cl, .int a, .int (b + 1), .int c])) := S.put2 (by have := S.b0; omega)
    have k1 : KpS st cl H (upd H st (.lst [.ref cl, .int a, .int (b + 1), .int c])) := KpS.put (.inl rfl)
    -- the loop
    refine ⟨fun σ H' => ∃ ms' a' c' x, σ = [some (.ref st), some (.int m), x, none, none] ∧ SpAt st cl ms' a' (b + 1) c' H' ∧ KpS st cl H H',
      ⟨fun l σ H' => ∃ ms' a' c' x, l = ms'.length ∧ σ = [some (.ref st), some (.int m), x, none, none] ∧ SpAt st cl ms' a' (b + 1) c' H' ∧ KpS st cl H H', ⟨ms.length, ms, a, c, none, rfl, rfl, S1, k1⟩, ?_⟩, ?_⟩
    · rintro l σ H1 ⟨ms1, a1, c1, x1, rfl, rfl, S2, k2⟩
      refine ix_at (i := 0) rfl S2.hs (v := .int a1) rfl ?_
      refine ⟨.int a1, .int 0, .int _, .int _, shaped_int _, shaped_int _, _, rfl, ?_⟩
      rw [eqv_int]
      by_cases ha : a1 = 0
      · rw [decide_eq_true ha]
        refine iteT ?_
        refine ix_at (i := 0) rfl S2.hs (v := .ref cl) rfl ?_
        refine ⟨by show 0 ≤ sizeLine; decide, fun p hp => ?_⟩
        have S3 := S2.same (Same.upd (o := .lst []) hp)
        refine ⟨.list (ms1.map .int), .list [], .lst (SqL.of S3.hc) (dp_ints ms1), .lst (SqL.of upd_same) .nil, shaped_ints ms1, shaped_ints [], _, rfl, ?_⟩
        have k3 : KpS st cl H (upd H1 p (.lst [])) := k2.trans (KpS.of (Same.upd hp))
        cases ms1 with
        | nil =>
          refine iteF ?_
          exact ⟨[], a1, c1, x1, rfl, S3, k3⟩
        | cons m1 r1 =>
          refine iteT ?_
          refine ⟨fun σ H' => ∃ a' c' x, σ = [some (.ref st), some (.int m), x, none, none] ∧ SpAt st cl r1 a' (b + 1) c' H' ∧ KpS st cl H H', fun σ' H' ⟨a', c', x, e, S', k'⟩ => ⟨r1.length, Nat.lt_succ_self _, r1, a', c', x, rfl, e, S', k'⟩, ?_⟩
          -- cell = stream[0].pop(0)
          refine ix_at (i := 0) rfl S3.hs (v := .ref cl) rfl ?_
          refine ⟨.inl ⟨rfl, _, SqL.of S3.hc⟩, cl, _, 0, 0, .int m1, rfl, rfl, S3.hc, by decide, by decide, (by simp [seqIndex?]), rfl, ?_⟩
          have S4 := S3.pop rfl
          have k4 := k3.trans (KpS.put (H := upd H1 p (.lst [])) (o := .lst (r1.map V.int)) (st := st) (.inr rfl))
          -- stream[3] = int(stream[3] * 8191 + cell + 3) % 2147483647
          refine ix_at (i := 0) rfl S4.hs (v := .int c1) rfl ?_
          refine .inl ⟨c1, 8191, rfl, rfl, .inr ⟨by decide, by decide⟩, ?_⟩
          refine ⟨.int m1, rfl, .inl ⟨_, _, rfl, rfl, ?_⟩⟩
          refine .inl ⟨_, _, rfl, rfl, ?_⟩
          refine .inl ⟨_, rfl, ?_⟩
          refine ⟨_, _, rfl, rfl, (by decide : (0 : Int) < 2147483647), ?_⟩
          refine set_at (i := 0) (j := 3) rfl S4.hs rfl ?_
          have S5 := S4.put3 (z := (c1 * 8191 + m1 + 3) % 2147483647) (Int.emod_nonneg _ (by decide)) (Int.emod_lt_of_pos _ (by decide))
          have k5 := k4.trans (KpS.put (H := upd (upd H1 p (.lst [])) cl (.lst (r1.map V.int))) (o := .lst [.ref cl, .int a1, .int (b + 1), .int ((c1 * 8191 + m1 + 3) % 2147483647)]) (st := st) (cl := cl) (.inl rfl))
          -- stream[1] = cell if cell >= 10 ** 18 else 0
          refine ⟨.int m1, rfl, ?_⟩
          refine ⟨10, 18, rfl, rfl, ⟨by decide, by decide, by decide⟩, ?_⟩
          refine ⟨_, _, rfl, rfl, _, rfl, ?_⟩
          by_cases hg : (10 : Int) ^ (18 : Int).toNat ≤ m1
          · rw [decide_eq_true hg]
            refine iteT ?_
            refine ⟨.int m1, rfl, ?_⟩
            refine set_at (i := 0) (j := 1) rfl S5.hs rfl ?_
            exact ⟨m1, _, _, rfl, S5.put1 (Int.le_trans (by decide) hg), k5.trans (KpS.put (.inl rfl))⟩
          · rw [decide_eq_false hg]
            refine iteF ?_
            refine set_at (i := 0) (j := 1) rfl S5.hs rfl ?_
            exact ⟨0, _, _, rfl, S5.put1 (by decide), k5.trans (KpS.put (.inl rfl))⟩
      · rw [decide_eq_false ha]
        refine iteF ?_
        refine iteF ?_
        exact ⟨ms1, a1, c1, x1, rfl, S2, k2⟩
    · rintro σ H1 ⟨ms1, a1, c1, x1, rfl, S2, k2⟩
      -- if stream[1] > 0
      refine ix_at (i := 0) rfl S2.hs (v := .int a1) rfl ?_
      refine ⟨a1, 0, rfl, rfl, _, rfl, ?_⟩
      by_cases ha : 0 < a1
      · rw [decide_eq_true ha]
        refine iteT ?_
        refine ix_at (i := 0) rfl S2.hs (v := .int a1) rfl ?_
        refine .inl ⟨a1, rfl, ?_⟩
        refine ⟨.int m, rfl, a1, m, rfl, rfl, hm, ?_⟩
        refine ix_at (i := 0) rfl S2.hs (v := .int a1) rfl ?_
        refine ⟨.int m, rfl, a1, m, rfl, rfl, ⟨hm, by omega⟩, ?_⟩
        refine set_at (i := 0) (j := 1) rfl S2.hs rfl ?_
        refine ⟨.int (a1 % m), rfl, ?_⟩
        exact k _ _ (Int.emod_nonneg _ (by omega)) (Int.emod_lt_of_pos _ hm) (k2.trans (KpS.put (.inl rfl))) ⟨ms1, _, _, _, S2.put1 (Int.ediv_nonneg (by omega) (by omega)), by omega⟩
      · rw [decide_eq_false ha]
        refine iteF ?_
        -- mixed
        refine ix_at (i := 0) rfl S2.hs (v := .int c1) rfl ?_
        refine ix_at (i := 0) rfl S2.hs (v := .int (b + 1)) rfl ?_
        refine .inl ⟨7919, b + 1, rfl, rfl, .inl ⟨by decide, by decide⟩, ?_⟩
        refine .inl ⟨_, _, rfl, rfl, ?_⟩
        refine .inl ⟨_, _, rfl, rfl, ?_⟩
        have c0 := S2.c0
        have c1' := S2.c1
        have b0 := S.b0
        refine ⟨_, 5, rfl, rfl, ⟨by decide, by decide, by omega⟩, ?_⟩
        refine .inl ⟨_, rfl, ?_⟩
        refine ⟨_, _, rfl, rfl, (by decide : (0 : Int) < 2147483629), ?_⟩
        show gName 4 (V.int ((c1 + 7919 * (b + 1) + 104729) ^ (5 : Int).toNat % 2147483629)) _ _ _
        generalize hx : (c1 + 7919 * (b + 1) + 104729) ^ (5 : Int).toNat % 2147483629 = x
        have x0 : 0 ≤ x := by rw [← hx]; exact Int.emod_nonneg _ (by decide)
        have x1' : x < 2147483629 := by rw [← hx]; exact Int.emod_lt_of_pos _ (by decide)
        refine ⟨.int x, rfl, .inl ⟨x, 48271, rfl, rfl, .inr ⟨by decide, by decide⟩, ?_⟩⟩
        refine ix_at (i := 0) rfl S2.hs (v := .int (b + 1)) rfl ?_
        refine .inl ⟨30011, b + 1, rfl, rfl, .inl ⟨by decide, by decide⟩, ?_⟩
        refine .inl ⟨_, _, rfl, rfl, ?_⟩
        refine .inl ⟨_, _, rfl, rfl, ?_⟩
        refine ⟨_, 3, rfl, rfl, ⟨by decide, by decide, by omega⟩, ?_⟩
        refine .inl ⟨_, rfl, ?_⟩
        refine ⟨_, _, rfl, rfl, (by decide : (0 : Int) < 1000000007), ?_⟩
        refine ⟨.int m, rfl, _, m, rfl, rfl, hm, ?_⟩
        exact k _ _ (Int.emod_nonneg _ (by omega)) (Int.emod_lt_of_pos _ hm) k2 ⟨ms1, _, _, _, S2, by omega⟩
end K80

/-! Draws over data. -/
namespace K80
-- HINT _law_mixed lcte tBM K "list" rPopAt (tVar 2) (tCons (tCall spDraw [] E0 (tCons (tVar 0) (tCons (tCB (fun xs H Q => ∃ x n, xs = [x] ∧ LenV K x H n ∧ Q (V.int n) H) (tCons (tVar 2) tNil)) tNil))) tNil)
open PySem PySem.Spec PyProof.Rows L2 KD
variable {P : Program} {w : World} {K : PySem.W.Frag} {mg : Str → Option Value} {base : Heap}
/-- the spring stands apart from the data -/
structure Sg (X : Addr → Prop) (st cl : Addr) (n : Nat) (H : Hp) : Prop where
  ok : SpOk st cl n H
  x1 : X st
  x2 : X cl
  t : Trk X H
section
variable {X X' : Addr → Prop} {st cl p : Addr} {n m : Nat} {H H' : Hp} {σ : L2.St} {Γ : List Sv}
theorem Sg.same (S : Sg X st cl n H) (s : Same H H') : Sg X st cl n H' := ⟨S.ok.same s, S.x1, S.x2, S.t.mono s⟩
theorem Sg.step (S : Sg X st cl n H) (k : KpS st cl H H') (o : SpOk st cl m H') : Sg X st cl m H' := ⟨o, S.x1, S.x2, o.trk k S.t⟩
theorem Sg.le (S : Sg X st cl n H) (h : n ≤ m) : Sg X st cl m H := ⟨S.ok.le h, S.x1, S.x2, S.t⟩
theorem Sg.kp (S : Sg X st cl n H) (k : KpS st cl H H') : Kp X H H' := k.kp S.x1 S.x2
theorem Sg.more (S : Sg X st cl n H) (m : More X X' H) (t : Trk X' H) : Sg X' st cl n H := ⟨S.ok, m.1 _ S.x1, m.1 _ S.x2, t⟩
theorem Sg.ne1 (S : Sg X st cl n H) (h : H p = none) : p ≠ st := fun e => S.t.new h (e ▸ S.x1)
theorem Sg.ne2 (S : Sg X st cl n H) (h : H p = none) : p ≠ cl := fun e => S.t.new h (e ▸ S.x2)
theorem SpOk.put {o : HO} (h : SpOk st cl n H) (h1 : p ≠ st) (h2 : p ≠ cl) : SpOk st cl n (upd H p o) := by
  obtain ⟨ms, a, b, c, S, hb⟩ := h
  exact ⟨ms, a, b, c, ⟨by rw [upd_ne (Ne.symm h1)]; exact S.hs, by rw [upd_ne (Ne.symm h2)]; exact S.hc, S.ne, S.a0, S.b0, S.c0, S.c1, S.ml⟩, hb⟩
theorem Sg.put {o : HO} (S : Sg X st cl n H) (h1 : p ≠ st) (h2 : p ≠ cl) : Sg X st cl n (upd H p o) := ⟨S.ok.put h1 h2, S.x1, S.x2, S.t.put⟩
theorem _root_.KD.EnvOk.kps (E : EnvOk X H σ Γ) (S : Sg X st cl n H) (k : KpS st cl H H') : EnvOk X H' σ Γ := E.mono (S.kp k)
end
section
variable {σ : L2.St} {H : Hp} {te ta tb : TE} {D : Ends} {r : R2} {Q : VK} {g : TG} {tz : TS} {tt : TT} {tl : TA}
theorem k_ret (h : te σ H D.rt) : tRet te D σ H := h
theorem k_op (h : ta σ H fun x H1 => tb σ H1 fun y H2 => r x y H2 Q) : tOp r ta tb σ H Q := h
theorem k_set {i : Nat} (h : te σ H fun v H1 => tz D (σ.set i (some v)) H1) : tSeq (tAsg te (gName i)) tz D σ H := h
theorem k_asg (h : te σ H fun v H1 => g v σ H1 fun σ2 H2 => tz D σ2 H2) : tSeq (tAsg te g) tz D σ H := h
theorem k_yes {A B : Hp → Prop} (h : A H) : tYes σ H fun b H3 => if b = true then A H3 else B H3 := by
  show (if true = true then A H else B H)
  rw [if_pos rfl]
  exact h
theorem k_lcR {ta : TA} {us : List Nat} (h : ta σ H fun vs H1 => ∃ j : Int, vs = [.int j] ∧ -(2 ^ 62) ≤ j ∧ j < 2 ^ 62 ∧ tLc (fun _ H2 R => R (Itr 0 j.toNat) H2) g tt te us σ H1 Q) : tLc (iRng1 ta) g tt te us σ H Q := h
theorem k_cb {rr : List V → Hp → VK → Prop} (h : tl σ H fun vs H1 => rr vs H1 Q) : tCB rr tl σ H Q := h
theorem k_cons {Qa : List V → Hp → Prop} (h : te σ H fun v H1 => tl σ H1 fun vs H2 => Qa (v :: vs) H2) : tCons te tl σ H Qa := h
theorem k_par {i j : Nat} (h : ta σ H fun x H1 => tb σ H1 fun y H2 => ∃ v w, [x, y] = [v, w] ∧ tz D ((σ.set i (some v)).set j (some w)) H2) : tSeq (tPar i j (tCons ta (tCons tb tNil))) tz D σ H := h
end
theorem at_nat {ds : List PyData} {i : Int} (h0 : 0 ≤ i) (hj : i.toNat < ds.length) : atI ds i = some ds[i.toNat] := by
  unfold atI
  have e : ixN ds.length i = some i.toNat := by
    have h := Evl.ixN_nat hj
    rw [show ((i.toNat : Nat) : Int) = i from by omega] at h
    exact h
  rw [e]
  show ds[i.toNat]? = some _
  rw [List.getElem?_eq_getElem hj]
theorem seqIx_nat {i : Int} {n : Nat} (h0 : 0 ≤ i) (h1 : i.toNat < n) : seqIndex? i n = some i.toNat := by
  unfold seqIndex?
  have h : ¬ i < 0 := by omega
  have h2 : (decide (0 ≤ i) && decide (i < (n : Int))) = true := by
    rw [Bool.and_eq_true]
    exact ⟨decide_eq_true h0, decide_eq_true (by omega)⟩
  simp only [if_neg h]
  rw [if_pos h2]
theorem erase_perm {α : Type} : ∀ (l : List α) (i : Nat) (h : i < l.length), (l[i] :: l.eraseIdx i).Perm l
  | a :: l, 0, _ => List.Perm.refl _
  | a :: l, i + 1, h => (List.Perm.swap _ _ _).trans ((erase_perm l i (by simpa using h)).cons a)
/-- a draw -/
theorem c_draw {X : Addr → Prop} {st cl : Addr} {n : Nat} {H : Hp} {σ : L2.St} {ts tm : TE} {E : XK} {m : Int} {Q : VK} (S : Sg X st cl n H) (hv : GV ts σ H (.ref st)) (hm : G X tm σ H (.int m)) (hn : n ≤ 1000000000) (h0 : 0 < m) (h1 : m < 1000000)
    (k : ∀ i H', 0 ≤ i → i < m → Sg X st cl (n + 1) H' → KpS st cl H H' → Q (.int i) H') : tCall spDraw [] E (tCons ts (tCons tm tNil)) σ H Q :=
  hv H (Same.refl H) _ (hm H (Same.refl H) _ fun v H1 s1 r => ⟨st, cl, n, m, by rw [r.int_inv]; rfl, S.ok.same s1, hn, h0, h1, fun i H' i0 i1 kk so => k i H' i0 i1 ((S.same s1).step kk so) ((KpS.of s1).trans kk)⟩)
abbrev s__law_pick : Stmt := topS 43
abbrev n__law_pick : List Str := ["_law_stream", "_law_some"]
theorem sc__law_pick : FnScope n__law_pick ["_law_stream", "_law_some"] (defScope s__law_pick) := ⟨rfl, rfl, rfl, by decide +kernel, rfl, by decide +kernel, by decide +kernel⟩
def spPick : Sp := fun vs H Q _ => ∃ (X : Addr → Prop) (st cl : Addr) (n : Nat) (v : V) (ds : List PyData), vs = [.ref st, v] ∧ Sg X st cl n H ∧ n ≤ 1000000000 ∧ DX X H v (.list ds) ∧ 0 < ds.length ∧ ds.length < 1000000 ∧
  ∀ w d H', d ∈ ds → Sg X st cl (n + 1) H' → KpS st cl H H' → DX X H' w d → Q w H'
theorem ok_pick {f : Addr} {fd : FuncData} (F : Fun K "_law_pick" "_law_pick" s__law_pick f fd) (T : Bl mg) (O__law_draw : Own P w K mg base CX0 1 "_law_draw" ["_law_stream", "_law_many"] spDraw) : FnOk P w K mg base CX0 2 f fd ["_law_stream", "_law_some"] spPick := by
  refine F.ok sc__law_pick (fun vs H Q E h => ?_) (fun cdv A outer s H vs Q E hr h => ?_)
  · obtain ⟨X, st, cl, n, v, ds, rfl, _⟩ := h
    rfl
  · obtain ⟨X, st, cl, n, v, ds, rfl, S, hn, hd, h0, h1, k⟩ := h
    refine ⟨_, (pss_one (ps_ret (pe_ix ix_seq (pv 1) (pe_own O__law_draw hr (by decide) (by rfl) (pa_cons (pv 0) (pa_cons (pe_callB call_len (by rfl) T.b_len boot_len (pa_cons (pv 1) pa_nil)) pa_nil))) (fun _ _ => rfl)))), ?_⟩
    have En : EnvOk X H (L2.start n__law_pick [.ref st, v]) [.val (.ref st), .dat (.list ds)] := ⟨rfl, fun i s e => by
      match i, e with
      | 0, e => cases e; rfl
      | 1, e => cases e; exact ⟨_, rfl, hd⟩⟩
    refine k_ret (k_op (g_var (i := 1) En rfl H (Same.refl H) _ fun v1 H1 s1 r1 => ?_))
    refine c_draw (S.same s1) (gv_var (En.same s1) rfl) (g_len (S.t.mono s1) (g_var (En.same s1) rfl) rfl) hn (by show 0 < (ds.length : Int); omega) (by show (ds.length : Int) < 1000000; omega) fun i H' i0 i1 S2 k2 => ?_
    have i1 : i < (ds.length : Int) := i1
    have hj : i.toNat < ds.length := by omega
    refine rd_ixL (z := ds[i.toNat]) (at_nat (by omega) hj) H' v1 (.int i) S2.t (r1.mono ((S.same s1).kp k2)) (.int i) _ fun w2 H2 s2 dw => ?_
    exact k w2 _ H2 (List.getElem_mem _) (S2.same s2) (((KpS.of s1).trans k2).trans (KpS.of s2)) dw
theorem c_pick {X : Addr → Prop} {st cl : Addr} {n : Nat} {H : Hp} {σ : L2.St} {ts tm : TE} {E : XK} {ds : List PyData} {Q : VK} (S : Sg X st cl n H) (hv : GV ts σ H (.ref st)) (hm : G X tm σ H (.list ds)) (hn : n ≤ 1000000000) (h0 : 0 < ds.length) (h1 : ds.length < 1000000)
    (k : ∀ w d H', d ∈ ds → Sg X st cl (n + 1) H' → KpS st cl H H' → DX X H' w d → Q w H') : tCall spPick [] E (tCons ts (tCons tm tNil)) σ H Q :=
  hv H (Same.refl H) _ (hm H (Same.refl H) _ fun v H1 s1 r => ⟨X, st, cl, n, v, ds, rfl, S.same s1, hn, r, h0, h1, fun w d H' hd S2 kk dw => k w d H' hd S2 ((KpS.of s1).trans kk) dw⟩)
/-- some things drawn one after the other into a new list -/
theorem lc_draws {X : Addr → Prop} {st cl : Addr} {n : Nat} {H : Hp} {σ : L2.St} {Γ : List Sv} {te : TE} {i m : Nat} {Q : VK} (pr : PyData → Prop) (S : Sg X st cl n H) (En : EnvOk X H σ Γ) (hm : m ≤ 100000)
    (he : ∀ X' H1 σ2 k Q1, k < m → EnvOk X' H1 σ2 ((Γ.set i .un).set i (.dat (.int (k : Nat)))) → Sg X' st cl (n + k) H1 → (∀ w d H', pr d → Sg X' st cl (n + k + 1) H' → KpS st cl H1 H' → DX X' H' w d → Q1 w H') → te σ2 H1 Q1)
    (q : ∀ w ds H', ds.length = m → (∀ d ∈ ds, pr d) → Sg X st cl (n + m) H' → KpS st cl H H' → DX X H' w (.list ds) → Nw H w → Q w H') : tLc (fun σ H R => R (Itr 0 m) H) (gName i) tYes te [i] σ H Q := by
  intro D hD
  have m2 : More X (fun a => X a ∨ a = D) H := More.one hD
  have d1 := S.ne1 hD
  have d2 := S.ne2 hD
  obtain ⟨Gd, Y, w1, w2⟩ := walkD_range (X := X) (H := H) (lo := 0) (n := m)
  rw [rangeD_len] at w1
  have key : ∀ H3, Kp (fun a => X a ∨ a = D) H H3 ∧ Trk (fun a => X a ∨ a = D) H3 → Gd H3 := fun H3 p => (w2 _ m2.2 H3 p.1 p.2).1
  let I : Nat → Hp → Prop := fun k H3 => KpS st cl H H3 ∧ Sg (fun a => X a ∨ a = D) st cl (n + k) H3 ∧ ∃ acc ds, H3 D = some (.lst acc) ∧ DXs (fun a => X a ∨ a = D) H3 acc ds ∧ ds.length = k ∧ ∀ d ∈ ds, pr d
  have ik : ∀ {k H3}, I k H3 → Kp (fun a => X a ∨ a = D) H H3 ∧ Trk (fun a => X a ∨ a = D) H3 := fun {k H3} p => ⟨p.1.kp (.inl S.x1) (.inl S.x2), p.2.1.t⟩
  refine lc_it w1 I ?_ (fun i H3 _ p => key H3 (ik p)) ?_ ?_
  · exact ⟨KpS.of (Same.upd hD), ⟨(S.ok).same (Same.upd hD), .inl S.x1, .inl S.x2, S.t.one hD⟩, [], [], upd_same, .nil, rfl, fun d h => by cases h⟩
  · rintro k x H3 H4 hk p y
    obtain ⟨s4, d, hd, dx⟩ := (w2 _ m2.2 H3 (ik p).1 (ik p).2).2 k x H4 y
    obtain ⟨p1, p2, acc, ds, p3, p4, p5, p6⟩ := p
    rw [rangeD_get hk] at hd
    cases hd
    have S4 := p2.same s4
    have k4 : Kp (fun a => X a ∨ a = D) H H4 := (p1.kp (.inl S.x1) (.inl S.x2)).trans (Kp.of s4)
    refine tgt_name (X := X) (i := i) En _ H4 m2 k4 S4.t x dx _ fun σ2 E2 hw => ⟨hw, ?_⟩
    refine k_yes ?_
    rw [show (0 : Int) + (k : Int) = (k : Nat) from by omega] at E2
    refine he _ H4 σ2 k _ hk E2 S4 fun w d H5 hp S5 k5 dw => ?_
    refine ⟨acc, k5 D _ d1 d2 (s4 D _ p3), by rw [p4.length, p5, sizeLine_eq]; omega, ?_, ?_, acc ++ [w], ds ++ [d], upd_same, ?_, by rw [List.length_append, p5]; rfl, fun z hz => ?_⟩
    · exact fun a o n1 n2 e => by
        have := k5 a o n1 n2 (s4 a _ (p1 a o n1 n2 e))
        rw [upd_ne (ne_of_none e hD)]
        exact this
    · exact S5.put d1 d2
    · exact (((p4.mono (Kp.of s4)).mono (S4.kp k5)).snoc dw).mono (Kp.put (.inr rfl))
    · rcases List.mem_append.mp hz with h | h
      · exact p6 z h
      · rw [List.mem_singleton.mp h]
        exact hp
  · rintro H3 ⟨p1, p2, acc, ds, p3, p4, p5, p6⟩
    have nXD : ¬ X D := S.t.new hD
    exact q (.ref D) ds H3 p5 p6 ⟨p2.ok, S.x1, S.x2, fun a h => p2.t a (.inl h)⟩ p1 (.lst nXD p3 (p4.less fun a => .inl)) (Nw.of hD)
abbrev s__law_mixed : Stmt := topS 44
abbrev n__law_mixed : List Str := ["_law_stream", "_law_some", "_law_left", "_law_k"]
theorem sc__law_mixed : FnScope n__law_mixed ["_law_stream", "_law_some"] (defScope s__law_mixed) := ⟨rfl, rfl, rfl, by decide +kernel, rfl, by decide +kernel, by decide +kernel⟩
def spMixed : Sp := fun vs H Q _ => ∃ (X : Addr → Prop) (st cl : Addr) (n : Nat) (v : V) (ds : List PyData), vs = [.ref st, v] ∧ Sg X st cl n H ∧ n + ds.length ≤ 1000000000 ∧ DX X H v (.list ds) ∧ ds.length < 1000000 ∧
  ∀ w es H', es.Perm ds → Sg X st cl (n + ds.length) H' → KpS st cl H H' → DX X H' w (.list es) → Nw H w → Q w H'
theorem ok_mixed {f : Addr} {fd : FuncData} (F : Fun K "_law_mixed" "_law_mixed" s__law_mixed f fd) (T : Bl mg) (O__law_draw : Own P w K mg base CX0 1 "_law_draw" ["_law_stream", "_law_many"] spDraw) : FnOk P w K mg base CX0 2 f fd ["_law_stream", "_law_some"] spMixed := by
  refine F.ok sc__law_mixed (fun vs H Q E h => ?_) (fun cdv A outer s H vs Q E hr h => ?_)
  · obtain ⟨X, st, cl, n, v, ds, rfl, _⟩ := h
    rfl
  · obtain ⟨X, st, cl, n, v, ds, rfl, S, hn, hd, h1, k⟩ := h
    refine ⟨_, (pss_cons (ps_set (i := 2) sc__law_mixed.nd rfl (by first | exact Or.inl rfl | exact Or.inr rfl) (pe_callTy call_list_of (by rfl) T.b_list boot_list (pa_cons (pv 1) pa_nil)))
    (pss_one (ps_ret (pe_lc (own := [("_law_k", 3)]) (g := (gName 3)) (tt := tYes) (te := tBM K "list" rPopAt (tVar 2) (tCons (tCall spDraw [] E0 (tCons (tVar 0) (tCons (tCB (fun xs H Q => ∃ x n, xs = [x] ∧ LenV K x H n ∧ Q (V.int n) H) (tCons (tVar 2) tNil)) tNil))) tNil)) rfl sc__law_mixed.nd (pi_range1 (by rfl) T.b_range (pa_cons (pe_callB call_len (by rfl) T.b_len boot_len (pa_cons (pv 2) pa_nil)) pa_nil)) (blkOk_by (N := n__law_mixed) (sc := defScope s__law_mixed) (by decide +kernel)) (fun _ _ _ _ _ => (pg_name (i := 3) sc__law_mixed.nd rfl (by first | exact Or.inl rfl | exact Or.inr rfl))) (fun _ _ _ _ _ => pts_nil) (fun _ _ _ _ _ => (pe_bm PySem.F.plainAttrs_list PySem.F.slot_list_pop PySem.F.type_list_pop mt_popAt (pv 2) (pa_cons (pe_own O__law_draw hr (by decide) (by rfl) (pa_cons (pv 0) (pa_cons (pe_callB call_len (by rfl) T.b_len boot_len (pa_cons (pv 2) pa_nil)) pa_nil))) pa_nil))))))), ?_⟩
    have En : EnvOk X H (L2.start n__law_mixed [.ref st, v]) [.val (.ref st), .dat (.list ds), .un, .un] := ⟨rfl, fun i s e => by
      match i, e with
      | 0, e => cases e; rfl
      | 1, e => cases e; exact ⟨_, rfl, hd⟩
      | 2, e => cases e; trivial
      | 3, e => cases e; trivial⟩
    -- left = list(some)
    refine k_set (gn_listOf (d := .list ds) S.t (g_var (i := 1) En rfl) rfl H (Same.refl H) _ fun v1 H1 s1 d1 nw1 => ?_)
    obtain ⟨L, us, rfl, nL, eL, rL⟩ := d1.inner
    have hL : H L = none := nw1 L rfl
    have E1 := (((En.more (More.one hL)).same s1).setV (i := 2) (v := .ref L))
    have t1 : Trk (fun b => X b ∨ b = L) H1 := fun a h => h.elim (fun x => S.t.mono s1 a x) fun e => ⟨_, e ▸ eL⟩
    have S1 : Sg (fun b => X b ∨ b = L) st cl n H1 := ⟨S.ok.same s1, .inl S.x1, .inl S.x2, t1⟩
    have n1 := S.ne1 hL
    have n2 := S.ne2 hL
    -- range(len(left))
    refine k_ret ?_
    refine ⟨_, E1.get 2 _ rfl, ?_⟩
    have xl1 : us.length = ds.length := rL.length
    refine ⟨.ref L, us.length, rfl, .inl ⟨us, SqL.of eL, rfl⟩, ?_⟩
    refine ⟨_, rfl, by omega, by omega, ?_⟩
    rw [show (us.length : Int).toNat = ds.length from by omega]
    intro D hD
    have dL : D ≠ L := fun e => by rw [e, eL] at hD; cases hD
    let X1 : Addr → Prop := fun b => X b ∨ b = L
    let X2 : Addr → Prop := fun a => X1 a ∨ a = D
    have m2 : More X1 X2 H1 := More.one hD
    have d1 := S1.ne1 hD
    have d2 := S1.ne2 hD
    obtain ⟨Gd, Y, w1, w2⟩ := walkD_range (X := X1) (H := H1) (lo := 0) (n := ds.length)
    rw [rangeD_len] at w1
    let I : Nat → Hp → Prop := fun k H3 => (∀ a o, a ≠ st → a ≠ cl → a ≠ L → H1 a = some o → H3 a = some o) ∧ Sg X2 st cl (n + k) H3 ∧ ∃ acc es left xs, H3 D = some (.lst acc) ∧ DXs X2 H3 acc es ∧ H3 L = some (.lst xs) ∧ DXs X2 H3 xs left ∧ es.length = k ∧ (es ++ left).Perm ds
    have ik : ∀ {k H3}, I k H3 → Kp X2 H1 H3 ∧ Trk X2 H3 := fun {k H3} p => ⟨fun a o n e => p.1 a o (fun z => n (z ▸ .inl (.inl S.x1))) (fun z => n (z ▸ .inl (.inl S.x2))) (fun z => n (z ▸ .inl (.inr rfl))) e, p.2.1.t⟩
    refine lc_it w1 I ?_ (fun i H3 _ p => (w2 _ m2.2 H3 (ik p).1 (ik p).2).1) ?_ ?_
    · have sD : Same H1 (upd H1 D (.lst [])) := Same.upd hD
      exact ⟨fun a o _ _ _ e => sD a o e, ⟨S1.ok.same sD, .inl (.inl S.x1), .inl (.inl S.x2), t1.one hD⟩, [], [], ds, us, upd_same, .nil, sD _ _ eL, (rL.more m2).mono (Kp.of sD), rfl, List.Perm.refl _⟩
    · rintro j x H3 H4 hj p y
      obtain ⟨s4, d, hd4, dx⟩ := (w2 _ m2.2 H3 (ik p).1 (ik p).2).2 j x H4 y
      obtain ⟨p1, p2, acc, es, left, xs, p3, p4, p5, p6, p7, p8⟩ := p
      have S4 := p2.same s4
      refine tgt_name (X := X1) (i := 3) E1 _ H4 m2 ((ik ⟨p1, p2, acc, es, left, xs, p3, p4, p5, p6, p7, p8⟩).1.trans (Kp.of s4)) S4.t x dx _ fun σ2 E2 hw => ⟨hw, ?_⟩
      refine k_yes ?_
      have hL4 : H4 L = some (.lst xs) := s4 _ _ p5
      have r4 := p6.mono (Kp.of s4)
      have q4 := p4.mono (Kp.of s4)
      have lt0 : 0 < left.length := by
        have := p8.length_eq
        rw [List.length_append] at this
        omega
      have lt1 : left.length ≤ ds.length := by
        have := p8.length_eq
        rw [List.length_append] at this
        omega
      have lx : xs.length = left.length := r4.length
      refine ⟨_, E2.get 2 _ rfl, .inl ⟨rfl, _, SqL.of hL4⟩, ?_⟩
      refine k_cons (c_draw (m := (left.length : Nat)) S4 (gv_var (i := 0) E2 rfl) ?_ (by omega) (by omega) (by omega) fun i H5 i0 i1 S5 k5 => ?_)
      · intro H5 s5 Q5 q5
        refine ⟨_, E2.get 2 _ rfl, ?_⟩
        refine ⟨.ref L, xs.length, rfl, .inl ⟨xs, SqL.of (s5 _ _ hL4), rfl⟩, ?_⟩
        rw [lx]
        exact q5 _ H5 (Same.refl _) (.int _)
      · have hL5 : H5 L = some (.lst xs) := k5 L _ n1 n2 hL4
        have r5 := r4.mono (S4.kp k5)
        have q5 := q4.mono (S4.kp k5)
        have hi : i.toNat < left.length := by omega
        have hx : i.toNat < xs.length := by omega
        obtain ⟨y, hy, ry⟩ := r5.get (i := i.toNat) (d := left[i.toNat]) (List.getElem?_eq_getElem hi)
        refine ⟨L, xs, i, i.toNat, y, rfl, rfl, hL5, by omega, by omega, ?_, hy, ?_⟩
        · exact seqIx_nat i0 hx
        · have kL : Kp X2 H5 (upd H5 L (.lst (xs.eraseIdx i.toNat))) := Kp.put (.inl (.inr rfl))
          have nD : H5 D = some (.lst acc) := k5 D _ d1 d2 (s4 D _ p3)
          refine ⟨acc, by rw [upd_ne dL]; exact nD, by rw [p4.length, p7, sizeLine_eq]; omega, ?_, ?_, acc ++ [y], es ++ [left[i.toNat]], left.eraseIdx i.toNat, xs.eraseIdx i.toNat, upd_same, ?_, by rw [upd_ne (Ne.symm dL)]; exact upd_same, ?_, by rw [List.length_append, p7]; rfl, ?_⟩
          · intro a o a1 a2 a3 e
            rw [upd_ne (ne_of_none e hD), upd_ne a3]
            exact k5 a o a1 a2 (s4 a _ (p1 a o a1 a2 a3 e))
          · exact (S5.put n1 n2).put d1 d2
          · exact ((q5.snoc ry).mono kL).mono (Kp.put (.inr rfl))
          · exact ((r5.erase i.toNat).mono kL).mono (Kp.put (.inr rfl))
          · rw [List.append_assoc]
            refine List.Perm.trans (List.Perm.append_left es ?_) p8
            exact erase_perm left i.toNat hi
    · rintro H3 ⟨p1, p2, acc, es, left, xs, p3, p4, p5, p6, p7, p8⟩
      have nXD : ¬ X D := t1.new hD ∘ .inl
      have le : left = [] := by
        have := p8.length_eq
        rw [List.length_append] at this
        exact List.eq_nil_of_length_eq_zero (by omega)
      subst le
      rw [List.append_nil] at p8
      exact k (.ref D) es H3 p8 ⟨p2.ok, S.x1, S.x2, fun a h => p2.t a (.inl (.inl h))⟩ (fun a o n3 n4 e => p1 a o n3 n4 (ne_of_none e hL) (s1 a o e)) (.lst nXD p3 (p4.less fun a h => .inl (.inl h))) (fun a e => by cases e; exact s1.free hD)
end K80

namespace K80
open PySem PySem.Spec PyProof.Rows L2 KD
variable {P : Program} {w : World} {K : PySem.W.Frag} {mg : Str → Option Value} {base : Heap}
/-! ### leaves -/
def leaf : PyData → Bool
  | .none => true
  | .bool _ => true
  | .int _ => true
  | .str s => PyData.strOk s
  | _ => false
theorem canLay_leaf : ∀ {ds : List PyData}, (∀ d ∈ ds, leaf d = true) → PyData.canLayAll0 ds = true
  | [], _ => by simp [PyData.canLayAll0]
  | d :: ds, h => by
    have h1 := h d List.mem_cons_self
    have h2 := canLay_leaf fun z hz => h z (List.mem_cons_of_mem _ hz)
    cases d <;> simp_all [PyData.canLayAll0, PyData.canLay0, leaf]
theorem depth_leaf : ∀ {ds : List PyData}, (∀ d ∈ ds, leaf d = true) → PyData.depthAll ds ≤ 1
  | [], _ => by simp [PyData.depthAll]
  | d :: ds, h => by
    have h1 := h d List.mem_cons_self
    have h2 := depth_leaf fun z hz => h z (List.mem_cons_of_mem _ hz)
    cases d <;> simp_all [PyData.depthAll, PyData.depth, leaf]
theorem shaped_leaf {d : PyData} (h : leaf d = true) : SeqAt.shaped d = true := by
  cases d <;> simp_all [SeqAt.shaped, PyData.canLay0, PyData.depth, leaf]
theorem shaped_leafs {ds : List PyData} (h : ∀ d ∈ ds, leaf d = true) : SeqAt.shaped (.list ds) = true := by
  have := depth_leaf h
  have h2 : PyData.depth (.list ds) ≤ 64 := by
    simp only [PyData.depth]
    omega
  show ((PyData.list ds).canLay0 && decide ((PyData.list ds).depth ≤ 64)) = true
  rw [Bool.and_eq_true]
  exact ⟨by simp only [PyData.canLay0]; exact canLay_leaf h, decide_eq_true h2⟩
theorem noDict_leaf {d : PyData} (h : leaf d = true) : noDict d = true := by cases d <;> first | rfl | cases h
theorem noDicts_leaf : ∀ {ds : List PyData}, (∀ d ∈ ds, leaf d = true) → noDicts ds = true
  | [], _ => by simp [noDicts]
  | d :: ds, h => by
    have h1 := noDict_leaf (h d List.mem_cons_self)
    have h2 := noDicts_leaf fun z hz => h z (List.mem_cons_of_mem _ hz)
    simp [noDicts, h1, h2]
theorem rb_inD {X : Addr → Prop} {d : PyData} {ds : List PyData} (h : leaf d = true) (hs : ∀ z ∈ ds, leaf z = true) : RB X (rInD K) d (.list ds) (ds.any fun z => PyData.eqv z d) := fun H u v _ ru rv Q q => ⟨d, ds, ru.dp (noDict_leaf h), rv.dp (by show noDicts ds = true; exact noDicts_leaf hs), shaped_leaf h, shaped_leafs hs, q⟩
def letters : List Str := ["a", "b", "c", "d e", "", "a"]
def spText : Sp := fun vs H Q _ => ∃ (X : Addr → Prop) (st cl : Addr) (n m : Nat), vs = [.ref st, .int m] ∧ Sg X st cl n H ∧ n + m ≤ 1000000000 ∧ m ≤ 1000 ∧
  ∀ w ws H', ws.length = m → (∀ z ∈ ws, z ∈ letters) → Sg X st cl (n + m) H' → KpS st cl H H' → DX X H' w (wsD ws) → Nw H w → Q w H'
theorem strs_of {L : List Str} : ∀ {ds : List PyData}, (∀ d ∈ ds, d ∈ L.map PyData.str) → ∃ ws : List Str, ds = ws.map PyData.str ∧ ∀ z ∈ ws, z ∈ L
  | [], _ => ⟨[], rfl, fun z h => by cases h⟩
  | d :: ds, h => by
    obtain ⟨s, hs, rfl⟩ := List.mem_map.mp (h d List.mem_cons_self)
    obtain ⟨ws, rfl, hw⟩ := strs_of fun z hz => h z (List.mem_cons_of_mem _ hz)
    exact ⟨s :: ws, rfl, fun z hz => (List.mem_cons.mp hz).elim (fun e => e ▸ hs) (hw z)⟩
theorem env_sv {X : Addr → Prop} {H : Hp} {N : List Str} {vs : List V} {ss : List Sv} (hl : vs.length = ss.length) (hs : ∀ (i : Nat) (s : Sv), ss[i]? = some s → ∀ v, vs[i]? = some v → SvOk X H s (some (some v))) (hN : vs.length ≤ N.length) : EnvOk X H (L2.start N vs) (pad N ss) := by
  unfold pad
  rw [← hl]
  exact envOk_start hl hs hN
theorem env_s1 {X : Addr → Prop} {H : Hp} {N : List Str} {st : Addr} {v : V} {s : Sv} (h : SvOk X H s (some (some v))) (hN : 2 ≤ N.length) : EnvOk X H (L2.start N [.ref st, v]) (pad N [.val (.ref st), s]) :=
  env_sv rfl (fun i s e u e2 => by
    match i, e, e2 with
    | 0, e, e2 => cases e; cases e2; rfl
    | 1, e, e2 => cases e; cases e2; exact h) hN
theorem env_s2 {X : Addr → Prop} {H : Hp} {N : List Str} {st : Addr} {v v2 : V} {s s2 : Sv} (h : SvOk X H s (some (some v))) (h2 : SvOk X H s2 (some (some v2))) (hN : 3 ≤ N.length) : EnvOk X H (L2.start N [.ref st, v, v2]) (pad N [.val (.ref st), s, s2]) :=
  env_sv rfl (fun i s e u e2 => by
    match i, e, e2 with
    | 0, e, e2 => cases e; cases e2; rfl
    | 1, e, e2 => cases e; cases e2; exact h
    | 2, e, e2 => cases e; cases e2; exact h2) hN
theorem ga_strs {X : Addr → Prop} {σ : L2.St} {H : Hp} : ∀ L : List Str, GA X (L.foldr (fun s t => tCons (tC (.str s)) t) tNil) σ H (L.map PyData.str)
  | [] => ga_nil
  | s :: L => ga_cons g_str (ga_strs L)
end K80

/-! Whether two things are the same. -/
namespace K80
open PySem PySem.Spec PyProof.Rows L2 KD
variable {P : Program} {w : World} {K : PySem.W.Frag} {mg : Str → Option Value} {base : Heap}
theorem walk_zipT {a b : Addr} {xs ys : List V} {n : Nat} (hn : n = min xs.length ys.length) : Walk (RZ.ItzT K a b) n (fun H => SqT K H a xs ∧ SqT K H b ys) (YPair (fun i => xs[i]?) (fun i => ys[i]?)) := by
  subst hn
  refine ⟨fun i _ hi q => ?_, fun _ q => ⟨xs, ys, q.1, q.2, by omega⟩, fun i H v H' _ q y => ?_⟩
  · have h1 : i < xs.length := by omega
    have h2 : i < ys.length := by omega
    exact ⟨xs, ys, xs[i], ys[i], q.1, q.2, by simp [h1], by simp [h2]⟩
  · obtain ⟨T, x, z, h1, h2, h3, h4, h5⟩ := y
    exact ⟨T, x, z, h1, h2, h3, h4 xs q.1, h5 ys q.2⟩
theorem gi_zipT {X : Addr → Prop} {H : Hp} {σ : L2.St} {te tb : TE} {ds es : List PyData} (h : G X te σ H (.tuple ds)) (h' : G X tb σ H (.tuple es)) : GI X (RZ.iZipA K (tCons te (tCons tb tNil))) σ H (zipD ds es) := fun H1 s R r => h H1 s _ fun v H2 s2 rv => h' H2 (s.trans s2) _ fun w H3 s3 rw_ => by
  obtain ⟨a, xs, rfl, n, e, rx⟩ := (rv.mono (Kp.of s3)).tup_inv
  obtain ⟨b, ys, rfl, n2, e2, ry⟩ := rw_.tup_inv
  refine ⟨a, b, xs, ys, rfl, .inr ⟨SqT.of e, SqT.of e2, r _ H3 (s2.trans s3) ⟨_, _, walk_zipT (xs := xs) (ys := ys) (by simp [zipD, rx.length, ry.length]), fun X' m H4 k t => ?_⟩⟩⟩
  have n' : ¬ X' a := fun z => (m a z).elim n fun q => by rw [e] at q; cases q
  have n2' : ¬ X' b := fun z => (m b z).elim n2 fun q => by rw [e2] at q; cases q
  refine ⟨⟨SqT.of (k a _ n' e), SqT.of (k b _ n2' e2)⟩, fun i x H5 y => ?_⟩
  obtain ⟨T, u, w, rfl, hT, rfl, hu, hw⟩ := y
  obtain ⟨d, h1, h2⟩ := rx.getV hu
  obtain ⟨d', h3, h4⟩ := ry.getV hw
  refine ⟨Same.upd hT, .tuple [d, d'], ?_, DX.newT t (.cons ((h2.grow m).mono k) (.cons ((h4.grow m).mono k) .nil)) hT⟩
  unfold zipD
  rw [List.getElem?_zipWith, h1, h3]
theorem gi_zipL {X : Addr → Prop} {H : Hp} {σ : L2.St} {te tb : TE} {ds es : List PyData} (h : G X te σ H (.list ds)) (h' : G X tb σ H (.list es)) : GI X (RZ.iZipA K (tCons te (tCons tb tNil))) σ H (zipD ds es) := fun H1 s R r => h H1 s _ fun v H2 s2 rv => h' H2 (s.trans s2) _ fun w H3 s3 rw_ => by
  obtain ⟨a, xs, rfl, n, e, rx⟩ := (rv.mono (Kp.of s3)).lst_inv
  obtain ⟨b, ys, rfl, n2, e2, ry⟩ := rw_.lst_inv
  refine ⟨a, b, xs, ys, rfl, .inl ⟨SqL.of e, SqL.of e2, r _ H3 (s2.trans s3) ⟨_, _, walk_zip (xs := xs) (ys := ys) (by simp [zipD, rx.length, ry.length]), fun X' m H4 k t => ?_⟩⟩⟩
  have n' : ¬ X' a := fun z => (m a z).elim n fun q => by rw [e] at q; cases q
  have n2' : ¬ X' b := fun z => (m b z).elim n2 fun q => by rw [e2] at q; cases q
  refine ⟨⟨SqL.of (k a _ n' e), SqL.of (k b _ n2' e2)⟩, fun i x H5 y => ?_⟩
  obtain ⟨T, u, w, rfl, hT, rfl, hu, hw⟩ := y
  obtain ⟨d, h1, h2⟩ := rx.getV hu
  obtain ⟨d', h3, h4⟩ := ry.getV hw
  refine ⟨Same.upd hT, .tuple [d, d'], ?_, DX.newT t (.cons ((h2.grow m).mono k) (.cons ((h4.grow m).mono k) .nil)) hT⟩
  unfold zipD
  rw [List.getElem?_zipWith, h1, h3]
/-- so deep at most, leaves below -/
def sm : Nat → PyData → Prop
  | 0, d => leaf d = true
  | n + 1, .list ds => ds.length ≤ 100000 ∧ ∀ z ∈ ds, sm n z
  | n + 1, .tuple ds => ds.length ≤ 100000 ∧ ∀ z ∈ ds, sm n z
  | _ + 1, d => leaf d = true
def spSame (n : Nat) : Sp := fun vs H Q _ => ∃ (X : Addr → Prop) (v1 v2 : V) (d : PyData), vs = [v1, v2] ∧ Trk X H ∧ DX X H v1 d ∧ DX X H v2 d ∧ sm n d ∧ ∀ H', Same H H' → Q (.bl true) H'
def spPrev : Nat → Sp
  | 0 => fun _ _ _ _ => False
  | n + 1 => spSame n
theorem eqv_leaf {d : PyData} (h : leaf d = true) : PyData.eqv d d = true := by
  cases d <;> simp_all [PyData.eqv, leaf]
-- HINT _law_same never return isinstance(_law_found, dict)
-- HINT _law_same le (Nat.le_refl _)
-- HINT _law_same zip RZ.pi_zipA
abbrev s__law_same : Stmt := topS 45
abbrev n__law_same : List Str := ["_law_found", "_law_due", "_law_x", "_law_y"]
theorem sc__law_same : FnScope n__law_same ["_law_found", "_law_due"] (defScope s__law_same) := ⟨rfl, rfl, rfl, by decide +kernel, rfl, by decide +kernel, by decide +kernel⟩
theorem ok_same_body {f : Addr} {fd : FuncData} {n : Nat} (F : Fun K "_law_same" "_law_same" s__law_same f fd) (T : Bl mg) (O__law_same : Own P w K mg base CX0 (n + 1) "_law_same" ["_law_found", "_law_due"] (spPrev n)) : FnOk P w K mg base CX0 (n + 2) f fd ["_law_found", "_law_due"] (spSame n) := by
  refine F.ok sc__law_same (fun vs H Q E h => ?_) (fun cdv A outer s H vs Q E hr h => ?_)
  · obtain ⟨X, v1, v2, d, rfl, _⟩ := h
    rfl
  · obtain ⟨X, v1, v2, d, rfl, t, d1, d2, hs, k⟩ := h
    refine ⟨_, (pss_cons (ps_if (pt_val (pe_callB call_isiT (by rfl) T.b_isinstance boot_isinstance (pa_cons (pv 1) (pa_cons (pe_tup (pa_cons (pe_bltn (v := .ty "list") (by rfl) T.b_list boot_list rfl) (pa_cons (pe_bltn (v := .ty "tuple") (by rfl) T.b_tuple boot_tuple rfl) pa_nil))) pa_nil))))
    (pss_cons (ps_if (PW.pt (pw_or (pt_cmpR (op_neD hr.units) (pe_callB call_isi (by rfl) T.b_isinstance boot_isinstance (pa_cons (pv 0) (pa_cons (pe_bltn (v := .ty "list") (by rfl) T.b_list boot_list rfl) pa_nil))) (pe_callB call_isi (by rfl) T.b_isinstance boot_isinstance (pa_cons (pv 1) (pa_cons (pe_bltn (v := .ty "list") (by rfl) T.b_list boot_list rfl) pa_nil))) (nomark _)) (pw_or1 (pt_cmpR (op_neD hr.units) (pe_callB call_isi (by rfl) T.b_isinstance boot_isinstance (pa_cons (pv 0) (pa_cons (pe_bltn (v := .ty "tuple") (by rfl) T.b_tuple boot_tuple rfl) pa_nil))) (pe_callB call_isi (by rfl) T.b_isinstance boot_isinstance (pa_cons (pv 1) (pa_cons (pe_bltn (v := .ty "tuple") (by rfl) T.b_tuple boot_tuple rfl) pa_nil))) (nomark _)))))
    (pss_one (ps_ret pe_bl)) pss_nil)
    (pss_one (ps_ret (pe_and (pe_cmpR (op_eqD hr.units) (pe_callB call_len (by rfl) T.b_len boot_len (pa_cons (pv 0) pa_nil)) (pe_callB call_len (by rfl) T.b_len boot_len (pa_cons (pv 1) pa_nil)) (nomark _)) (pe_one (pe_callB (cr_all rfl) (by rfl) T.b_all boot_all (pa_cons (pe_lc (own := [("_law_x", 2), ("_law_y", 3)]) (g := (gTup K 2 (gCons (gName 2) (gCons (gName 3) gNil)))) (tt := tYes) rfl sc__law_same.nd (RZ.pi_zipA (by rfl) T.b_zip (pa_cons (pv 0) (pa_cons (pv 1) pa_nil))) (blkOk_by (N := n__law_same) (sc := defScope s__law_same) (by decide +kernel)) (fun _ _ _ _ _ => (pg_tup (n := 2) rfl (pgs_cons (pg_name (i := 2) sc__law_same.nd rfl (by first | exact Or.inl rfl | exact Or.inr rfl)) (pgs_cons (pg_name (i := 3) sc__law_same.nd rfl (by first | exact Or.inl rfl | exact Or.inr rfl)) pgs_nil)))) (fun _ _ _ _ _ => pts_nil) (fun _ _ _ _ _ => (pe_own O__law_same hr (Nat.le_refl _) (by rfl) (pa_cons (pv 2) (pa_cons (pv 3) pa_nil))))) pa_nil))))))) pss_nil)
    (pss_cons (ps_if (pt_val (pe_callB call_isi (by rfl) T.b_isinstance boot_isinstance (pa_cons (pv 1) (pa_cons (pe_bltn (v := .ty "dict") (by rfl) T.b_dict boot_dict rfl) pa_nil))))
    (pss_one ps_never) pss_nil)
    (pss_cons (ps_if (pt_val (pe_callB call_isi (by rfl) T.b_isinstance boot_isinstance (pa_cons (pv 1) (pa_cons (pe_bltn (v := .ty "int") (by rfl) T.b_int boot_int rfl) pa_nil))))
    (pss_one (ps_ret (pe_and (pe_callB call_isi (by rfl) T.b_isinstance boot_isinstance (pa_cons (pv 0) (pa_cons (pe_bltn (v := .ty "int") (by rfl) T.b_int boot_int rfl) pa_nil))) (pe_and (pe_cmpR (op_eqD hr.units) (pe_callB call_isi (by rfl) T.b_isinstance boot_isinstance (pa_cons (pv 0) (pa_cons (pe_bltn (v := .ty "bool") (by rfl) T.b_bool boot_bool rfl) pa_nil))) (pe_callB call_isi (by rfl) T.b_isinstance boot_isinstance (pa_cons (pv 1) (pa_cons (pe_bltn (v := .ty "bool") (by rfl) T.b_bool boot_bool rfl) pa_nil))) (nomark _)) (pe_one (pe_cmpR (op_eqD hr.units) (pv 0) (pv 1) (nomark _))))))) pss_nil)
    (pss_one (ps_ret (pe_and (pe_not (pe_callB call_isiT (by rfl) T.b_isinstance boot_isinstance (pa_cons (pv 0) (pa_cons (pe_tup (pa_cons (pe_bltn (v := .ty "int") (by rfl) T.b_int boot_int rfl) (pa_cons (pe_bltn (v := .ty "list") (by rfl) T.b_list boot_list rfl) (pa_cons (pe_bltn (v := .ty "tuple") (by rfl) T.b_tuple boot_tuple rfl) (pa_cons (pe_bltn (v := .ty "dict") (by rfl) T.b_dict boot_dict rfl) pa_nil))))) pa_nil)))) (pe_one (pe_cmpR (op_eqD hr.units) (pv 0) (pv 1) (nomark _))))))))), ?_⟩
    have En : EnvOk X H (L2.start n__law_same [v1, v2]) (pad n__law_same [.dat d, .dat d]) := env2 d1 d2 (by decide)
    have b1 : PyData.eqv (.bool true) (.bool true) = true := by simp [PyData.eqv]
    have eqb : ∀ b : Bool, PyData.eqv (.bool b) (.bool b) = true := fun b => by simp [PyData.eqv]
    have shb : ∀ b : Bool, SeqAt.shaped (.bool b) = true := fun b => shaped_leaf rfl
    have ndb : ∀ b : Bool, noDict (.bool b) = true := fun b => by simp [noDict]
    refine q_if (gt_B (g_isSeq (g_var (i := 1) En rfl))) (fun hb H1 s1 => ?_) (fun hb H1 s1 => ?_)
    · -- a list or a tuple
      have E1 := En.same s1
      have t1 := t.mono s1
      refine q_if (b := false) (gt_is (gt_or (b := !PyData.eqv (.bool (isa_tuple d)) (.bool (isa_tuple d))) (gt_neD t1 (g_isList (g_var (i := 0) E1 rfl)) (g_isList (g_var (i := 1) E1 rfl)) (ndb _) (ndb _) (shb _) (shb _)) fun _ => gt_neD t1 (g_isTuple (g_var (i := 0) E1 rfl)) (g_isTuple (g_var (i := 1) E1 rfl)) (ndb _) (ndb _) (shb _) (shb _)) (by rw [eqb, eqb]; rfl)) (fun h => by cases h) fun _ H2 s2 => ?_
      have E2 := E1.same s2
      have t2 := t1.mono s2
      have hln : ∀ i : Int, PyData.eqv (.int i) (.int i) = true := fun i => by rw [eqv_int]; simp
      have core : ∀ (m : Nat) (te : TE) (wi : TI) (ds : List PyData), ds.length ≤ 100000 → (∀ z ∈ ds, sm m z) → GI X wi (L2.start n__law_same [v1, v2]) H2 (zipD ds ds) → te = tCall (spSame m) [] E0 (tCons (tVar 2) (tCons (tVar 3) tNil)) → G X (tCB (rAll K) (tCons (tLc wi (gTup K 2 (gCons (gName 2) (gCons (gName 3) gNil))) tYes te [2, 3]) tNil)) (L2.start n__law_same [v1, v2]) H2 (.bool true) := fun m te wi ds hl hz hi hte => by
        subst hte
        have hzip : ∀ p ∈ zipD ds ds, ∃ z ∈ ds, p = .tuple [z, z] := fun p hp => by
          obtain ⟨i, hi, he⟩ := List.mem_iff_getElem.mp hp
          unfold zipD at he hi
          rw [List.length_zipWith] at hi
          rw [List.getElem_zipWith] at he
          exact ⟨_, List.getElem_mem (by omega), he.symm⟩
        refine g_is (g_cb (ds := [.list (((zipD ds ds).map fun _ => true).map PyData.bool)]) t2 (ga_cons (g_is (g_lc1 (ds := zipD ds ds) (Γ2 := fun p => ((((pad n__law_same [.dat d, .dat d]).set 3 .un).set 2 .un).set 2 (.dat (it p 0))).set 3 (.dat (it p 1))) (fun _ => .bool true) t2 hi (by unfold zipD; rw [List.length_zipWith]; omega) (fun H3 s3 p hp => ?_) (fun X' H3 σ2 p hp t3 E3 => ?_)) (by rw [List.map_map]; rfl)) ga_nil) rf_all) (by rw [List.all_map]; simp)
        · obtain ⟨z, hzm, rfl⟩ := hzip p hp
          exact tgt_pair (E2.same s3) (by decide)
        · obtain ⟨z, hzm, rfl⟩ := hzip p hp
          intro H4 s4 Q4 q4
          refine g_var (i := 2) E3 rfl H4 s4 _ fun u H5 s5 r5 => g_var (i := 3) (E3.same (s4.trans s5)) rfl H5 (Same.refl _) _ fun u2 H6 s6 r6 => ?_
          exact ⟨X', u, u2, z, rfl, t3.mono ((s4.trans s5).trans s6), r5.mono (Kp.of s6), r6, hz z hzm, fun H7 s7 => q4 _ H7 ((s5.trans s6).trans s7) (.bl true)⟩
      cases n with
      | zero => cases d with
        | list ds => exact absurd hs (by simp [sm, leaf])
        | tuple ds => exact absurd hs (by simp [sm, leaf])
        | _ => cases hb
      | succ m =>
        cases d with
        | list ds =>
          obtain ⟨hl, hz⟩ := hs
          exact s_ret (X := X) (d := .bool true) (g_is (g_and (b := true) (g_eqD t2 (g_len t2 (g_var (i := 0) E2 rfl) rfl) (g_len t2 (g_var (i := 1) E2 rfl) rfl) rfl rfl (shaped_int _) (shaped_int _)) fun _ => core m _ _ ds hl hz (gi_zipL (g_var (i := 0) E2 rfl) (g_var (i := 1) E2 rfl)) rfl) (by rw [hln]; rfl)) fun w H' s' dw => by rw [dw.bl_inv]; exact k H' ((s1.trans s2).trans s')
        | tuple ds =>
          obtain ⟨hl, hz⟩ := hs
          exact s_ret (X := X) (d := .bool true) (g_is (g_and (b := true) (g_eqD t2 (g_len t2 (g_var (i := 0) E2 rfl) rfl) (g_len t2 (g_var (i := 1) E2 rfl) rfl) rfl rfl (shaped_int _) (shaped_int _)) fun _ => core m _ _ ds hl hz (gi_zipT (g_var (i := 0) E2 rfl) (g_var (i := 1) E2 rfl)) rfl) (by rw [hln]; rfl)) fun w H' s' dw => by rw [dw.bl_inv]; exact k H' ((s1.trans s2).trans s')
        | _ => cases hb
    · -- a leaf
      have hlf : leaf d = true := by
        cases n with
        | zero => exact hs
        | succ m => cases d <;> first | exact hs | cases hb
      have E1 := En.same s1
      have t1 := t.mono s1
      refine q_if (b := false) (gt_is (gt_B (g_isDict (g_var (i := 1) E1 rfl))) (by cases d <;> first | rfl | cases hlf)) (fun h => by cases h) fun _ H2 s2 => ?_
      have E2 := E1.same s2
      have t2 := t1.mono s2
      refine q_if (gt_B (g_isInt (g_var (i := 1) E2 rfl))) (fun hi H3 s3 => ?_) (fun hi H3 s3 => ?_)
      · have E3 := E2.same s3
        have t3 := t2.mono s3
        refine s_ret (X := X) (d := .bool true) (g_is (g_and (b := PyData.eqv (.bool (isa_bool d)) (.bool (isa_bool d)) && PyData.eqv d d) (g_isInt (g_var (i := 0) E3 rfl)) fun _ => g_and (g_eqD t3 (g_isBool (g_var (i := 0) E3 rfl)) (g_isBool (g_var (i := 1) E3 rfl)) (ndb _) (ndb _) (shb _) (shb _)) fun _ => g_eqD t3 (g_var (i := 0) E3 rfl) (g_var (i := 1) E3 rfl) (noDict_leaf hlf) (noDict_leaf hlf) (shaped_leaf hlf) (shaped_leaf hlf)) (by rw [hi, eqb, eqv_leaf hlf]; rfl)) fun w H' s' dw => by rw [dw.bl_inv]; exact k H' (((s1.trans s2).trans s3).trans s')
      · have E3 := E2.same s3
        have t3 := t2.mono s3
        refine s_ret (X := X) (d := .bool true) (g_is (g_and (b := PyData.eqv d d) (g_not (g_isiT (ns := ["int", "list", "tuple", "dict"]) (g_var (i := 0) E3 rfl) rfl (by decide) ?_)) fun _ => g_eqD t3 (g_var (i := 0) E3 rfl) (g_var (i := 1) E3 rfl) (noDict_leaf hlf) (noDict_leaf hlf) (shaped_leaf hlf) (shaped_leaf hlf)) ?_) fun w H' s' dw => by rw [dw.bl_inv]; exact k H' (((s1.trans s2).trans s3).trans s')
        · intro n hn
          simp at hn
          rcases hn with rfl | rfl | rfl | rfl
          · exact ksm_int d
          · exact ksm_list d
          · exact ksm_tuple d
          · exact ksm_dict d
        · have e : isDs ["int", "list", "tuple", "dict"] d = false := by
            unfold isDs
            rw [List.any_cons, List.any_cons, List.any_cons, List.any_cons, List.any_nil, isD_int, isD_list, isD_tuple, isD_dict, hi]
            cases d <;> first | rfl | cases hlf
          rw [e, eqv_leaf hlf]
          rfl
theorem ok_same {f : Addr} {fd : FuncData} (F : Fun K "_law_same" "_law_same" s__law_same f fd) (T : Bl mg) (h1 : mg "_law_same" = some (.ref f)) (h2 : PySem.W.keepIn K (.ref f) = true) (h3 : Binds K fd ["_law_found", "_law_due"] []) : ∀ n : Nat, FnOk P w K mg base CX0 (n + 2) f fd ["_law_found", "_law_due"] (spSame n)
  | 0 => ok_same_body F T ⟨f, fd, h1, h2, h3, F.ok (k := 0) sc__law_same (fun _ _ _ _ h => h.elim) (fun _ _ _ _ _ _ _ _ _ h => h.elim)⟩
  | n + 1 => ok_same_body F T ⟨f, fd, h1, h2, h3, ok_same F T h1 h2 h3 n⟩
end K80

/-! Lists of one's own. -/
namespace K80
open PySem PySem.Spec PyProof.Rows L2 KD
variable {P : Program} {w : World} {K : PySem.W.Frag} {mg : Str → Option Value} {base : Heap}
/-! ### a list of one's own that is made longer -/
section
variable {X : Addr → Prop} {σ : L2.St} {H : Hp} {te : TE} {Γ : List Sv} {D : Ends} {tz : TS} {L : Addr} {xs : List V} {ds es : List PyData} {d : PyData} {i : Nat}
/-- all but L stays -/
def KpL (L : Addr) (H H' : Hp) : Prop := ∀ a o, a ≠ L → H a = some o → H' a = some o
theorem KpL.of (s : Same H H') : KpL L H H' := fun a o _ e => s a o e
theorem KpL.trans {H H1 H2 : Hp} (h : KpL L H H1) (k : KpL L H1 H2) : KpL L H H2 := fun a o n e => k a o n (h a o n e)
theorem KpL.put {o : HO} : KpL L H (upd H L o) := fun a u n e => by rw [upd_ne n]; exact e
theorem q_extend (En : EnvOk X H σ Γ) (hi : Γ[i]? = some (.val (.ref L))) (x : X L) (t : Trk X H) (hL : H L = some (.lst xs)) (hx : DXs X H xs ds) (h : G X te σ H (.list es)) (hl : ds.length + es.length ≤ 1000000)
    (k : ∀ H2 ys, H2 L = some (.lst ys) → DXs X H2 ys (ds ++ es) → EnvOk X H2 σ Γ → Trk X H2 → KpL L H H2 → tz D σ H2) : tSeq (tDrop (tBM K "list" rExtend (tVar i) (tCons te tNil))) tz D σ H := by
  refine ⟨.ref L, En.get i _ hi, .inl ⟨rfl, _, SqL.of hL⟩, ?_⟩
  refine h H (Same.refl H) _ fun v H1 s1 dv => ?_
  obtain ⟨b, zs, rfl, nb, hb, hz⟩ := dv.lst_inv
  have hL1 := s1 _ _ hL
  have e1 : xs.length = ds.length := hx.length
  have e2 : zs.length = es.length := hz.length
  refine ⟨L, b, xs, zs, rfl, rfl, hL1, hb, by rw [sizeLine_eq]; omega, ?_⟩
  have kp : Kp X H1 (upd H1 L (.lst (xs ++ zs))) := Kp.put x
  exact k _ _ upd_same (((hx.mono (Kp.of s1)).append hz).mono kp) ((En.same s1).mono kp) ((t.mono s1).put) ((KpL.of s1).trans KpL.put)
theorem q_append (En : EnvOk X H σ Γ) (hi : Γ[i]? = some (.val (.ref L))) (x : X L) (t : Trk X H) (hL : H L = some (.lst xs)) (hx : DXs X H xs ds) (h : G X te σ H d) (hl : ds.length < 1000000)
    (k : ∀ H2 ys, H2 L = some (.lst ys) → DXs X H2 ys (ds ++ [d]) → EnvOk X H2 σ Γ → Trk X H2 → KpL L H H2 → tz D σ H2) : tSeq (tDrop (tBM K "list" rAppend (tVar i) (tCons te tNil))) tz D σ H := by
  refine ⟨.ref L, En.get i _ hi, .inl ⟨rfl, _, SqL.of hL⟩, ?_⟩
  refine h H (Same.refl H) _ fun v H1 s1 dv => ?_
  have hL1 := s1 _ _ hL
  have e1 : xs.length = ds.length := hx.length
  refine ⟨L, xs, v, rfl, rfl, hL1, by rw [sizeLine_eq]; omega, ?_⟩
  have kp : Kp X H1 (upd H1 L (.lst (xs ++ [v]))) := Kp.put x
  exact k _ _ upd_same (((hx.mono (Kp.of s1)).snoc dv).mono kp) ((En.same s1).mono kp) ((t.mono s1).put) ((KpL.of s1).trans KpL.put)
/-- a new list becomes one's own -/
theorem k_own (En : EnvOk X H σ Γ) (t : Trk X H) (h : GN X te σ H (.list ds)) (k : ∀ L H1 xs, H L = none → Same H H1 → H1 L = some (.lst xs) → DXs (fun b => X b ∨ b = L) H1 xs ds → EnvOk (fun b => X b ∨ b = L) H1 (σ.set i (some (.ref L))) (Γ.set i (.val (.ref L))) → Trk (fun b => X b ∨ b = L) H1 → tz D (σ.set i (some (.ref L))) H1) :
    tSeq (tAsg te (gName i)) tz D σ H := by
  refine k_set (h H (Same.refl H) _ fun v H1 s1 dv nw => ?_)
  obtain ⟨L, xs, rfl, nL, hL, hx⟩ := dv.inner
  have h0 := nw L rfl
  exact k L H1 xs h0 s1 hL hx (((En.more (More.one h0)).same s1).setV) (fun a e => e.elim (fun z => t.mono s1 a z) fun z => ⟨_, z ▸ hL⟩)

theorem g_dict (t : Trk X H) : G X tDNewK σ H (.dict []) := fun H1 s Q q => fun p hp => q _ _ (Same.upd hp) (.dic ((t.mono s).new hp) upd_same .nil)
theorem _root_.KD.EnvOk.less {X' : Addr → Prop} (m : ∀ a, X a → X' a) (E : EnvOk X' H σ Γ) : EnvOk X H σ Γ := ⟨E.len, fun i s e => by
  have h := E.get i s e
  cases s with
  | dat d =>
    obtain ⟨v, e1, r⟩ := h
    exact ⟨v, e1, r.less m⟩
  | val v => exact h
  | un => trivial⟩
/-- one's own list is a datum again -/
theorem _root_.KD.EnvOk.give (En : EnvOk (fun b => X b ∨ b = L) H σ Γ) (hi : Γ[i]? = some (.val (.ref L))) (n : ¬ X L) (hL : H L = some (.lst xs)) (hx : DXs (fun b => X b ∨ b = L) H xs ds) : EnvOk X H σ (Γ.set i (.dat (.list ds))) := by
  have E2 : EnvOk X H σ Γ := En.less fun _ => .inl
  refine ⟨by rw [List.length_set]; exact E2.len, fun j s e => ?_⟩
  by_cases hj : i = j
  · subst hj
    have hl : i < Γ.length := (List.getElem?_eq_some_iff.mp hi).1
    rw [List.getElem?_set_self hl] at e
    cases e
    exact ⟨.ref L, En.get i _ hi, .lst n hL (hx.less fun _ => .inl)⟩
  · rw [List.getElem?_set_ne hj] at e
    exact E2.get j s e
end
end K80

/-! len(set(xs)), xs a list of unlike texts. -/
namespace KD
open PySem PySem.Spec PyProof.Rows L2
section
variable {P : Program} {w : World} {A : Around} {I S : Addr} {fp wr : List Addr} {G : Array GenState → Array GenState → Prop} {n : Nat} {Pv : Nat → Value → Prop} {St : Nat → Shared → Prop} {R : Result → Shared → Prop}
/-- the loop of set(..) over unlike texts -/
theorem loopU (W : WalksS P w A.in1 I fp wr G n Pv St) (nS : S ∉ fp) {xs : List Str} (nd : xs.Nodup) (ln : xs.length = n) (few : n + 1 < scanBound) (hv : ∀ i v, Pv i v → ∃ t, v = .str (xs.getD i Str.empty) t) :
    ∀ (m i : Nat) (s : Shared), i + m = n → St i s → s.heap.SetOf (PySem.strKind P w) S (fun z => decide (z ∈ xs.take i)) i → (∀ s', Moved (S :: wr) G s s' → s'.heap.SetOf (PySem.strKind P w) S (fun z => decide (z ∈ xs.take n)) n → R (.ok (.ret .none)) s') →
      codeAny (model P w) A (.builtin "set.update.loop" ⟨[.ref S, .ref I], []⟩) R s := by
  have nW : S ∉ wr := fun q => nS (W.sub _ q)
  have up : ∀ b ∈ wr, b ∈ S :: wr := fun b q => .tail _ q
  have kept : ∀ {s s' : Shared} {f : Str → Bool} {c : Nat}, Moved wr G s s' → s.heap.SetOf (PySem.strKind P w) S f c → s'.heap.SetOf (PySem.strKind P w) S f c := fun {s s' f c} mv so => by
    obtain ⟨o, es, ep, t, e1, e2⟩ := so
    exact ⟨o, es, ep, t, mv.heap S _ nW e1, e2⟩
  intro m
  induction m with
  | zero =>
    intro i s hi st so k
    have ei : i = n := by omega
    subst ei
    refine codeAny_builtin PyProof.Rows.F.entry_set_update_loop (?_ : wpAny _ (A.under _) _ _ _ s)
    rw [Around.under_plainId PyProof.Rows.F.plain_set_update_loop]
    exact wpAny_bind (W.done s _ _ st fun s' mv => wpAny_pure (k s' (mv.mono up) (kept mv so)))
  | succ m ih =>
    intro i s hi st so k
    have lt : i < n := by omega
    refine codeAny_builtin PyProof.Rows.F.entry_set_update_loop (?_ : wpAny _ (A.under _) _ _ _ s)
    rw [Around.under_plainId PyProof.Rows.F.plain_set_update_loop]
    refine wpAny_bind (W.item i s _ _ lt st fun v s1 pv st1 mv => ?_)
    obtain ⟨t, rfl⟩ := hv i v pv
    have li : i < xs.length := ln ▸ lt
    have ex : xs.getD i Str.empty = xs[i] := by simp [List.getD_eq_getElem?_getD, List.getElem?_eq_getElem li]
    rw [ex]
    have so1 := kept mv so
    have new : xs[i] ∉ xs.take i := fun q => by
      obtain ⟨j, hj, e⟩ := List.mem_iff_getElem.mp q
      rw [List.length_take] at hj
      rw [List.getElem_take] at e
      have lt2 : j < i := by omega
      exact (List.pairwise_iff_getElem.mp nd j i (by omega) li lt2) e
    show wpAny _ A.in1 (holding [Value.str xs[i] t] (setAdd S (.str xs[i] t)) >>= fun _ => _) _ _ s1
    refine wpAny_bind (wpAny_holding ((?_ : wpAny _ _ (holding _ _) _ _ _)))
    refine wpAny_holding (wpAny_bind ((PySem.strKind P w).pyHash (strKind_is _ _ _ _) ?_))
    refine wpAny_setAddHashed_of (k := xs[i]) (knd := PySem.strKind P w) (s := { s1 with toks := s1.toks + 1 }) (strKind_is _ _ _ _) rfl so1 (by omega) fun h' same so2 => ?_
    have so3 : h'.SetOf (PySem.strKind P w) S (fun z => decide (z ∈ xs.take (i + 1))) (i + 1) := by
      refine PyProof.Rows.SetOf_congr so2 (fun z => ?_) (by rw [if_neg (by simpa using new)])
      rw [List.take_succ, List.getElem?_eq_getElem li, ← Bool.decide_or]
      exact decide_eq_decide.mpr (by rw [List.mem_append]; simp)
    have oth : ∀ b o, b ≠ S → s1.heap.get? b = some o → h'.get? b = some o := fun b o q e => by rw [same.2 b q]; exact e
    refine wpAny_pure ⟨plainId_quiet PyProof.Rows.F.plain_set_update_loop _, ih (i + 1) _ (by omega) (W.frame _ s1 _ _ st1 (Nat.le_succ _) fun b q o e => oth b o (fun z => nS (z ▸ q)) e) so3 fun s2 mv2 so4 => k s2 ?_ so4⟩
    exact Moved.trans W.gtrans ((mv.mono up).then_heap (Nat.le_succ _) fun b o q e => oth b o (fun z => q (z ▸ List.mem_cons_self)) e) mv2
end
section
variable {P : Program} {w : World} {A : Around} {E : Value → Shared → Prop} {s : Shared} {l : Addr} {its : Array Value} {xs : List Str} {Q : Value → Shared → Prop}
/-- set(l), l a list of unlike texts -/
theorem call_setU (hh : A.handled = none) (hl : s.heap.IsList l its) (hx : StrsAre its.toList xs) (nd : xs.Nodup) (few : xs.length + 1 < scanBound)
    (k : ∀ (h' : Heap) (tk : Nat), h'.SetOf (PySem.strKind P w) s.heap.objs.size (fun z => decide (z ∈ xs)) xs.length → (∀ b o, s.heap.get? b = some o → h'.get? b = some o) → Q (.ref s.heap.objs.size) { s with heap := h', toks := tk }) :
    wpAny (model P w) A (call (.type "set") [.ref l]) Q E s := by
  have T := PySem.F.called_set
  obtain ⟨c, tl, e0⟩ := T.mro
  have e1 := T.made
  have e2 := T.sub
  have e3 := T.notType
  have e4 := T.canCreate
  have e5 := PySem.F.typeCall_set_1 (.ref l)
  refine wpAny_call (codeAny_of_tree ((?_ : wpAny _ _ (callAny (.type "set") _) _ _ _)))
  refine wpAny_pure ⟨Code.quiet_builtin _ (by decide +kernel), codeAny_builtin PySem.F.entry_type_call ?_⟩
  rw [Around.under_plain (weight_type_call_type "set" [.ref l] []) rfl]
  repeat (any_goals (first | assumption | wp_step))
  generalize hN : s.heap.objs.size = N at *
  let e : Bool → Heap := fun led => s.heap.push { cls := .type "set", dict := none, data := .set #[] 0 (.fresh 0 0 led) }
  refine codeAny_mono (code_set_new_1 (.ref l) (E := E) (Q₁ := fun v t => ∃ led : Bool, v = .ref N ∧ t = { s with heap := e led }) fun led => ⟨led, by rw [hN], rfl⟩) fun r t hr => ?_
  match r, hr with
  | .error _, hr => exact hr
  | .ok .next, hr => exact hr.elim
  | .ok .brk, hr => exact hr.elim
  | .ok .cont, hr => exact hr.elim
  | .ok (.ret v), hr =>
    obtain ⟨led, rfl, rfl⟩ := hr
    have g0 : (e led).get? N = some { cls := .type "set", dict := none, data := .set #[] 0 (.fresh 0 0 led) } := by rw [← hN]; exact Heap.get?_push_size _ rfl
    have ty : Shared.TypeIs { s with heap := e led } (.ref N) "set" := ⟨_, g0, rfl⟩
    have e6 := T.init.lookup
    have e7 := T.init.bind (.ref N)
    repeat (any_goals (first | assumption | wp_step))
    refine codeAny_mono (codeAny_call_builtin (R := wants (fun r t => r = .none ∧ ∃ h' tk, t = { s with heap := h', toks := tk } ∧ h'.SetOf (PySem.strKind P w) N (fun z => decide (z ∈ xs)) xs.length ∧ ∀ b o, s.heap.get? b = some o → h'.get? b = some o) E) T.init.plain PySem.F.entry_set_init (check_set_init_1 ty ?_)) fun r t hr => ?_
    rotate_left
    · match r, hr with
      | .error _, hr => exact hr
      | .ok .next, hr => exact hr.elim
      | .ok .brk, hr => exact hr.elim
      | .ok .cont, hr => exact hr.elim
      | .ok (.ret v), hr =>
        obtain ⟨rfl, h', tk, rfl, q1, q2⟩ := hr
        repeat (any_goals (first | assumption | wp_step))
        exact k h' tk q1 q2
    · have hl1 : (e led).IsList l its := hl.push _
      obtain ⟨o, ho, hc, nl, hd⟩ := hl1
      have c1 := PySem.F.sub_list_set
      have c2 := PySem.F.sub_list_frozenset
      have c3 : (Value.type "list" == Value.type "dict") = false := by decide
      have hl2 : (e led).IsList l its := ⟨o, ho, hc, nl, hd⟩
      obtain ⟨cl, dc, dt, sl⟩ := o
      simp only at hc hd
      subst hc
      subst hd
      unfold Builtin.«set.__init__» noKeywords Builtin.Frozenset.updateFrom
      generalize hI : pyIter = it
      wp_walk
      subst hI
      refine wpAny_pyIter_list hl2 (wpAny_bind (wpAny_runValue ?_))
      have sz : (e led).objs.size = N + 1 := by rw [← hN]; exact Heap.size_push _ _
      have lN : l < N := by
        obtain ⟨o2, ho2, _⟩ := hl
        rw [← hN]
        exact Heap.lt_size ho2
      have ln : xs.length = its.size := by rw [← StrsAre.len_eq hx, Array.length_toList]
      have hh3 : A.in1.in1.in1.handled = none := hh
      refine loopU ((Walks.list hh3 (e led).objs.size l (by rw [sz]; exact Nat.ne_of_lt (Nat.lt_succ_of_lt lN)) its).toS) (S := N) (fun q => by
        rw [sz] at q
        rcases List.mem_cons.mp q with q | q
        · exact absurd q (Nat.ne_of_lt (Nat.lt_succ_self _))
        · exact absurd (List.mem_singleton.mp q) (Nat.ne_of_gt lN)) nd ln (by omega) (fun i v q => SS.strs_at hx i v (by rw [Array.getElem?_toList]; exact q)) its.size 0 _ (by omega) ⟨⟨_, Heap.get?_push_size _ rfl, rfl, rfl⟩, hl2.push _⟩ ?_ fun t mv so => ?_
      · have g1 : ((e led).push { cls := .type "list_iterator", data := .fields #[.ref l, .int 0 0] }).get? N = some { cls := .type "set", dict := none, data := .set #[] 0 (.fresh 0 0 led) } := Heap.get?_push_of_some _ g0
        exact PyProof.Rows.SetOf_congr ((PyProof.Rows.setObjOf_fresh (knd := PySem.strKind P w) led).setOf g1 (by unfold scanBound; omega)) (fun z => by simp) rfl
      · obtain ⟨h', gs, dr, tk, os⟩ := t
        have m1 : gs = s.gens := mv.gens
        have m2 : dr = s.drawn := mv.drawn
        have m3 : os = s.os := mv.os
        subst m1
        subst m2
        subst m3
        refine wpAny_pure (wpAny_pure ⟨rfl, h', tk, rfl, ?_, fun b o q => ?_⟩)
        · rw [← ln, List.take_length] at so
          exact so
        · have hb : b < N := by rw [← hN]; exact Heap.lt_size q
          exact mv.heap b o (fun z => by
            rw [sz] at z
            rcases List.mem_cons.mp z with z | z
            · exact absurd z (Nat.ne_of_lt hb)
            · exact absurd (List.mem_singleton.mp z) (Nat.ne_of_lt (Nat.lt_succ_of_lt hb))) (Heap.get?_push_of_some _ (Heap.get?_push_of_some _ q))
end
end KD

namespace KD
open PySem PySem.Spec PyProof.Rows L2
/-- how many unlike texts a list has -/
def tUnlike (K : PySem.W.Frag) (ta : TE) : TE := fun σ H Q => ta σ H fun x H1 => ∃ (l : Addr) (xs : List Str), x = .ref l ∧ SqL K H1 l (xs.map V.str) ∧ xs.Nodup ∧ xs.length ≤ 1000 ∧ Q (.int xs.length) H1
section
variable {X : Cx} {a : Expr} {ta : TE} {p p2 q pos : Pos}
theorem pe_unlike (hc : X.calm = true) (g1 : Gl X "len") (m1 : X.mg "len" = none) (g2 : Gl X "set") (m2 : X.mg "set" = none) (ha : PE X a ta)
    (na : starEach [a] X.env = (false, eval a X.env) :: starEach [] X.env := by rfl) : PE X (.Call (.Name "len" p) [.Call (.Name "set" p2) [a] [] q] [] pos) (tUnlike X.K ta) := by
  refine ⟨fun pins s σ H Q I h => Call_ (ld_blt I g1 m1 boot_len (PyProof.Rows.callWith_builtin1 (PyProof.Rows.args_cons (Call_ (ld_blt I g2 m2 boot_set ?_)) rfl) rfl rfl))⟩
  refine PyProof.Rows.callWith_type1 (PyProof.Rows.args_cons (thn (ha.run pins s σ H _ I h) fun v t w => PyProof.Rows.args_nil ?_) na) na rfl
  obtain ⟨x, H1, I1, r1, l, xs, rfl, hq, nd, few, q1⟩ := w
  cases r1
  obtain ⟨its, r, pl, _⟩ := I1.list hq
  refine call_setU (I1.ok.hd hc) pl.isList (by simpa using strsAre_of r) nd (by unfold scanBound; omega) fun h' tk so kp => PyProof.Rows.args_nil ?_
  obtain ⟨o, es, ep, tb, e1, e2, e3, _, _, _, e7, e8⟩ := so
  have I2 : Inv X pins σ H1 { t with heap := h', toks := tk } := I1.kept kp
  exact call_len_set e1 e2 e3 e7 (by rw [e8] <;> omega) ⟨.int xs.length, H1, I2.tok _, ⟨_, by rw [e8]⟩, q1⟩
end
section
variable {X : Addr → Prop} {H : Hp} {σ : L2.St} {te : TE} {K : PySem.W.Frag} {ns : List Str}
theorem g_unlike (h : G X te σ H (.list (ns.map PyData.str))) (nd : ns.Nodup) (few : ns.length ≤ 1000) : G X (tUnlike K te) σ H (.int (ns.length : Nat)) := fun H1 s Q q =>
  h H1 s _ fun v H2 s2 rv => by
    obtain ⟨a, xs, rfl, _, e, rx⟩ := rv.lst_inv
    exact ⟨a, ns, rfl, SqL.of (by rw [← rx.strs]; exact e), nd, few, q _ H2 s2 (.int _)⟩
end
end KD

/-! len(set(xs)), xs a tuple of unlike texts. -/
namespace KD
open PySem PySem.Spec PyProof.Rows L2
section
variable {P : Program} {w : World} {A : Around} {E : Value → Shared → Prop} {s : Shared} {l : Addr} {its : Array Value} {xs : List Str} {Q : Value → Shared → Prop}
/-- set(l), l a tuple of unlike texts -/
theorem call_setT (hh : A.handled = none) (hl : s.heap.IsTuple l its) (hx : StrsAre its.toList xs) (nd : xs.Nodup) (few : xs.length + 1 < scanBound)
    (k : ∀ (h' : Heap) (tk : Nat), h'.SetOf (PySem.strKind P w) s.heap.objs.size (fun z => decide (z ∈ xs)) xs.length → (∀ b o, s.heap.get? b = some o → h'.get? b = some o) → Q (.ref s.heap.objs.size) { s with heap := h', toks := tk }) :
    wpAny (model P w) A (call (.type "set") [.ref l]) Q E s := by
  have T := PySem.F.called_set
  obtain ⟨c, tl, e0⟩ := T.mro
  have e1 := T.made
  have e2 := T.sub
  have e3 := T.notType
  have e4 := T.canCreate
  have e5 := PySem.F.typeCall_set_1 (.ref l)
  refine wpAny_call (codeAny_of_tree ((?_ : wpAny _ _ (callAny (.type "set") _) _ _ _)))
  refine wpAny_pure ⟨Code.quiet_builtin _ (by decide +kernel), codeAny_builtin PySem.F.entry_type_call ?_⟩
  rw [Around.under_plain (weight_type_call_type "set" [.ref l] []) rfl]
  repeat (any_goals (first | assumption | wp_step))
  generalize hN : s.heap.objs.size = N at *
  let e : Bool → Heap := fun led => s.heap.push { cls := .type "set", dict := none, data := .set #[] 0 (.fresh 0 0 led) }
  refine codeAny_mono (code_set_new_1 (.ref l) (E := E) (Q₁ := fun v t => ∃ led : Bool, v = .ref N ∧ t = { s with heap := e led }) fun led => ⟨led, by rw [hN], rfl⟩) fun r t hr => ?_
  match r, hr with
  | .error _, hr => exact hr
  | .ok .next, hr => exact hr.elim
  | .ok .brk, hr => exact hr.elim
  | .ok .cont, hr => exact hr.elim
  | .ok (.ret v), hr =>
    obtain ⟨led, rfl, rfl⟩ := hr
    have g0 : (e led).get? N = some { cls := .type "set", dict := none, data := .set #[] 0 (.fresh 0 0 led) } := by rw [← hN]; exact Heap.get?_push_size _ rfl
    have ty : Shared.TypeIs { s with heap := e led } (.ref N) "set" := ⟨_, g0, rfl⟩
    have e6 := T.init.lookup
    have e7 := T.init.bind (.ref N)
    repeat (any_goals (first | assumption | wp_step))
    refine codeAny_mono (codeAny_call_builtin (R := wants (fun r t => r = .none ∧ ∃ h' tk, t = { s with heap := h', toks := tk } ∧ h'.SetOf (PySem.strKind P w) N (fun z => decide (z ∈ xs)) xs.length ∧ ∀ b o, s.heap.get? b = some o → h'.get? b = some o) E) T.init.plain PySem.F.entry_set_init (check_set_init_1 ty ?_)) fun r t hr => ?_
    rotate_left
    · match r, hr with
      | .error _, hr => exact hr
      | .ok .next, hr => exact hr.elim
      | .ok .brk, hr => exact hr.elim
      | .ok .cont, hr => exact hr.elim
      | .ok (.ret v), hr =>
        obtain ⟨rfl, h', tk, rfl, q1, q2⟩ := hr
        repeat (any_goals (first | assumption | wp_step))
        exact k h' tk q1 q2
    · have hl1 : (e led).IsTuple l its := hl.push _
      obtain ⟨o, ho, hc, nl, hd⟩ := hl1
      have c1 := PySem.F.sub_tuple_set
      have c2 := PySem.F.sub_tuple_frozenset
      have c3 : (Value.type "tuple" == Value.type "dict") = false := by decide
      have hl2 : (e led).IsTuple l its := ⟨o, ho, hc, nl, hd⟩
      obtain ⟨cl, dc, dt, sl⟩ := o
      simp only at hc hd
      subst hc
      subst hd
      unfold Builtin.«set.__init__» noKeywords Builtin.Frozenset.updateFrom
      generalize hI : pyIter = it
      wp_walk
      subst hI
      refine wpAny_pyIter_tuple hl2 (wpAny_bind (wpAny_runValue ?_))
      have sz : (e led).objs.size = N + 1 := by rw [← hN]; exact Heap.size_push _ _
      have lN : l < N := by
        obtain ⟨o2, ho2, _⟩ := hl
        rw [← hN]
        exact Heap.lt_size ho2
      have ln : xs.length = its.size := by rw [← StrsAre.len_eq hx, Array.length_toList]
      have hh3 : A.in1.in1.in1.handled = none := hh
      refine loopU ((Walks.tuple hh3 (e led).objs.size l (by rw [sz]; exact Nat.ne_of_lt (Nat.lt_succ_of_lt lN)) its).toS) (S := N) (fun q => by
        rw [sz] at q
        rcases List.mem_cons.mp q with q | q
        · exact absurd q (Nat.ne_of_lt (Nat.lt_succ_self _))
        · exact absurd (List.mem_singleton.mp q) (Nat.ne_of_gt lN)) nd ln (by omega) (fun i v q => SS.strs_at hx i v (by rw [Array.getElem?_toList]; exact q)) its.size 0 _ (by omega) ⟨⟨_, Heap.get?_push_size _ rfl, rfl, rfl⟩, hl2.push _⟩ ?_ fun t mv so => ?_
      · have g1 : ((e led).push { cls := .type "tuple_iterator", data := .fields #[.ref l, .int 0 0] }).get? N = some { cls := .type "set", dict := none, data := .set #[] 0 (.fresh 0 0 led) } := Heap.get?_push_of_some _ g0
        exact PyProof.Rows.SetOf_congr ((PyProof.Rows.setObjOf_fresh (knd := PySem.strKind P w) led).setOf g1 (by unfold scanBound; omega)) (fun z => by simp) rfl
      · obtain ⟨h', gs, dr, tk, os⟩ := t
        have m1 : gs = s.gens := mv.gens
        have m2 : dr = s.drawn := mv.drawn
        have m3 : os = s.os := mv.os
        subst m1
        subst m2
        subst m3
        refine wpAny_pure (wpAny_pure ⟨rfl, h', tk, rfl, ?_, fun b o q => ?_⟩)
        · rw [← ln, List.take_length] at so
          exact so
        · have hb : b < N := by rw [← hN]; exact Heap.lt_size q
          exact mv.heap b o (fun z => by
            rw [sz] at z
            rcases List.mem_cons.mp z with z | z
            · exact absurd z (Nat.ne_of_lt hb)
            · exact absurd (List.mem_singleton.mp z) (Nat.ne_of_lt (Nat.lt_succ_of_lt hb))) (Heap.get?_push_of_some _ (Heap.get?_push_of_some _ q))
end
/-- len(set(xs)) of a list or a tuple of unlike texts -/
def tUnlikeQ (K : PySem.W.Frag) (ta : TE) : TE := fun σ H Q => ta σ H fun x H1 => ∃ (l : Addr) (xs : List Str), x = .ref l ∧ (SqL K H1 l (xs.map V.str) ∨ SqT K H1 l (xs.map V.str)) ∧ xs.Nodup ∧ xs.length ≤ 1000 ∧ Q (.int xs.length) H1
section
variable {X : Cx} {a : Expr} {ta : TE} {p p2 q pos : Pos}
theorem pe_unlikeQ (hc : X.calm = true) (g1 : Gl X "len") (m1 : X.mg "len" = none) (g2 : Gl X "set") (m2 : X.mg "set" = none) (ha : PE X a ta)
    (na : starEach [a] X.env = (false, eval a X.env) :: starEach [] X.env := by rfl) : PE X (.Call (.Name "len" p) [.Call (.Name "set" p2) [a] [] q] [] pos) (tUnlikeQ X.K ta) := by
  refine ⟨fun pins s σ H Q I h => Call_ (ld_blt I g1 m1 boot_len (PyProof.Rows.callWith_builtin1 (PyProof.Rows.args_cons (Call_ (ld_blt I g2 m2 boot_set ?_)) rfl) rfl rfl))⟩
  refine PyProof.Rows.callWith_type1 (PyProof.Rows.args_cons (thn (ha.run pins s σ H _ I h) fun v t w => PyProof.Rows.args_nil ?_) na) na rfl
  obtain ⟨x, H1, I1, r1, l, xs, rfl, hq, nd, few, q1⟩ := w
  cases r1
  rcases hq with hq | hq
  · obtain ⟨its, r, pl, _⟩ := I1.list hq
    refine call_setU (I1.ok.hd hc) pl.isList (by simpa using strsAre_of r) nd (by unfold scanBound; omega) fun h' tk so kp => PyProof.Rows.args_nil ?_
    obtain ⟨o, es, ep, tb, e1, e2, e3, _, _, _, e7, e8⟩ := so
    have I2 : Inv X pins σ H1 { t with heap := h', toks := tk } := I1.kept kp
    exact call_len_set e1 e2 e3 e7 (by rw [e8] <;> omega) ⟨.int xs.length, H1, I2.tok _, ⟨_, by rw [e8]⟩, q1⟩
  · obtain ⟨its, r, pl, _⟩ := I1.tuple hq
    refine call_setT (its := its.toArray) (I1.ok.hd hc) pl (by simpa using strsAre_of r) nd (by unfold scanBound; omega) fun h' tk so kp => PyProof.Rows.args_nil ?_
    obtain ⟨o, es, ep, tb, e1, e2, e3, _, _, _, e7, e8⟩ := so
    have I2 : Inv X pins σ H1 { t with heap := h', toks := tk } := I1.kept kp
    exact call_len_set e1 e2 e3 e7 (by rw [e8] <;> omega) ⟨.int xs.length, H1, I2.tok _, ⟨_, by rw [e8]⟩, q1⟩
end
section
variable {X : Addr → Prop} {H : Hp} {σ : L2.St} {te : TE} {K : PySem.W.Frag} {ns : List Str} {d : PyData}
theorem g_unlikeQ (h : G X te σ H d) (hs : isSeq d = true) (hi : itemsD d = ns.map PyData.str) (nd : ns.Nodup) (few : ns.length ≤ 1000) : G X (tUnlikeQ K te) σ H (.int (ns.length : Nat)) := fun H1 s Q q =>
  h H1 s _ fun v H2 s2 rv => by
    cases d with
    | list ds =>
      have hi : ds = ns.map PyData.str := hi
      subst hi
      obtain ⟨a, xs, rfl, _, e, rx⟩ := rv.lst_inv
      exact ⟨a, ns, rfl, .inl (SqL.of (by rw [← rx.strs]; exact e)), nd, few, q _ H2 s2 (.int _)⟩
    | tuple ds =>
      have hi : ds = ns.map PyData.str := hi
      subst hi
      obtain ⟨a, xs, rfl, _, e, rx⟩ := rv.tup_inv
      exact ⟨a, ns, rfl, .inr (SqT.of (by rw [← rx.strs]; exact e)), nd, few, q _ H2 s2 (.int _)⟩
    | _ => cases hs
end
end KD

/-! enumerate of a tuple, and of what is a list or a tuple. -/
namespace KD
open PySem PySem.Spec PyProof.Rows L2
open AutoSeq1 (wpAny_loadPart')
theorem newT (l : Addr) (its : Array Value) (n : Nat) (dc : Option Addr) (sl : Array (Option Value)) : Meets (Builtin.«enumerate.__new__» ⟨[.type "enumerate", .ref l], []⟩) (fun _ R s =>
    s.heap.get? l = some ⟨.type "tuple", dc, .seq its n, sl⟩ ∧ R (.ok (.ret (.ref (s.heap.push ⟨.type "tuple_iterator", none, .fields #[.ref l, .int 0 0], #[]⟩).objs.size))) { s with heap := (s.heap.push ⟨.type "tuple_iterator", none, .fields #[.ref l, .int 0 0], #[]⟩).push ⟨.type "enumerate", none, .fields #[.none, .bool false, .ref s.heap.objs.size, rawInt 0, .none, .none], #[]⟩ }) :=
  .of_wp fun prog w A R s q => by
    obtain ⟨hp, g, d, tk, os⟩ := s
    obtain ⟨e, q⟩ := q
    have hs := sub_enumerate
    have T : Heap.IsTuple (Shared.heap ⟨hp, g, d, tk, os⟩) l its := ⟨_, e, rfl, n, rfl⟩
    wp_walk using wpAny_loadPart' e
    refine wpAny_stack_any fun st => wpAny_pure ?_
    split
    · rename_i c _ _ _ _ _
      cases c == Value.type "enumerate" <;> (wp_walk using wpAny_loadPart' e, wpAny_pyIter_tuple T; exact ⟨_, rfl, q⟩)
    · wp_walk using wpAny_loadPart' e, wpAny_pyIter_tuple T
      exact ⟨_, rfl, q⟩
section
variable {P : Program} {w : World} {A : Around} {E : Value → Shared → Prop} {s : Shared} {l : Addr} {its : Array Value} {Q : Value → Shared → Prop}
theorem call_enumT (T : s.heap.IsTuple l its) (k : ∀ h', IsEnum h' (s.heap.objs.size + 1) s.heap.objs.size 0 .none → h'.IsTupleIter s.heap.objs.size l 0 → (∀ b o, s.heap.get? b = some o → h'.get? b = some o) → Q (.ref (s.heap.objs.size + 1)) { s with heap := h' }) :
    wpAny (model P w) A (call (.type "enumerate") [.ref l]) Q E s := by
  obtain ⟨⟨c, dc, dt, sl⟩, e, hc, n, hd⟩ := T
  simp only at hc hd
  subst hc
  subst hd
  refine callType_new F.called_enumerate (by decide) (F.typeCall_enumerate_1 _) (F.newCall_enumerate_1 _) (fun v => F.args_object_init_2 v _) F.entry_enumerate_new (newT l its n dc sl) ⟨e, (?_ : _ ∧ _)⟩
  have sz : (s.heap.push ⟨.type "tuple_iterator", none, .fields #[.ref l, .int 0 0], #[]⟩).objs.size = s.heap.objs.size + 1 := Heap.size_push ..
  rw [sz]
  have en := Heap.get?_push_size (s.heap.push ⟨.type "tuple_iterator", none, .fields #[.ref l, .int 0 0], #[]⟩) (o := ⟨.type "enumerate", none, .fields #[.none, .bool false, .ref s.heap.objs.size, rawInt 0, .none, .none], #[]⟩) rfl
  rw [sz] at en
  exact ⟨⟨_, en, rfl⟩, k _ en ⟨_, Heap.get?_push_of_some _ (Heap.get?_push_size _ rfl), rfl, rfl⟩ fun b o q => Heap.get?_push_of_some _ (Heap.get?_push_of_some _ q)⟩
end
/-- the tuple at a, each item in a new pair with its place -/
def ItEt (K : PySem.W.Frag) (a : Addr) (n : Nat) : It where
  go := fun i H => ∃ (xs : List V) (x : V), SqT K H a xs ∧ xs.length = n ∧ xs[i]? = some x
  yld := fun i H v H' => ∃ (T : Addr) (x : V), v = .ref T ∧ H T = none ∧ H' = upd H T (.tup [.int (i : Nat), x]) ∧ ∀ xs, SqT K H a xs → xs[i]? = some x
  stop := fun i H => ∃ xs : List V, SqT K H a xs ∧ xs.length = n ∧ xs.length ≤ i
theorem turn_enumT {P : Program} {w : World} {K : PySem.W.Frag} {elts : List Expr} {kk : Nat} {tpos : Pos} (a e it : Addr) (n : Nat) :
    Turn P w K (.Tuple elts kk tpos) (ItEt K a n) [e, it] e (fun i h => (∃ old, IsEnum h e it ((i : Nat) : Int) old) ∧ h.IsTupleIter it a i ∧ e ≠ it ∧ a ≠ it ∧ i ≤ n) where
  mem := List.mem_cons_self
  obj := fun i h st b hb => by
    obtain ⟨⟨old, he⟩, ⟨o, ho, hc, hd⟩, _⟩ := st
    rcases List.mem_cons.mp hb with z | z
    · subst z
      exact ⟨_, he, fun v q => nomatch q⟩
    · rw [List.mem_singleton.mp z]
      exact ⟨o, ho, fun v q => by rw [hd] at q; cases q⟩
  keep := fun i h h' st k => by
    obtain ⟨⟨old, he⟩, hi, h2, h3⟩ := st
    exact ⟨⟨old, k e List.mem_cons_self _ he⟩, hi.at fun o q => k it (.tail _ List.mem_cons_self) o q, h2, h3⟩
  item := by
    intro X hP hw hK hc i pins s σ H E I hf st hg
    subst hP hw hK
    obtain ⟨⟨old, he⟩, hit, hne, hne2, hle⟩ := st
    obtain ⟨xs, x, hq, hn, hx⟩ := hg
    obtain ⟨its, rv, p, hz⟩ := I.tuple hq
    obtain ⟨u, hu, ru⟩ := rv.get hx
    have hel : e < s.heap.objs.size := Heap.lt_size he
    have hil : it < s.heap.objs.size := by
      obtain ⟨_, q, _⟩ := hit
      exact Heap.lt_size q
    have nea : e ∉ [it, a] := fun q => by
      rcases List.mem_cons.mp q with q | q
      · exact hne q
      · obtain ⟨o, e1, e2, _⟩ := p
        rw [← List.mem_singleton.mp q, he] at e1
        cases e1
        exact absurd (show Value.type "enumerate" = Value.type "tuple" from e2) (by decide)
    have hlt : i < its.toArray.size := by
      rw [List.size_toArray]
      exact (List.getElem?_eq_some_iff.mp hu).1
    have D : Draws X.prog X.w X.A.in1 it [it, a] its.toArray.size _ _ := Draws.tuple (A := X.A.in1) (I.ok.hd hc) it a hne2 its.toArray
    refine wpAny_pyNext_enum_itemD D he ⟨hit, p⟩ hlt hne nea fun y h1 tk hy ho st1 hT hsz hk => ?_
    have ey : y = u := by
      rw [List.getElem?_toArray, hu] at hy
      exact (Option.some.inj hy).symm
    subst ey
    refine ⟨_, rfl, wpAny_letOwnedTupleGo_enum (s := { s with heap := h1, toks := tk + 1 }) ho fun h2 he' sb => ?_⟩
    have hT2 : h2.get? s.heap.objs.size = some { cls := .type "tuple", data := .seq #[.int i tk, y] } := (sb.2 _ (Nat.ne_of_gt hel)).trans hT
    have new : ObjOk X.prog X.w (upd H s.heap.objs.size (.tup [.int (i : Nat), x])) h2 s.heap.objs.size (.tup [.int (i : Nat), x]) := ⟨by show 2 ≤ sizeLine; decide, [.int i tk, y], .cons ⟨_, rfl⟩ (.cons ru .nil), ⟨_, hT2, rfl, _, rfl⟩⟩
    have no : ∀ b, b ∉ [e, it] → b ≠ e ∧ b ≠ it := fun b q => ⟨fun z => q (z ▸ List.mem_cons_self), fun z => q (z ▸ .tail _ List.mem_cons_self)⟩
    have I1 := I.turnedNew (t' := tk + 1) (ch := [e, it]) (fun b ob hb q => (sb.2 b (no b hb).1).trans (hk b ob (no b hb).1 (no b hb).2 q)) hf (Nat.le_refl _) new
    refine ⟨.ref s.heap.objs.size, _, I1, rfl, ⟨_, x, rfl, I.hok.fresh (Nat.le_refl _), rfl, fun ys hy => by rw [I.tuple_inj hy hq]; exact hx⟩, ⟨⟨y, ?_⟩, st1.1.at fun o q => (sb.2 it (Ne.symm hne)).trans q, hne, hne2, by
      have := (List.getElem?_eq_some_iff.mp hx).1
      omega⟩, fun b hb => ?_⟩
    · rw [show ((i + 1 : Nat) : Int) = (i : Int) + 1 by omega]
      exact he'
    · have lt : b < s.heap.objs.size := by
        rcases List.mem_cons.mp hb with z | z
        · rw [z]
          exact hel
        · rw [List.mem_singleton.mp z]
          exact hil
      rw [upd_ne (Nat.ne_of_lt lt)]
      exact (hf b hb).1
  done := by
    intro X hP hw hK hc i pins s σ H E I hf st hg
    subst hP hw hK
    obtain ⟨⟨old, he⟩, hit, hne, hne2, hle⟩ := st
    obtain ⟨xs, hq, hn, hx⟩ := hg
    obtain ⟨its, rv, p, hz⟩ := I.tuple hq
    obtain ⟨f0, f1, f2, f3, f4, f5⟩ := hf it (.tail _ List.mem_cons_self)
    have hl := rv.length
    have nea : e ∉ [it, a] := fun q => by
      rcases List.mem_cons.mp q with q | q
      · exact hne q
      · obtain ⟨o, e1, e2, _⟩ := p
        rw [← List.mem_singleton.mp q, he] at e1
        cases e1
        exact absurd (show Value.type "enumerate" = Value.type "tuple" from e2) (by decide)
    have ei : i = its.toArray.size := by
      rw [List.size_toArray]
      omega
    have D : Draws X.prog X.w X.A.in1 it [it, a] its.toArray.size _ _ := Draws.tuple (A := X.A.in1) (I.ok.hd hc) it a hne2 its.toArray
    exact wpAny_pyNext_enum_endD D he (ei ▸ ⟨hit, p⟩) fun h' eb => ⟨rfl, I.turned (t' := s.toks) (fun b o hb q => eb b o hb q) f0 f1 f3 f4 f5⟩
  self := fun A i s Q E st h => let ⟨⟨_, he⟩, _⟩ := st; wpAny_pyIter_enum he h
/-- a list or a tuple, each item with its place -/
def iEnumQ (K : PySem.W.Frag) (ta : TA) : TI := fun σ H R => ta σ H fun vs H1 => ∃ (a : Addr) (xs : List V), vs = [.ref a] ∧ ((SqL K H1 a xs ∧ R (Ite K a) H1) ∨ (SqT K H1 a xs ∧ R (ItEt K a xs.length) H1))
theorem pi_enumQ {X : Cx} {e : Expr} {ta : TA} {p pos tpos : Pos} {elts : List Expr} {kk : Nat} (hg : Gl X "enumerate") (hm : X.mg "enumerate" = none) (ha : PA X [e] ta) (hs : starEach [e] X.env = [(false, eval e X.env)] := by rfl) :
    PI X (.Tuple elts kk tpos) (.Call (.Name "enumerate" p) [e] [] pos) (iEnumQ X.K ta) := by
  refine ⟨fun pins s σ H R I h => Call_ (ld_blt I hg hm boot_enumerate (PyProof.Rows.callWith_type1 (thn (ha.run pos pins s σ H _ I h) fun us s1 w => ?_) hs rfl))⟩
  obtain ⟨vs, H1, I1, r1, a, xs, rfl, q⟩ := w
  cases r1 with
  | cons r rr =>
    cases rr
    cases r
    have fresh : ∀ b, b ∈ [s1.heap.objs.size + 1, s1.heap.objs.size] → s1.heap.objs.size ≤ b := fun b hb => by
      rcases List.mem_cons.mp hb with z | z
      · rw [z]
        exact Nat.le_succ _
      · rw [List.mem_singleton.mp z]
        exact Nat.le_refl _
    rcases q with ⟨hq, q⟩ | ⟨hq, q⟩
    · obtain ⟨its, rv, p', _⟩ := I1.list hq
      refine call_enumerate_list p'.isList fun h' he hit hz hk => wpAny_pyIter_enum he ?_
      exact ⟨_, [s1.heap.objs.size + 1, s1.heap.objs.size], _, _, H1, rfl, I1.kept (t' := s1.toks) hk, turn_enum a _ _, ⟨⟨.none, he⟩, hit, Nat.succ_ne_self _⟩, fun b hb => I1.fpOk (fresh b hb) (I1.hok.fresh (fresh b hb)), q⟩
    · obtain ⟨its, rv, p', _⟩ := I1.tuple hq
      have na : a ≠ s1.heap.objs.size := by
        obtain ⟨o, e1, _⟩ := p'
        exact Nat.ne_of_lt (Heap.lt_size e1)
      refine call_enumT p' fun h' he hit hk => wpAny_pyIter_enum he ?_
      exact ⟨_, [s1.heap.objs.size + 1, s1.heap.objs.size], _, _, H1, rfl, I1.kept (t' := s1.toks) hk, turn_enumT a _ _ xs.length, ⟨⟨.none, he⟩, hit, Nat.succ_ne_self _, na, Nat.zero_le _⟩, fun b hb => I1.fpOk (fresh b hb) (I1.hok.fresh (fresh b hb)), q⟩
section
variable {K : PySem.W.Frag} {a : Addr} {xs : List V}
theorem walk_enumT : Walk (ItEt K a xs.length) xs.length (fun H => SqT K H a xs) (YPair (fun i => some (.int (i : Nat))) (fun i => xs[i]?)) := by
  refine ⟨fun i _ hi q => ⟨xs, xs[i], q, rfl, by simp [hi]⟩, fun _ q => ⟨xs, q, rfl, Nat.le_refl _⟩, fun i H v H' _ q y => ?_⟩
  obtain ⟨T, x, h1, h2, h3, h4⟩ := y
  exact ⟨T, .int (i : Nat), x, h1, h2, h3, rfl, h4 xs q⟩
end
section
variable {X : Addr → Prop} {H : Hp} {σ : L2.St} {te : TE} {K : PySem.W.Frag} {d : PyData}
theorem gi_enumQ (h : G X te σ H d) (hs : isSeq d = true) : GI X (iEnumQ K (tCons te tNil)) σ H (enumD (itemsD d)) := by
  cases d with
  | list ds =>
    exact fun H1 s R r => h H1 s _ fun v H2 s2 rv => by
      obtain ⟨a, xs, rfl, n, e, rx⟩ := rv.lst_inv
      refine ⟨a, xs, rfl, .inl ⟨SqL.of e, r _ H2 s2 ⟨_, _, by rw [enumD_len, show (itemsD (PyData.list ds)).length = ds.length from rfl, ← rx.length]; exact walk_enum, fun X' m H3 k t => ?_⟩⟩⟩
      have n' : ¬ X' a := fun z => (m a z).elim n fun q => by rw [e] at q; cases q
      refine ⟨SqL.of (k a _ n' e), fun i x H4 y => ?_⟩
      obtain ⟨T, u, w, rfl, hT, rfl, hu, hw⟩ := y
      cases hu
      obtain ⟨d, h1, h2⟩ := rx.getV hw
      exact ⟨Same.upd hT, _, enumD_get h1, DX.newT t (.cons (.int _) (.cons ((h2.grow m).mono k) .nil)) hT⟩
  | tuple ds =>
    exact fun H1 s R r => h H1 s _ fun v H2 s2 rv => by
      obtain ⟨a, xs, rfl, n, e, rx⟩ := rv.tup_inv
      refine ⟨a, xs, rfl, .inr ⟨SqT.of e, r _ H2 s2 ⟨_, _, by rw [enumD_len, show (itemsD (PyData.tuple ds)).length = ds.length from rfl, ← rx.length]; exact walk_enumT, fun X' m H3 k t => ?_⟩⟩⟩
      have n' : ¬ X' a := fun z => (m a z).elim n fun q => by rw [e] at q; cases q
      refine ⟨SqT.of (k a _ n' e), fun i x H4 y => ?_⟩
      obtain ⟨T, u, w, rfl, hT, rfl, hu, hw⟩ := y
      cases hu
      obtain ⟨d, h1, h2⟩ := rx.getV hw
      exact ⟨Same.upd hT, _, enumD_get h1, DX.newT t (.cons (.int _) (.cons ((h2.grow m).mono k) .nil)) hT⟩
  | _ => cases hs
end
end KD

/-! Numbers as rows of bits. -/
namespace KB
open PySem
def mk : List Bool → Int
  | [] => 0
  | b :: r => (if b then 1 else 0) + 2 * mk r
theorem mk_half (b : Bool) (r : List Bool) : mk (b :: r) / 2 = mk r := by
  rw [mk]
  cases b <;> simp <;> omega
theorem mk_low (b : Bool) (r : List Bool) : mk (b :: r) % 2 = 1 ↔ b = true := by
  rw [mk]
  cases b <;> simp <;> omega
theorem not_half (b : Bool) (r : List Bool) : Builtin.bitNot (mk (b :: r)) / 2 = Builtin.bitNot (mk r) := by
  unfold Builtin.bitNot
  show (-((if b then 1 else 0) + 2 * mk r) - 1) / 2 = _
  cases b <;> simp <;> omega
theorem not_low (b : Bool) (r : List Bool) : Builtin.bitNot (mk (b :: r)) % 2 = 1 ↔ b = false := by
  unfold Builtin.bitNot
  show (-((if b then 1 else 0) + 2 * mk r) - 1) % 2 = 1 ↔ _
  cases b <;> simp <;> omega
theorem mk_nonneg : ∀ r : List Bool, 0 ≤ mk r
  | [] => by simp [mk]
  | b :: r => by
    have := mk_nonneg r
    rw [mk]
    cases b <;> simp <;> omega
theorem mk_lt : ∀ r : List Bool, mk r < 2 ^ r.length
  | [] => by simp [mk]
  | b :: r => by
    have := mk_lt r
    rw [mk, List.length_cons, Int.pow_succ]
    cases b <;> simp <;> omega
theorem and_mk : ∀ xs ys : List Bool, xs.length = ys.length → Builtin.bitAnd (mk xs) (mk ys) = mk (List.zipWith (fun a b => a && b) xs ys)
  | [], [], _ => by decide
  | a :: xs, b :: ys, h => by
    rw [PySem.W.kbt_halves, mk_half, mk_half, and_mk xs ys (by simpa using h), List.zipWith_cons_cons]
    simp only [mk_low]
    rw [mk]
    cases a <;> cases b <;> simp <;> omega
theorem andn_mk : ∀ xs ys : List Bool, xs.length = ys.length → Builtin.bitAnd (mk xs) (Builtin.bitNot (mk ys)) = mk (List.zipWith (fun a b => a && !b) xs ys)
  | [], [], _ => by decide
  | a :: xs, b :: ys, h => by
    rw [PySem.W.kbt_halves, mk_half, not_half, andn_mk xs ys (by simpa using h), List.zipWith_cons_cons]
    simp only [mk_low, not_low]
    rw [mk]
    cases a <;> cases b <;> simp <;> omega
theorem nor_mk : ∀ xs ys : List Bool, xs.length = ys.length → Builtin.bitAnd (Builtin.bitNot (mk xs)) (Builtin.bitNot (mk ys)) = Builtin.bitNot (mk (List.zipWith (fun a b => a || b) xs ys))
  | [], [], _ => by decide
  | a :: xs, b :: ys, h => by
    rw [PySem.W.kbt_halves, not_half, not_half, nor_mk xs ys (by simpa using h), List.zipWith_cons_cons]
    simp only [not_low]
    unfold Builtin.bitNot
    rw [mk]
    cases a <;> cases b <;> simp <;> omega
theorem not_not (x : Int) : Builtin.bitNot (Builtin.bitNot x) = x := by
  unfold Builtin.bitNot
  omega
theorem or_mk {xs ys : List Bool} (h : xs.length = ys.length) : Builtin.bitOr (mk xs) (mk ys) = mk (List.zipWith (fun a b => a || b) xs ys) := by
  unfold Builtin.bitOr
  rw [nor_mk xs ys h, not_not]
theorem and_zero (x : Int) : Builtin.bitAnd x 0 = 0 := by
  unfold Builtin.bitAnd
  by_cases h : 0 ≤ x <;> simp [h]
theorem or_zero (xs : List Bool) : Builtin.bitOr (mk xs) 0 = mk xs := by
  have h : mk (List.replicate xs.length false) = 0 := by
    generalize xs.length = n
    induction n with
    | zero => rfl
    | succ n ih => rw [List.replicate_succ, mk, ih]; rfl
  rw [← h, or_mk (by simp)]
  congr 1
  apply List.ext_getElem (by simp)
  intro i h1 h2
  simp
theorem shr_mk : ∀ (bs : List Bool) (j : Nat), mk bs / 2 ^ j = mk (bs.drop j)
  | bs, 0 => by simp
  | [], j + 1 => by simp [mk]
  | b :: r, j + 1 => by
    rw [Int.pow_succ, Int.mul_comm, ← Int.ediv_ediv_of_nonneg (by omega), mk_half, shr_mk r j]
    rfl
theorem and_one (b : Bool) (r : List Bool) : Builtin.bitAnd (mk (b :: r)) 1 = if b then 1 else 0 := by
  rw [PySem.W.kbt_halves, show (1 : Int) / 2 = 0 by decide, and_zero]
  have h : (1 : Int) % 2 = 1 := by decide
  simp only [mk_low, h, and_true]
  cases b <;> simp
theorem bit_mk {bs : List Bool} {j : Nat} (h : j < bs.length) : Builtin.bitAnd (mk bs / 2 ^ j) 1 = if bs[j] then 1 else 0 := by
  rw [shr_mk, List.drop_eq_getElem_cons h, and_one]
theorem start_mk : ∀ n : Nat, (2 : Int) ^ n - 1 = mk (List.replicate n true)
  | 0 => by decide
  | n + 1 => by
    have := start_mk n
    rw [List.replicate_succ, mk, ← this, Int.pow_succ]
    simp
    omega
/-- the sum of the powers told -/
theorem sum_mk : ∀ (bs : List Bool) (k : Nat), (((bs.zipIdx k).filter fun p => p.1).map fun p => (2 : Int) ^ p.2).sum = 2 ^ k * mk bs
  | [], k => by simp [mk]
  | b :: r, k => by
    have ih := sum_mk r (k + 1)
    rw [List.zipIdx_cons, mk]
    cases b
    · rw [List.filter_cons_of_neg (by simp), ih, Int.pow_succ]
      simp [Int.mul_assoc]
    · rw [List.filter_cons_of_pos (by simp), List.map_cons, List.sum_cons, ih, Int.pow_succ]
      simp [Int.mul_add, Int.mul_assoc]
end KB

/-! Names, lists of names. -/
namespace K80
open PySem PySem.Spec PyProof.Rows L2 KD
variable {P : Program} {w : World} {K : PySem.W.Frag} {mg : Str → Option Value} {base : Heap}
def SIGNS_S : Str := "abcdefghijklmnopqrstuvwxyz0123456789"
/-! ### texts, sign by sign -/
section
variable {X : Addr → Prop} {σ : L2.St} {H : Hp} {ta tb tc te : TE} {x y z : PyData} {r r' : R2} {a b : Bool}
theorem g_chain (t : Trk X H) (ha : G X ta σ H x) (hb : G X tb σ H y) (hc : a = true → G X tc σ H z) (h1 : RB X r x y a) (h2 : RB X r' y z b) : G X (tChain r r' ta tb tc) σ H (.bool (a && b)) := fun H1 s Q q =>
  ha H1 s _ fun u H2 s2 ru => hb H2 (s.trans s2) _ fun v H3 s3 rv => by
    have t3 := ((t.mono s).mono s2).mono s3
    refine h1 H3 u v t3 (ru.mono (Kp.of s3)) rv _ ⟨a, rfl, ?_⟩
    cases a with
    | false => exact q _ H3 (s2.trans s3) (.bl _)
    | true =>
      refine hc rfl H3 ((s.trans s2).trans s3) _ fun w' H4 s4 rw' => ?_
      exact h2 H4 v w' (t3.mono s4) (rv.mono (Kp.of s4)) rw' _ (q _ H4 ((s2.trans s3).trans s4) (.bl _))
theorem rb_leS {i j : Str} : RB X (fun x y H Q => ∃ i j, x = V.str i ∧ y = V.str j ∧ Q (V.bl (!decide (j.cps.toList < i.cps.toList))) H) (.str i) (.str j) (!decide (j.cps.toList < i.cps.toList)) := fun H u v _ ru rv Q q => ⟨i, j, ru.str_inv, rv.str_inv, q⟩
theorem rb_inS {c : Nat} {z : Str} : RB X rInS (.str ⟨#[c]⟩) (.str z) (decide (c ∈ z.cps.toList)) := fun H u v _ ru rv Q q => ⟨c, z, ru.str_inv, rv.str_inv, q⟩
theorem g_ixS {z : Str} {i : Int} {c : Nat} (ha : G X ta σ H (.str z)) (hb : G X tb σ H (.int i)) (hl : z.length ≤ 1000000) (h : atI z.cps.toList i = some c) : G X (tOp rIxS ta tb) σ H (.str ⟨#[c]⟩) := fun H1 s Q q =>
  ha H1 s _ fun u H2 s2 ru => hb H2 (s.trans s2) _ fun v H3 s3 rv => ⟨z, i, c, ru.str_inv, rv.int_inv, by rw [sizeLine_eq]; omega, h, q _ H3 (s2.trans s3) (.str _)⟩
theorem gi_str {z : Str} (h : G X te σ H (.str z)) : GI X (iStr te) σ H (z.cps.toList.map fun c => .str ⟨#[c]⟩) := fun H1 s R rr => h H1 s _ fun v H2 s2 rv =>
  ⟨z, rv.str_inv, rr _ H2 s2 ⟨_, _, by rw [List.length_map, Array.length_toList]; exact walk_str, fun X' m H3 k t => ⟨trivial, fun i x H4 yy => by
    obtain ⟨rfl, c, hc, rfl⟩ := yy
    exact ⟨Same.refl _, .str ⟨#[c]⟩, by rw [List.getElem?_map, Array.getElem?_toList, hc]; rfl, .str _⟩⟩⟩⟩
theorem g_all {bs : List Bool} (t : Trk X H) (h : G X te σ H (.list (bs.map PyData.bool))) : G X (tCB (rAll K) (tCons te tNil)) σ H (.bool (bs.all id)) := g_cb t (ga_cons h ga_nil) rf_all
end
theorem envUn' {X : Addr → Prop} {H : Hp} {σ : L2.St} {Γ : List Sv} (E : EnvOk X H σ Γ) (i : Nat) : EnvOk X H σ (Γ.set i .un) := ⟨by rw [List.length_set]; exact E.len, fun j s e => by
  rw [List.getElem?_set] at e
  split at e
  · split at e
    · cases e
      trivial
    · cases e
  · exact E.get j s e⟩
abbrev s_is_truth : Stmt := topS 11
abbrev n_is_truth : List Str := ["thing"]
theorem sc_is_truth : FnScope n_is_truth ["thing"] (defScope s_is_truth) := ⟨rfl, rfl, rfl, by decide +kernel, rfl, by decide +kernel, by decide +kernel⟩
theorem ok_is_truth {f : Addr} {fd : FuncData} (F : Fun K "is_truth" "is_truth" s_is_truth f fd) (T : Bl mg) : FnOk P w K mg base CX0 1 f fd ["thing"] (sp1 (fun _ => True) fun d => .bool (isa_bool d)) := by
  refine ok1 F sc_is_truth (by decide) fun cdv A outer s H E X d Q hr t _ q => ⟨_, (pss_one (ps_ret (pe_callB call_isi (by rfl) T.b_isinstance boot_isinstance (pa_cons (pv 0) (pa_cons (pe_bltn (v := .ty "bool") (by rfl) T.b_bool boot_bool rfl) pa_nil))))), fun σ En => ?_⟩
  exact s_ret (g_isBool (g_var En rfl)) q
abbrev s_is_pair : Stmt := topS 12
abbrev n_is_pair : List Str := ["thing"]
theorem sc_is_pair : FnScope n_is_pair ["thing"] (defScope s_is_pair) := ⟨rfl, rfl, rfl, by decide +kernel, rfl, by decide +kernel, by decide +kernel⟩
theorem ok_is_pair {f : Addr} {fd : FuncData} (F : Fun K "is_pair" "is_pair" s_is_pair f fd) (T : Bl mg) (O_is_list : Own P w K mg base CX0 1 "is_list" ["thing"] (sp1 (fun _ => True) fun d => .bool (isSeq d))) : FnOk P w K mg base CX0 2 f fd ["thing"] (sp1 (fun _ => True) fun d => .bool (isSeq d && decide (lenD d = 2))) := by
  refine ok1 F sc_is_pair (by decide) fun cdv A outer s H E X d Q hr t _ q => ⟨_, (pss_one (ps_ret (pe_and (pe_own O_is_list hr (by decide) (by rfl) (pa_cons (pv 0) pa_nil)) (pe_one (pe_cmpR (op_eqD hr.units) (pe_callB call_len (by rfl) T.b_len boot_len (pa_cons (pv 0) pa_nil)) pe_int (nomark _)))))), fun σ En => ?_⟩
  refine s_ret (g_and (g_call1 t (g_var En rfl) trivial) fun hb => g_is (g_eqD t (g_len t (g_var (i := 0) En rfl) (hasLen_seq hb)) g_int rfl rfl (shaped_int _) (shaped_int _)) (by rw [eqv_int]; congr 1; exact decide_eq_decide.mpr (by omega))) q
-- HINT is_name ix ix_str
-- HINT is_name it pi_str
-- HINT is_name in op_inS
def sNames : List Str := ["a", "b", "c1", "d", "zed", "m9", "k", "stranger"]
theorem names_ok : ∀ s ∈ sNames, (decide ((1 : Int) ≤ (s.length : Int)) && decide ((s.length : Int) ≤ 12)) = true ∧ s.length ≤ 1000000 ∧ (∃ c, atI s.cps.toList 0 = some c ∧ (!decide ((⟨#[c]⟩ : Str).cps.toList < ("a" : Str).cps.toList)) = true ∧ (!decide (("z" : Str).cps.toList < (⟨#[c]⟩ : Str).cps.toList)) = true) ∧ (s.cps.toList.map fun c => decide (c ∈ SIGNS_S.cps.toList)).all id = true := by
  intro s hs
  simp only [sNames, List.mem_cons, List.not_mem_nil, or_false] at hs
  rcases hs with rfl | rfl | rfl | rfl | rfl | rfl | rfl | rfl
  all_goals exact ⟨by decide +kernel, by decide +kernel, ⟨_, rfl, by decide +kernel, by decide +kernel⟩, by decide +kernel⟩
abbrev s_is_name : Stmt := topS 13
abbrev n_is_name : List Str := ["thing", "sign"]
theorem sc_is_name : FnScope n_is_name ["thing"] (defScope s_is_name) := ⟨rfl, rfl, rfl, by decide +kernel, rfl, by decide +kernel, by decide +kernel⟩
theorem ok_is_name {f : Addr} {fd : FuncData} {tS : Tok} (F : Fun K "is_name" "is_name" s_is_name f fd) (T : Bl mg) (g_SIGNS : mg "SIGNS" = some (.str SIGNS_S tS)) : FnOk P w K mg base CX0 1 f fd ["thing"] (sp1 (fun d => ∃ s ∈ sNames, d = .str s) fun _ => .bool true) := by
  refine ok1 F sc_is_name (by decide) fun cdv A outer s H E X d Q hr t hp q => ⟨_, (pss_cons (ps_if (PW.pt (pw_or (pt_not (pt_val (pe_callB call_isi (by rfl) T.b_isinstance boot_isinstance (pa_cons (pv 0) (pa_cons (pe_bltn (v := .ty "str") (by rfl) T.b_str boot_str rfl) pa_nil))))) (pw_or1 (pt_not (pt_chain op_le op_le pe_int (pe_callB call_len (by rfl) T.b_len boot_len (pa_cons (pv 0) pa_nil)) pe_int)))))
    (pss_one (ps_ret pe_bl)) pss_nil)
    (pss_one (ps_ret (pe_and (pe_chain op_le_str op_le_str pe_str (pe_ix ix_str (pv 0) pe_int (fun _ _ => rfl)) pe_str) (pe_one (pe_callB (cr_all rfl) (by rfl) T.b_all boot_all (pa_cons (pe_lc (own := [("sign", 1)]) (g := (gName 1)) (tt := tYes) rfl sc_is_name.nd (pi_str (pv 0)) (blkOk_by (N := n_is_name) (sc := defScope s_is_name) (by decide +kernel)) (fun _ _ _ _ _ => (pg_name (i := 1) sc_is_name.nd rfl (by first | exact Or.inl rfl | exact Or.inr rfl))) (fun _ _ _ _ _ => pts_nil) (fun _ _ _ _ _ => (pe_cmpR op_inS (pv 1) (pe_glob (v := .str SIGNS_S) (by rfl) g_SIGNS ⟨_, rfl⟩) (by rfl)))) pa_nil))))))), fun σ En => ?_⟩
  obtain ⟨z, hz, rfl⟩ := hp
  obtain ⟨n1, n2, ⟨c, n3, n4, n5⟩, n6⟩ := names_ok z hz
  refine q_if (b := false) (gt_is (gt_or (gt_not (gt_B (g_isStr (g_var (i := 0) En rfl)))) fun _ => gt_not (gt_test (g_is (g_chain t g_int (g_len t (g_var (i := 0) En rfl) (by simpa [hasLen] using n2)) (fun _ => g_int) rb_I0 rb_I0) (by
    show PyData.bool (decide ((1 : Int) ≤ (z.length : Int)) && decide ((z.length : Int) ≤ 12)) = _
    rw [n1])))) rfl) (fun h => by cases h) fun _ H1 s1 => ?_
  have E1 := En.same s1
  have t1 := t.mono s1
  refine s_ret (X := X) (d := .bool true) (g_is (g_and (g_is (g_chain t1 g_str (g_ixS (g_var (i := 0) E1 rfl) g_int n2 n3) (fun _ => g_str) rb_leS rb_leS) (by rw [n4, n5])) fun _ => g_is (g_all t1 (bs := z.cps.toList.map fun c => decide (c ∈ SIGNS_S.cps.toList)) (g_is (g_lc1 (fun d => match d with | .str s => .bool (decide (s.cps.getD 0 0 ∈ SIGNS_S.cps.toList)) | _ => .none) t1 (gi_str (g_var (i := 0) E1 rfl)) (by rw [List.length_map, Array.length_toList]; exact n2) (fun H1 s d hd => tgt_name (E1.same s)) (fun X' H1 σ2 d hd t E => ?_)) ?_)) (by rw [n6])) rfl) fun w H2 s2 dw => q w H2 (s1.trans s2) dw
  · obtain ⟨c, hc, rfl⟩ := List.mem_map.mp hd
    exact g_op t (g_var (i := 1) E rfl) g_str (RB.rd (b := decide (c ∈ SIGNS_S.cps.toList)) rb_inS)
  · rw [List.map_map, List.map_map]
    rfl
-- HINT are_names it pi_seq
-- HINT are_names unlike pe_unlikeQ
abbrev s_are_names : Stmt := topS 15
abbrev n_are_names : List Str := ["thing", "name"]
theorem sc_are_names : FnScope n_are_names ["thing"] (defScope s_are_names) := ⟨rfl, rfl, rfl, by decide +kernel, rfl, by decide +kernel, by decide +kernel⟩
/-- unlike names, in a list or a tuple -/
def NamesD (d : PyData) : Prop := ∃ ns : List Str, isSeq d = true ∧ itemsD d = ns.map PyData.str ∧ ns.Nodup ∧ ∀ z ∈ ns, z ∈ sNames
theorem nodup_le {ns : List Str} (nd : ns.Nodup) (h : ∀ z ∈ ns, z ∈ sNames) : ns.length ≤ 8 := by
  have := List.Nodup.length_le_of_subset nd (l₂ := sNames) h
  exact this
theorem ok_are_names {f : Addr} {fd : FuncData} (F : Fun K "are_names" "are_names" s_are_names f fd) (T : Bl mg) (b_set : mg "set" = none) (O_is_list : Own P w K mg base CX0 1 "is_list" ["thing"] (sp1 (fun _ => True) fun d => .bool (isSeq d)))
    (O_is_name : Own P w K mg base CX0 1 "is_name" ["thing"] (sp1 (fun d => ∃ s ∈ sNames, d = .str s) fun _ => .bool true)) : FnOk P w K mg base CX0 2 f fd ["thing"] (sp1 NamesD fun _ => .bool true) := by
  refine ok1 F sc_are_names (by decide) fun cdv A outer s H E X d Q hr t hp q => ⟨_, (pss_cons (ps_if (PW.pt (pw_or (pt_not (pt_val (pe_own O_is_list hr (by decide) (by rfl) (pa_cons (pv 0) pa_nil)))) (pw_or1 (pt_not (pt_val (pe_callB (cr_all rfl) (by rfl) T.b_all boot_all (pa_cons (pe_lc (own := [("name", 1)]) (g := (gName 1)) (tt := tYes) rfl sc_are_names.nd (pi_seq (pv 0)) (blkOk_by (N := n_are_names) (sc := defScope s_are_names) (by decide +kernel)) (fun _ _ _ _ _ => (pg_name (i := 1) sc_are_names.nd rfl (by first | exact Or.inl rfl | exact Or.inr rfl))) (fun _ _ _ _ _ => pts_nil) (fun _ _ _ _ _ => (pe_own O_is_name hr (by decide) (by rfl) (pa_cons (pv 1) pa_nil)))) pa_nil)))))))
    (pss_one (ps_ret pe_bl)) pss_nil)
    (pss_one (ps_ret (pe_cmpR (op_eqD hr.units) (pe_unlikeQ rfl (by rfl) T.b_len (by rfl) b_set (pv 0)) (pe_callB call_len (by rfl) T.b_len boot_len (pa_cons (pv 0) pa_nil)) (nomark _))))), fun σ En => ?_⟩
  obtain ⟨ns, hs, hi, nd, hn⟩ := hp
  have few := nodup_le nd hn
  refine q_if (b := false) (gt_is (gt_or (a := false) (gt_is (gt_not (gt_B (g_call1 t (g_var (i := 0) (d := d) En rfl) trivial))) (by rw [hs]; rfl)) fun _ => gt_not (gt_B (g_is (g_all t (bs := ns.map fun _ => true) (g_is (g_lc1 (Γ2 := fun z => [.dat d, .dat z]) (fun _ => .bool true) t (gi_seq (g_var (i := 0) (d := d) En rfl) hs) (by rw [hi, List.length_map]; omega) (fun H1 s d hd => tgt_name (En.same s)) (fun X' H1 σ2 d2 hd t E => ?_)) ?_)) (e := .bool true) (by simp)))) rfl) (fun h => by cases h) fun _ H1 s1 => ?_
  · rw [hi] at hd
    obtain ⟨z, hz, rfl⟩ := List.mem_map.mp hd
    exact g_call1 t (g_var (i := 1) E rfl) ⟨z, hn z hz, rfl⟩
  · show PyData.list ((itemsD d).map _) = _
    rw [hi, List.map_map, List.map_map]
    rfl
  · have E1 := En.same s1
    have t1 := t.mono s1
    refine s_ret (X := X) (d := .bool true) (g_is (g_eqD t1 (g_unlikeQ (ns := ns) (g_var (i := 0) (d := d) E1 rfl) hs hi nd (by omega)) (g_len t1 (g_var (i := 0) (d := d) E1 rfl) (hasLen_seq hs)) rfl rfl (shaped_int _) (shaped_int _)) ?_) fun w H2 s2 dw => q w H2 (s1.trans s2) dw
    rw [eqv_int, lenD_seq hs, hi, List.length_map]
    simp
end K80

/-! Suspects and askings, looked at. -/
namespace K80
open PySem PySem.Spec PyProof.Rows L2 KD
variable {P : Program} {w : World} {K : PySem.W.Frag} {mg : Str → Option Value} {base : Heap}
/-! ### slices of lists and tuples; in, not in -/
def rSlQ (K : PySem.W.Frag) : V → Option Int → Option Int → Hp → VK → Prop := fun x lo hi H Q => rSlL K x lo hi H Q ∨ rSlA K x lo hi H Q
theorem sl_seq {X : Cx} : SlR X (rSlQ X.K) := SlR.or sl_list sl_tupA
theorem sl_seqK {X : Cx} (h : X.K = K) : SlR X (rSlQ K) := h ▸ sl_seq
theorem g_slQ {X : Addr → Prop} {te : TE} {tl th : TO} {σ : L2.St} {H : Hp} {d : PyData} {lo hi : Option Int} (t : Trk X H) (h : G X te σ H d) (hs : isSeq d = true) (hl : GO tl σ H lo) (hh : GO th σ H hi) : ∃ e, isSeq e = true ∧ itemsD e = cutPD (itemsD d) lo hi ∧ G X (tSl (rSlQ K) te tl th) σ H e := by
  cases d with
  | list ds =>
    refine ⟨.list (cutPD ds lo hi), rfl, rfl, fun H1 s Q q => ?_⟩
    exact h H1 s _ fun v H2 s2 r => hl H2 (s.trans s2) _ fun H3 s3 => hh H3 ((s.trans s2).trans s3) _ fun H4 s4 => by
      obtain ⟨a, xs, rfl, n, e, rx⟩ := (r.mono (Kp.of (s3.trans s4))).lst_inv
      exact .inl ⟨a, xs, rfl, SqL.of e, fun p hp => q _ _ (((s2.trans s3).trans s4).trans (Same.upd hp)) (DX.newL ((((t.mono s).mono s2).mono s3).mono s4) (rx.cut lo hi) hp)⟩
  | tuple ds =>
    refine ⟨.tuple (cutPD ds lo hi), rfl, rfl, fun H1 s Q q => ?_⟩
    exact h H1 s _ fun v H2 s2 r => hl H2 (s.trans s2) _ fun H3 s3 => hh H3 ((s.trans s2).trans s3) _ fun H4 s4 => by
      obtain ⟨a, xs, rfl, n, e, rx⟩ := (r.mono (Kp.of (s3.trans s4))).tup_inv
      have lx := rx.length
      refine .inr ⟨a, xs, rfl, SqT.of e, fun hw => q _ _ ((s2.trans s3).trans s4) ?_, fun _ p hp => q _ _ (((s2.trans s3).trans s4).trans (Same.upd hp)) (DX.newT ((((t.mono s).mono s2).mono s3).mono s4) (rx.cut lo hi) hp)⟩
      have e2 : cutPD ds lo hi = ds := by
        show (ds.drop (HT.sIx ds.length 0 lo)).take (HT.sIx ds.length ds.length hi - HT.sIx ds.length 0 lo) = ds
        rw [← lx, hw.1, hw.2, List.drop_zero, Nat.sub_zero, lx, List.take_length]
      rw [e2]
      exact .tup n e rx
  | _ => cases hs
theorem op_inK {X : Cx} (h : X.K = K) : OpR X (compareOp .In) (rIn K false) := h ▸ op_in_seq
theorem op_notInK {X : Cx} (h : X.K = K) : OpR X (compareOp .NotIn) (rIn K true) := h ▸ op_notIn_seq
theorem inV_strs (x : Str) : ∀ ns : List Str, inV (.str x) (ns.map V.str) = decide (x ∈ ns)
  | [] => rfl
  | n :: ns => by
    have ih := inV_strs x ns
    unfold inV at ih ⊢
    rw [List.map_cons, List.any_cons, ih]
    show ((n == x) || decide (x ∈ ns)) = decide (x ∈ n :: ns)
    rw [Bool.eq_iff_iff, Bool.or_eq_true, decide_eq_true_iff, decide_eq_true_iff, List.mem_cons, beq_iff_eq]
    exact or_congr_left eq_comm
theorem flat_all (ns : List Str) : (ns.map V.str).all flatV = true := by
  rw [List.all_eq_true]
  intro v hv
  obtain ⟨s, _, rfl⟩ := List.mem_map.mp hv
  rfl
theorem rb_inL {X : Addr → Prop} {neg : Bool} {x : Str} {d : PyData} {ns : List Str} (hs : isSeq d = true) (hi : itemsD d = ns.map PyData.str) : RB X (rIn K neg) (.str x) d (if neg then !decide (x ∈ ns) else decide (x ∈ ns)) := fun H u v _ ru rv Q q => by
  rw [← inV_strs] at q
  cases d with
  | list ds =>
    obtain ⟨a, xs, rfl, _, ha, rs⟩ := rv.lst_inv
    have e : ds = ns.map PyData.str := hi
    subst e
    have ex := rs.strs
    subst ex
    exact ⟨a, _, rfl, .inl (SqL.of ha), by rw [ru.str_inv]; rfl, flat_all ns, by rw [ru.str_inv]; exact q⟩
  | tuple ds =>
    obtain ⟨a, xs, rfl, _, ha, rs⟩ := rv.tup_inv
    have e : ds = ns.map PyData.str := hi
    subst e
    have ex := rs.strs
    subst ex
    exact ⟨a, _, rfl, .inr (SqT.of ha), by rw [ru.str_inv]; rfl, flat_all ns, by rw [ru.str_inv]; exact q⟩
  | _ => cases hs
theorem rb_inI {X : Addr → Prop} {neg : Bool} {i : Int} {ds : List Int} : RB X (rIn K neg) (.int i) (.tuple (ds.map PyData.int)) (if neg then !decide (i ∈ ds) else decide (i ∈ ds)) := fun H u v _ ru rv Q q => by
  obtain ⟨a, xs, rfl, _, ha, rs⟩ := rv.tup_inv
  have ex := rs.ints
  subst ex
  have e1 : ∀ ds : List Int, inV (.int i) (ds.map V.int) = decide (i ∈ ds) := by
    intro ds
    induction ds with
    | nil => rfl
    | cons n ns ih =>
      unfold inV at ih ⊢
      rw [List.map_cons, List.any_cons, ih]
      show ((n == i) || decide (i ∈ ns)) = decide (i ∈ n :: ns)
      rw [Bool.eq_iff_iff, Bool.or_eq_true, decide_eq_true_iff, decide_eq_true_iff, List.mem_cons, beq_iff_eq]
      exact or_congr_left eq_comm
  rw [← e1] at q
  refine ⟨a, _, rfl, .inr (SqT.of ha), by rw [ru.int_inv]; rfl, ?_, by rw [ru.int_inv]; exact q⟩
  rw [List.all_eq_true]
  intro v hv
  obtain ⟨s, _, rfl⟩ := List.mem_map.mp hv
  rfl
/-! ### what is asked of whom -/
structure Sus (d : PyData) (ns : List Str) : Prop where
  seq : isSeq d = true
  its : itemsD d = ns.map PyData.str
  nd : ns.Nodup
  ok : ∀ z ∈ ns, z ∈ sNames
  pos : 0 < ns.length
structure Ask (d : PyData) (as : List (List Str)) : Prop where
  seq : isSeq d = true
  rows : ∀ z ∈ itemsD d, isSeq z = true
  its : (itemsD d).map itemsD = as.map fun a => a.map PyData.str
  pos : 0 < as.length
  few : as.length ≤ 100
  nd : ∀ a ∈ as, a.Nodup
  ok : ∀ a ∈ as, ∀ z ∈ a, z ∈ sNames
theorem Sus.few {d : PyData} {ns : List Str} (S : Sus d ns) : ns.length ≤ 8 := nodup_le S.nd S.ok
theorem Sus.len {d : PyData} {ns : List Str} (S : Sus d ns) : lenD d = ns.length := by rw [lenD_seq S.seq, S.its, List.length_map]
theorem Ask.lenI {d : PyData} {as : List (List Str)} (S : Ask d as) : (itemsD d).length = as.length := by
  have := congrArg List.length S.its
  rw [List.length_map, List.length_map] at this
  exact this
theorem Ask.len {d : PyData} {as : List (List Str)} (S : Ask d as) : lenD d = as.length := by rw [lenD_seq S.seq, S.lenI]
theorem Ask.row {d z : PyData} {as : List (List Str)} (S : Ask d as) (hz : z ∈ itemsD d) : ∃ a ∈ as, itemsD z = a.map PyData.str := by
  have h : itemsD z ∈ (itemsD d).map itemsD := List.mem_map_of_mem hz
  rw [S.its] at h
  obtain ⟨a, ha, e⟩ := List.mem_map.mp h
  exact ⟨a, ha, e.symm⟩
theorem Ask.wsL {as : List (List Str)} (pos : 0 < as.length) (few : as.length ≤ 100) (nd : ∀ a ∈ as, a.Nodup) (ok : ∀ a ∈ as, ∀ z ∈ a, z ∈ sNames) : Ask (.list (as.map wsD)) as :=
  ⟨rfl, fun z hz => by
    obtain ⟨a, _, rfl⟩ := List.mem_map.mp (show z ∈ as.map wsD from hz)
    rfl, by
    show (as.map wsD).map itemsD = _
    rw [List.map_map]
    rfl, pos, few, nd, ok⟩
/-- a tuple of tuples -/
theorem Ask.wsT {as : List (List Str)} (pos : 0 < as.length) (few : as.length ≤ 100) (nd : ∀ a ∈ as, a.Nodup) (ok : ∀ a ∈ as, ∀ z ∈ a, z ∈ sNames) : Ask (.tuple (as.map fun a => .tuple (a.map PyData.str))) as :=
  ⟨rfl, fun z hz => by
    obtain ⟨a, _, rfl⟩ := List.mem_map.mp (show z ∈ as.map fun a => PyData.tuple (a.map PyData.str) from hz)
    rfl, by
    show (as.map _).map itemsD = _
    rw [List.map_map]
    rfl, pos, few, nd, ok⟩
theorem ff_none : ∀ (bs : List PyData) (i : Nat), (∀ b ∈ bs, b = .bool true) → ffD i bs = .none
  | [], _, _ => rfl
  | b :: r, i, h => by
    rw [h b List.mem_cons_self, ff_true]
    exact ff_none r (i + 1) fun z hz => h z (List.mem_cons_of_mem _ hz)
theorem nodup_at {ns : List Str} (nd : ns.Nodup) {i : Nat} (h : i < ns.length) : ns[i] ∉ ns.take i := fun q => by
  obtain ⟨j, hj, e⟩ := List.mem_iff_getElem.mp q
  rw [List.length_take] at hj
  rw [List.getElem_take] at e
  have lt2 : j < i := by omega
  exact (List.pairwise_iff_getElem.mp nd j i (by omega) h lt2) e
def lieI (d : PyData) : Prop := d = .int 0 ∨ d = .int 1
section
variable {x qual : Str} {st : Stmt} {f : Addr} {fd : FuncData} {N : List Str} {k : Nat} {a b c : Str}
theorem ok3 {pre : PyData → PyData → PyData → Prop} {g : PyData → PyData → PyData → PyData} (F : Fun K x qual st f fd) (S : FnScope N [a, b, c] (defScope st)) (hN : 3 ≤ N.length)
    (hbody : ∀ (cdv : Value) (A : Around) (outer : List Env) (s : Shared) (H : Hp) (E : XK) (X : Addr → Prop) (d1 d2 d3 : PyData) (Q : VK), Room k (A.deeper (envOfC qual (defScope st) s.heap.objs.size f cdv)) → Trk X H → pre d1 d2 d3 → (∀ w H', Same H H' → DX X H' w (g d1 d2 d3) → Q w H') →
      ∃ t, PSs (cxOf CX0 P w K mg base N qual (defScope st) f cdv A outer s H E).nox (defBody st) t ∧ ∀ σ, EnvOk X H σ (pad N [.dat d1, .dat d2, .dat d3]) → t { nx := fun _ H' => Q .non H', rt := Q } σ H) : FnOk P w K mg base CX0 (k + 1) f fd [a, b, c] (sp3 pre g) := by
  refine F.ok S (fun vs H Q E h => ?_) (fun cdv A outer s H vs Q E hr h => ?_)
  · obtain ⟨X, v1, v2, v3, d1, d2, d3, rfl, _⟩ := h
    rfl
  · obtain ⟨X, v1, v2, v3, d1, d2, d3, rfl, t, r1, r2, r3, hp, q⟩ := h
    obtain ⟨tt, h1, h2⟩ := hbody cdv A outer s H E X d1 d2 d3 Q hr t hp q
    exact ⟨tt, h1, h2 _ (env3 r1 r2 r3 hN)⟩
end
-- HINT check_askings it pi_seq
-- HINT check_askings enum pi_enumQ
-- HINT check_askings in (op_notInK (K := K) rfl)
-- HINT check_askings slice (sl_seqK (K := K) rfl)
abbrev s_check_askings : Stmt := topS 17
abbrev n_check_askings : List Str := ["suspects", "askings", "lies", "index", "place", "name", "names"]
theorem sc_check_askings : FnScope n_check_askings ["suspects", "askings", "lies"] (defScope s_check_askings) := ⟨rfl, rfl, rfl, by decide +kernel, rfl, by decide +kernel, by decide +kernel⟩
theorem ok_check_askings {f : Addr} {fd : FuncData} (F : Fun K "check_askings" "check_askings" s_check_askings f fd) (T : Bl mg) (O_is_list : Own P w K mg base CX0 1 "is_list" ["thing"] (sp1 (fun _ => True) fun d => .bool (isSeq d))) (O_is_integer : Own P w K mg base CX0 1 "is_integer" ["thing"] (sp1 (fun _ => True) fun d => .bool (isIntD d)))
    (O_is_name : Own P w K mg base CX0 1 "is_name" ["thing"] (sp1 (fun d => ∃ s ∈ sNames, d = .str s) fun _ => .bool true)) (O_are_names : Own P w K mg base CX0 2 "are_names" ["thing"] (sp1 NamesD fun _ => .bool true)) (O_first_false : Own P w K mg base CX0 1 "first_false" ["tests"] (sp1 Bools fun d => ffD 0 (itemsD d))) :
    FnOk P w K mg base CX0 3 f fd ["suspects", "askings", "lies"] (sp3 (fun s a l => (∃ ns, Sus s ns) ∧ (∃ as, Ask a as) ∧ lieI l) fun _ _ _ => .none) := by
  refine ok3 F sc_check_askings (by decide) fun cdv A outer s H E X d1 d2 d3 Q hr t hp q => ⟨_, (pss_cons (ps_if (PW.pt (pw_or (pt_not (pt_val (pe_own O_is_list hr (by decide) (by rfl) (pa_cons (pv 0) pa_nil)))) (pw_or1 (pt_cmpR (op_eqD hr.units) (pe_callB call_len (by rfl) T.b_len boot_len (pa_cons (pv 0) pa_nil)) pe_int (nomark _)))))
    (pss_one ps_never) pss_nil)
    (pss_cons (ps_set (i := 3) sc_check_askings.nd rfl (by first | exact Or.inl rfl | exact Or.inr rfl) (pe_own O_first_false hr (by decide) (by rfl) (pa_cons (pe_lc (own := [("place", 4), ("name", 5)]) (g := (gTup K 2 (gCons (gName 4) (gCons (gName 5) gNil)))) (tt := tYes) rfl sc_check_askings.nd (pi_enumQ (by rfl) T.b_enumerate (pa_cons (pv 0) pa_nil)) (blkOk_by (N := n_check_askings) (sc := defScope s_check_askings) (by decide +kernel)) (fun _ _ _ _ _ => (pg_tup (n := 2) rfl (pgs_cons (pg_name (i := 4) sc_check_askings.nd rfl (by first | exact Or.inl rfl | exact Or.inr rfl)) (pgs_cons (pg_name (i := 5) sc_check_askings.nd rfl (by first | exact Or.inl rfl | exact Or.inr rfl)) pgs_nil)))) (fun _ _ _ _ _ => pts_nil) (fun _ _ _ _ _ => (pe_and (pe_own O_is_name hr (by decide) (by rfl) (pa_cons (pv 5) pa_nil)) (pe_one (pe_cmpR (op_notInK (K := K) rfl) (pv 5) (pe_slice (sl_seqK (K := K) rfl) (pv 0) po_none (po_some (pv 4))) (by rfl)))))) pa_nil)))
    (pss_cons (ps_if (pt_cmpR op_notN (pv 3) pe_non (nomark _))
    (pss_one ps_never) pss_nil)
    (pss_cons (ps_if (PW.pt (pw_or (pt_not (pt_val (pe_own O_is_list hr (by decide) (by rfl) (pa_cons (pv 1) pa_nil)))) (pw_or1 (pt_cmpR (op_eqD hr.units) (pe_callB call_len (by rfl) T.b_len boot_len (pa_cons (pv 1) pa_nil)) pe_int (nomark _)))))
    (pss_one ps_never) pss_nil)
    (pss_cons (ps_set (i := 3) sc_check_askings.nd rfl (by first | exact Or.inl rfl | exact Or.inr rfl) (pe_own O_first_false hr (by decide) (by rfl) (pa_cons (pe_lc (own := [("names", 6)]) (g := (gName 6)) (tt := tYes) rfl sc_check_askings.nd (pi_seq (pv 1)) (blkOk_by (N := n_check_askings) (sc := defScope s_check_askings) (by decide +kernel)) (fun _ _ _ _ _ => (pg_name (i := 6) sc_check_askings.nd rfl (by first | exact Or.inl rfl | exact Or.inr rfl))) (fun _ _ _ _ _ => pts_nil) (fun _ _ _ _ _ => (pe_own O_are_names hr (by decide) (by rfl) (pa_cons (pv 6) pa_nil)))) pa_nil)))
    (pss_cons (ps_if (pt_cmpR op_notN (pv 3) pe_non (nomark _))
    (pss_one ps_never) pss_nil)
    (pss_one (ps_if (PW.pt (pw_or (pt_not (pt_val (pe_own O_is_integer hr (by decide) (by rfl) (pa_cons (pv 2) pa_nil)))) (pw_or1 (pt_cmpR (op_notInK (K := K) rfl) (pv 2) (pe_tup (pa_cons pe_int (pa_cons pe_int pa_nil))) (by rfl)))))
    (pss_one ps_never) pss_nil)))))))), fun σ En => ?_⟩
  obtain ⟨⟨ns, S⟩, ⟨as, A2⟩, hl⟩ := hp
  have few := S.few
  have v0 : ∀ {H1 σ1 Γ}, EnvOk X H1 σ1 Γ → Γ[0]? = some (.dat d1) → G X (tVar 0) σ1 H1 d1 := fun E e => g_var E e
  have lenNe : ∀ {H1 σ1 Γ} {i : Nat} {d : PyData} {n : Nat}, Trk X H1 → EnvOk X H1 σ1 Γ → Γ[i]? = some (.dat d) → isSeq d = true → lenD d = n → 0 < n → GT (tTest (tOp (rEqD K) (tCB (fun xs H Q => ∃ x n, xs = [x] ∧ LenV K x H n ∧ Q (V.int n) H) (tCons (tVar i) tNil)) (tC (.int 0)))) σ1 H1 false := fun t E e hs hn h0 => gt_is (gt_eqI t (g_len t (g_var E e) (hasLen_seq hs)) g_int) (by rw [hn]; exact decide_eq_false (by omega))
  refine q_if (b := false) (gt_is (gt_or (a := false) (gt_is (gt_not (gt_B (g_call1 t (g_var (i := 0) En rfl) trivial))) (by rw [S.seq]; rfl)) fun _ => lenNe t En rfl S.seq S.len S.pos) rfl) (fun h => by cases h) fun _ H1 s1 => ?_
  have E1 := En.same s1
  have t1 := t.mono s1
  refine q_set (i := 3) (d := .none) E1 (g_is (g_call1 t1 (d := .list (ns.map fun _ => .bool true)) (g_is (g_lc1 (Γ2 := fun z => [.dat d1, .dat d2, .dat d3, .un, .dat (it z 0), .dat (it z 1), .un]) (fun _ => .bool true) t1 (gi_enumQ (g_var (i := 0) E1 rfl) S.seq) (by rw [enumD_len, S.its, List.length_map]; omega) (fun H2 s2 z hz => ?_) (fun X' H2 σ2 z hz t2 E2 => ?_)) ?_) ⟨ns.map fun _ => true, by simp, by rw [List.length_map]; omega⟩) ?_) fun H2 v2 s2 E2 => ?_
  · obtain ⟨i, hi⟩ := List.mem_iff_getElem?.mp hz
    have lt := (List.getElem?_eq_some_iff.mp hi).1
    rw [enumD_len] at lt
    rw [enumD_get (List.getElem?_eq_getElem lt)] at hi
    cases hi
    exact tgt_pair (E1.same s2) (by decide)
  · obtain ⟨i, hi⟩ := List.mem_iff_getElem?.mp hz
    have lt := (List.getElem?_eq_some_iff.mp hi).1
    rw [enumD_len, S.its, List.length_map] at lt
    have e1 : (itemsD d1)[i]? = some (.str ns[i]) := by rw [S.its, List.getElem?_map, List.getElem?_eq_getElem lt]; rfl
    rw [enumD_get e1] at hi
    cases hi
    obtain ⟨e, es, ei, ge⟩ := g_slQ (K := K) (lo := none) (hi := some (i : Int)) t2 (g_var (i := 0) E2 rfl) S.seq go_none (go_some (g_var (i := 4) (d := .int (i : Int)) E2 rfl))
    refine g_is (g_and (a := true) (b := true) (g_call1 t2 (g_var (i := 5) (d := .str ns[i]) E2 rfl) ⟨_, S.ok _ (List.getElem_mem lt), rfl⟩) fun _ => g_is (g_op t2 (g_var (i := 5) (d := .str ns[i]) E2 rfl) ge (RB.rd (rb_inL (ns := ns.take i) es ?_))) ?_) rfl
    · rw [ei, S.its]
      show ((ns.map PyData.str).drop (HT.sIx _ 0 none)).take (HT.sIx _ _ (some (i : Int)) - HT.sIx _ 0 none) = _
      rw [sIx_nn (by omega)]
      show ((ns.map PyData.str).drop 0).take (min i (ns.map PyData.str).length - 0) = _
      rw [List.drop_zero, Nat.sub_zero, List.length_map, Nat.min_eq_left (by omega), List.map_take]
    · show PyData.bool (!decide (ns[i] ∈ ns.take i)) = _
      rw [decide_eq_false (nodup_at S.nd lt)]
      rfl
  · show PyData.list ((enumD (itemsD d1)).map _) = _
    congr 1
    rw [show (fun _ : PyData => PyData.bool true) = Function.const _ (PyData.bool true) from rfl, show (fun _ : Str => PyData.bool true) = Function.const _ (PyData.bool true) from rfl, List.map_const, List.map_const, enumD_len, S.its, List.length_map]
  · exact ff_none _ 0 fun b hb => by
      obtain ⟨_, _, rfl⟩ := List.mem_map.mp hb
      rfl
  have t2 := t1.mono s2
  refine q_if (b := false) (gt_is (gt_op t2 (g_var (i := 3) E2 rfl) g_non rb_notN) rfl) (fun h => by cases h) fun _ H3 s3 => ?_
  have E3 := E2.same s3
  have t3 := t2.mono s3
  refine q_if (b := false) (gt_is (gt_or (a := false) (gt_is (gt_not (gt_B (g_call1 t3 (g_var (i := 1) (d := d2) E3 rfl) trivial))) (by rw [A2.seq]; rfl)) fun _ => lenNe t3 E3 rfl A2.seq A2.len A2.pos) rfl) (fun h => by cases h) fun _ H4 s4 => ?_
  have E4 := E3.same s4
  have t4 := t3.mono s4
  refine q_set (i := 3) (d := .none) E4 (g_is (g_call1 t4 (d := .list (as.map fun _ => .bool true)) (g_is (g_lc1 (Γ2 := fun z => [.dat d1, .dat d2, .dat d3, .dat .none, .un, .un, .dat z]) (fun _ => .bool true) t4 (gi_seq (g_var (i := 1) (d := d2) E4 rfl) A2.seq) (by rw [A2.lenI]; have := A2.few; omega) (fun H2 s2 z hz => tgt_name (E4.same s2)) (fun X' H2 σ2 z hz t2 E2 => ?_)) ?_) ⟨as.map fun _ => true, by simp, by rw [List.length_map]; have := A2.few; omega⟩) ?_) fun H5 v5 s5 E5 => ?_
  · obtain ⟨a, ha, ea⟩ := A2.row hz
    exact g_call1 t2 (g_var (i := 6) (d := z) E2 rfl) ⟨a, A2.rows z hz, ea, A2.nd a ha, A2.ok a ha⟩
  · show PyData.list ((itemsD d2).map _) = _
    rw [show (fun _ : PyData => PyData.bool true) = Function.const _ (PyData.bool true) from rfl, show (fun _ : List Str => PyData.bool true) = Function.const _ (PyData.bool true) from rfl, List.map_const, List.map_const, A2.lenI]
  · exact ff_none _ 0 fun b hb => by
      obtain ⟨_, _, rfl⟩ := List.mem_map.mp hb
      rfl
  have t5 := t4.mono s5
  refine q_if (b := false) (gt_is (gt_op t5 (g_var (i := 3) (d := .none) E5 rfl) g_non rb_notN) rfl) (fun h => by cases h) fun _ H6 s6 => ?_
  have E6 := E5.same s6
  have t6 := t5.mono s6
  have fin : ∀ H7, Same H6 H7 → Q .non H7 := fun H7 s7 => q .non H7 (((((((s1.trans s2).trans s3).trans s4).trans s5).trans s6)).trans s7) .non
  refine s_if (b := false) (gt_is (gt_or (a := false) (gt_is (gt_not (gt_B (g_call1 t6 (g_var (i := 2) (d := d3) E6 rfl) trivial))) (by rcases hl with rfl | rfl <;> rfl)) fun _ => ?_) rfl) (fun h => by cases h) fun _ H7 s7 => fin H7 s7
  rcases hl with rfl | rfl
  · exact gt_is (gt_op t6 (g_var (i := 2) (d := .int 0) E6 rfl) (g_tup (ds := ([0, 1] : List Int).map PyData.int) t6 (ga_cons g_int (ga_cons g_int ga_nil)) (by simp)) rb_inI) (by decide)
  · exact gt_is (gt_op t6 (g_var (i := 2) (d := .int 1) E6 rfl) (g_tup (ds := ([0, 1] : List Int).map PyData.int) t6 (ga_cons g_int (ga_cons g_int ga_nil)) (by simp)) rb_inI) (by decide)
end K80

/-! Masks and states. -/
namespace K80
open PySem PySem.Spec PyProof.Rows L2 KD
variable {P : Program} {w : World} {K : PySem.W.Frag} {mg : Str → Option Value} {base : Heap}
def strOf : PyData → Str
  | .str s => s
  | _ => ""
def nsOf (d : PyData) : List Str := (itemsD d).map strOf
def asOf (d : PyData) : List (List Str) := (itemsD d).map nsOf
theorem nsOf_ws (ns : List Str) : nsOf (wsD ns) = ns := by
  show (ns.map PyData.str).map strOf = ns
  rw [List.map_map]
  exact List.map_id' ns
theorem Sus.of {d : PyData} {ns : List Str} (S : Sus d ns) : nsOf d = ns := by
  show (itemsD d).map strOf = ns
  rw [S.its, List.map_map]
  exact List.map_id' ns
theorem Ask.of {d : PyData} {as : List (List Str)} (S : Ask d as) : asOf d = as := by
  show (itemsD d).map ((fun l : List PyData => l.map strOf) ∘ itemsD) = as
  rw [← List.map_map, S.its, List.map_map]
  conv => rhs; rw [← List.map_id as]
  exact List.map_congr_left fun a _ => nsOf_ws a
theorem nsOf_row {z : PyData} {a : List Str} (e : itemsD z = a.map PyData.str) : nsOf z = a := by
  show (itemsD z).map strOf = a
  rw [e]
  exact nsOf_ws a
section
variable {X : Addr → Prop} {H : Hp} {σ : L2.St} {te : TE}
theorem g_sum {ns : List Int} (h : G X te σ H (.list (ns.map PyData.int))) : G X (tCB (rSum K) (tCons te tNil)) σ H (.int ns.sum) := fun H1 s Q q =>
  h H1 s _ fun v H2 s2 r => by
    obtain ⟨a, vs, rfl, _, ha, rv⟩ := r.lst_inv
    exact ⟨a, ns, rfl, SqL.of (by rw [← rv.ints]; exact ha), q _ H2 s2 (.int _)⟩
theorem gt_int {i : Int} (h : G X te σ H (.int i)) : GT (fun σ H Q => te σ H fun x H' => ∃ k, TruV K x H' k ∧ Q k H') σ H (i != 0) := fun H1 s Q q =>
  h H1 s _ fun v H2 s2 r => by
    rw [r.int_inv]
    exact ⟨i != 0, rfl, q H2 s2⟩
theorem g_unI {g : Int → Int} {i : Int} (h : G X te σ H (.int i)) : G X (tUn (rU fun i => .int (g i)) te) σ H (.int (g i)) := fun H1 s Q q =>
  h H1 s _ fun v H2 s2 r => ⟨i, r.int_inv, q _ H2 s2 (.int _)⟩
end
/-- who is named, bit by bit -/
def bitsOf (ns a : List Str) : List Bool := ns.map fun n => decide (n ∈ a)
def maskD (ns : List Str) (as : List (List Str)) : PyData := .list (as.map fun a => .int (KB.mk (bitsOf ns a)))
def scMasks : Scope := { kind := ScopeKind.function, names := [(".0", NameKind.local), ("names", NameKind.cell), ("sum", NameKind.globalImplicit), ("enumerate", NameKind.globalImplicit), ("suspects", NameKind.cell)], isGenerator := false, isCoroutine := false }
theorem call_sumK {X : Cx} (hc : X.calm = true) (h : X.K = K) : CallR X (.builtin "sum") (rSum K) := h ▸ cr_sum hc
-- HINT asked_masks it pi_seq
-- HINT asked_masks enum pi_enumQ
-- HINT asked_masks in (op_inK (K := K) rfl)
-- HINT asked_masks lcsc#2 scMasks
-- HINT asked_masks lcte#1 (tCB (rSum K) (tCons (tLc (iEnumQ K (tCons (tVar 0) tNil)) (gTup K 2 (gCons (gName 3) (gCons (gName 4) gNil))) (tTest (tOp (rIn K false) (tVar 4) (tVar 2))) (tOp (rI CPow fun i j => V.int (i * 2 ^ j.toNat)) (tC (.int 1)) (tVar 3)) [3, 4]) tNil))
abbrev s_asked_masks : Stmt := topS 18
abbrev n_asked_masks : List Str := ["suspects", "askings", "names", "place", "name"]
theorem sc_asked_masks : FnScope n_asked_masks ["suspects", "askings"] (defScope s_asked_masks) := ⟨rfl, rfl, rfl, by decide +kernel, rfl, by decide +kernel, by decide +kernel⟩
theorem mask_sum (ns a : List Str) : ((((enumD (ns.map PyData.str)).filter fun z => decide (strOf (it z 1) ∈ a)).map fun z => (2 : Int) ^ (intOf (it z 0)).toNat)).sum = KB.mk (bitsOf ns a) := by
  have h := KB.sum_mk (bitsOf ns a) 0
  rw [Int.pow_zero, Int.one_mul] at h
  rw [← h]
  unfold enumD bitsOf
  rw [List.zipIdx_map, List.zipIdx_map, List.map_map, List.filter_map, List.filter_map, List.map_map, List.map_map]
  rfl
theorem ok_asked_masks {f : Addr} {fd : FuncData} (F : Fun K "asked_masks" "asked_masks" s_asked_masks f fd) (T : Bl mg) (b_sum : mg "sum" = none) :
    FnOk P w K mg base CX0 1 f fd ["suspects", "askings"] (sp2 (fun s a => (∃ ns, Sus s ns) ∧ ∃ as, Ask a as) fun s a => maskD (nsOf s) (asOf a)) := by
  refine ok2 F sc_asked_masks (by decide) fun cdv A outer s H E X d1 d2 Q hr t hp q => ⟨_, (pss_one (ps_ret (pe_lc (own := [("names", 2)]) (g := (gName 2)) (tt := tYes) (te := (tCB (rSum K) (tCons (tLc (iEnumQ K (tCons (tVar 0) tNil)) (gTup K 2 (gCons (gName 3) (gCons (gName 4) gNil))) (tTest (tOp (rIn K false) (tVar 4) (tVar 2))) (tOp (rI CPow fun i j => V.int (i * 2 ^ j.toNat)) (tC (.int 1)) (tVar 3)) [3, 4]) tNil))) rfl sc_asked_masks.nd (pi_seq (pv 1)) (blkOk_by (N := n_asked_masks) (sc := defScope s_asked_masks) (by decide +kernel)) (fun _ _ _ _ _ => (pg_name (i := 2) sc_asked_masks.nd rfl (by first | exact Or.inl rfl | exact Or.inr rfl))) (fun _ _ _ _ _ => pts_nil) (fun _ _ _ _ _ => (pe_callB (cr_sum rfl) (by rfl) b_sum boot_sum (pa_cons (by exact (pe_lc (own := [("place", 3), ("name", 4)]) (g := (gTup K 2 (gCons (gName 3) (gCons (gName 4) gNil)))) rfl sc_asked_masks.nd (pi_enumQ (by rfl) T.b_enumerate (pa_cons (pv 0) pa_nil)) (blkOk_by (N := n_asked_masks) (sc := scMasks) (by decide +kernel)) (fun _ _ _ _ _ => (pg_tup (n := 2) rfl (pgs_cons (pg_name (i := 3) sc_asked_masks.nd rfl (by first | exact Or.inl rfl | exact Or.inr rfl)) (pgs_cons (pg_name (i := 4) sc_asked_masks.nd rfl (by first | exact Or.inl rfl | exact Or.inr rfl)) pgs_nil)))) (fun _ _ _ _ _ => (pts_one (pt_cmpR (op_inK (K := K) rfl) (pv 4) (pv 2) (by rfl)))) (fun _ _ _ _ _ => (pe_op op_shl pe_int (pv 3))))) pa_nil)))))), fun σ En => ?_⟩
  obtain ⟨⟨ns, S⟩, ⟨as, A2⟩⟩ := hp
  have few := S.few
  rw [S.of, A2.of] at q
  refine s_ret (X := X) (g_is (g_lc1 (Γ2 := fun z => [.dat d1, .dat d2, .dat z, .un, .un]) (fun z => .int (KB.mk (bitsOf ns (nsOf z)))) t (gi_seq (g_var (i := 1) En rfl) A2.seq) (by rw [A2.lenI]; have := A2.few; omega) (fun H2 s2 z hz => tgt_name (En.same s2)) (fun X' H2 σ2 z hz t2 E2 => ?_)) ?_) q
  · have rz := A2.rows z hz
    obtain ⟨a, ha, ea⟩ := A2.row hz
    have hz0 := hz
    clear hz
    rw [nsOf_row ea, ← mask_sum]
    rename PyData => row
    refine g_sum (g_is (g_lc (ds := enumD (itemsD d1)) (Γ2 := fun z => [.dat d1, .dat d2, .dat row, .dat (it z 0), .dat (it z 1)]) (fun z => decide (strOf (it z 1) ∈ a)) (fun z => .int (2 ^ (intOf (it z 0)).toNat)) t2 (gi_enumQ (g_var (i := 0) E2 rfl) S.seq) (by rw [enumD_len, S.its, List.length_map]; omega) (fun H3 s3 z hz => ?_) (fun X3 H3 σ3 z hz t3 E3 => ?_) (fun X3 H3 σ3 z hz hf t3 E3 => ?_)) (by rw [S.its, List.map_map]; rfl))
    · obtain ⟨i, hi⟩ := List.mem_iff_getElem?.mp hz
      have lt := (List.getElem?_eq_some_iff.mp hi).1
      rw [enumD_len] at lt
      rw [enumD_get (List.getElem?_eq_getElem lt)] at hi
      cases hi
      exact tgt_pair (E2.same s3) (by decide)
    · obtain ⟨i, hi⟩ := List.mem_iff_getElem?.mp hz
      have lt := (List.getElem?_eq_some_iff.mp hi).1
      rw [enumD_len, S.its, List.length_map] at lt
      have e1 : (itemsD d1)[i]? = some (.str ns[i]) := by rw [S.its, List.getElem?_map, List.getElem?_eq_getElem lt]; rfl
      rw [enumD_get e1] at hi
      cases hi
      exact gt_op t3 (g_var (i := 4) (d := .str ns[i]) E3 rfl) (g_var (i := 2) (d := row) E3 rfl) (rb_inL (neg := false) rz ea)
    · obtain ⟨i, hi⟩ := List.mem_iff_getElem?.mp hz
      have lt := (List.getElem?_eq_some_iff.mp hi).1
      rw [enumD_len, S.its, List.length_map] at lt
      have e1 : (itemsD d1)[i]? = some (.str ns[i]) := by rw [S.its, List.getElem?_map, List.getElem?_eq_getElem lt]; rfl
      rw [enumD_get e1] at hi
      cases hi
      refine g_is (g_op t3 g_int (g_var (i := 3) (d := .int (i : Nat)) E3 rfl) (rd_I (i := 1) (j := (i : Nat)) (g := fun i j => i * 2 ^ j.toNat) ⟨by omega, by omega, by decide⟩)) ?_
      show PyData.int (1 * 2 ^ _) = _
      rw [Int.one_mul]
      rfl
  · show PyData.list ((itemsD d2).map _) = _
    unfold maskD
    congr 1
    conv => rhs; rw [← A2.of]
    unfold asOf
    rw [List.map_map]
    rfl
/-! ### states: how often each one's answers were wrong -/
def stC (l : Int) (cs : List Nat) : PyData := .tuple [.int (KB.mk (cs.map fun c => decide (c = 0))), .int (KB.mk (cs.map fun c => decide (l = 1) && decide (c = 1)))]
abbrev s_start_of : Stmt := topS 19
abbrev n_start_of : List Str := ["suspects"]
theorem sc_start_of : FnScope n_start_of ["suspects"] (defScope s_start_of) := ⟨rfl, rfl, rfl, by decide +kernel, rfl, by decide +kernel, by decide +kernel⟩
theorem mk_false : ∀ n : Nat, KB.mk (List.replicate n false) = 0
  | 0 => rfl
  | n + 1 => by rw [List.replicate_succ, KB.mk, mk_false n]; rfl
theorem start_is (l : Int) (n : Nat) : PyData.tuple [.int ((2 : Int) ^ n - 1), .int 0] = stC l (List.replicate n 0) := by
  unfold stC
  rw [List.map_replicate, List.map_replicate, KB.start_mk]
  have e1 : decide ((0 : Nat) = 0) = true := rfl
  have e2 : (decide (l = 1) && decide ((0 : Nat) = 1)) = false := by simp
  rw [e1, e2, mk_false]
theorem ok_start_of {f : Addr} {fd : FuncData} (F : Fun K "start_of" "start_of" s_start_of f fd) (T : Bl mg) : FnOk P w K mg base CX0 1 f fd ["suspects"] (sp1 (fun s => ∃ ns, Sus s ns) fun s => .tuple [.int ((2 : Int) ^ (nsOf s).length - 1), .int 0]) := by
  refine ok1 F sc_start_of (by decide) fun cdv A outer s H E X d Q hr t hp q => ⟨_, (pss_one (ps_ret (pe_tup (pa_cons (pe_op op_sub (pe_op op_shl pe_int (pe_callB call_len (by rfl) T.b_len boot_len (pa_cons (pv 0) pa_nil))) pe_int) (pa_cons pe_int pa_nil))))), fun σ En => ?_⟩
  obtain ⟨ns, S⟩ := hp
  have few := S.few
  rw [S.of] at q
  refine s_ret (X := X) (g_tup t (ga_cons (g_is (g_sub t (g_op t g_int (g_len t (g_var (i := 0) En rfl) (hasLen_seq S.seq)) (rd_I (i := 1) (g := fun i j => i * 2 ^ j.toNat) ⟨by omega, by rw [S.len]; omega, by decide⟩)) g_int) ?_) (ga_cons g_int ga_nil)) (by simp)) q
  rw [S.len, Int.one_mul]
  rfl
def spAns : Sp := fun vs H Q _ => ∃ (X : Addr → Prop) (v1 v2 v3 v4 : V) (l : Int) (cs : List Nat) (ms : List Bool) (b : Bool), vs = [v1, v2, v3, v4] ∧ Trk X H ∧ DX X H v1 (stC l cs) ∧ DX X H v2 (.int (KB.mk ms)) ∧ DX X H v3 (.bool b) ∧ DX X H v4 (.int l) ∧ cs.length = ms.length ∧ lieI (.int l) ∧
  ∀ w H', Same H H' → DX X H' w (stC l (List.zipWith (fun c m => if m = b then c else c + 1) cs ms)) → Q w H'
theorem env4 {N : List Str} {X : Addr → Prop} {H : Hp} {v1 v2 v3 v4 : V} {d1 d2 d3 d4 : PyData} (h1 : DX X H v1 d1) (h2 : DX X H v2 d2) (h3 : DX X H v3 d3) (h4 : DX X H v4 d4) (hN : 4 ≤ N.length) : EnvOk X H (L2.start N [v1, v2, v3, v4]) (pad N [.dat d1, .dat d2, .dat d3, .dat d4]) :=
  envOk_start rfl (fun i s e u e2 => by
    match i, e, e2 with
    | 0, e, e2 => cases e; cases e2; exact ⟨_, rfl, h1⟩
    | 1, e, e2 => cases e; cases e2; exact ⟨_, rfl, h2⟩
    | 2, e, e2 => cases e; cases e2; exact ⟨_, rfl, h3⟩
    | 3, e, e2 => cases e; cases e2; exact ⟨_, rfl, h4⟩) hN
theorem zip_map {f : Nat → Bool} {g : Bool → Bool → Bool} : ∀ (cs : List Nat) (ms : List Bool), List.zipWith g (cs.map f) ms = List.zipWith (fun c m => g (f c) m) cs ms
  | [], _ => rfl
  | _ :: _, [] => rfl
  | c :: cs, m :: ms => by rw [List.map_cons, List.zipWith_cons_cons, List.zipWith_cons_cons, zip_map cs ms]
theorem map_zip {f : Nat → Bool} {g : Nat → Bool → Nat} : ∀ (cs : List Nat) (ms : List Bool), (List.zipWith g cs ms).map f = List.zipWith (fun c m => f (g c m)) cs ms
  | [], _ => rfl
  | _ :: _, [] => rfl
  | c :: cs, m :: ms => by rw [List.zipWith_cons_cons, List.map_cons, List.zipWith_cons_cons, map_zip cs ms]
theorem zip_zip {f g : Nat → Bool → Bool} : ∀ (cs : List Nat) (ms : List Bool), List.zipWith (fun a b => a || b) (List.zipWith f cs ms) (List.zipWith g cs ms) = List.zipWith (fun c m => f c m || g c m) cs ms
  | [], _ => rfl
  | _ :: _, [] => rfl
  | c :: cs, m :: ms => by rw [List.zipWith_cons_cons, List.zipWith_cons_cons, List.zipWith_cons_cons, List.zipWith_cons_cons, zip_zip cs ms]
theorem zip_len {α β γ : Type} {g : α → β → γ} {cs : List α} {ms : List β} (h : cs.length = ms.length) : (List.zipWith g cs ms).length = cs.length := by rw [List.length_zipWith, h, Nat.min_self]
/-- what the right ones are -/
theorem right_and {cs : List Nat} {ms : List Bool} (f : Nat → Bool) (b : Bool) (h : cs.length = ms.length) : Builtin.bitAnd (KB.mk (cs.map f)) (if b = true then KB.mk ms else Builtin.bitNot (KB.mk ms)) = KB.mk (List.zipWith (fun c m => f c && (m == b)) cs ms) := by
  cases b with
  | true =>
    rw [if_pos rfl, KB.and_mk _ _ (by rw [List.length_map, h]), zip_map]
    congr 2
    funext c m
    cases f c <;> cases m <;> rfl
  | false =>
    rw [if_neg (by simp), KB.andn_mk _ _ (by rw [List.length_map, h]), zip_map]
    congr 2
    funext c m
    cases f c <;> cases m <;> rfl
theorem wrong_and {cs : List Nat} {ms : List Bool} (f : Nat → Bool) (b : Bool) (h : cs.length = ms.length) : Builtin.bitAnd (KB.mk (cs.map f)) (Builtin.bitNot (if b = true then KB.mk ms else Builtin.bitNot (KB.mk ms))) = KB.mk (List.zipWith (fun c m => f c && !(m == b)) cs ms) := by
  cases b with
  | true =>
    rw [if_pos rfl, KB.andn_mk _ _ (by rw [List.length_map, h]), zip_map]
    congr 2
    funext c m
    cases f c <;> cases m <;> rfl
  | false =>
    rw [if_neg (by simp), KB.not_not, KB.and_mk _ _ (by rw [List.length_map, h]), zip_map]
    congr 2
    funext c m
    cases f c <;> cases m <;> rfl
abbrev s_answered : Stmt := topS 20
abbrev n_answered : List Str := ["state", "mask", "answer", "lies", "none", "once", "right"]
theorem sc_answered : FnScope n_answered ["state", "mask", "answer", "lies"] (defScope s_answered) := ⟨rfl, rfl, rfl, by decide +kernel, rfl, by decide +kernel, by decide +kernel⟩
theorem ok_answered {f : Addr} {fd : FuncData} (F : Fun K "answered" "answered" s_answered f fd) (T : Bl mg) : FnOk P w K mg base CX0 1 f fd ["state", "mask", "answer", "lies"] spAns := by
  refine F.ok sc_answered (fun vs H Q E h => ?_) (fun cdv A outer s H vs Q E hr h => ?_)
  · obtain ⟨X, v1, v2, v3, v4, l, cs, ms, b, rfl, _⟩ := h
    rfl
  · obtain ⟨X, v1, v2, v3, v4, l, cs, ms, b, rfl, t, r1, r2, r3, r4, hl, lie, q⟩ := h
    refine ⟨_, (pss_cons (ps_asg (pv 0) (pg_tup (n := 2) rfl (pgs_cons (pg_name (i := 4) sc_answered.nd rfl (by first | exact Or.inl rfl | exact Or.inr rfl)) (pgs_cons (pg_name (i := 5) sc_answered.nd rfl (by first | exact Or.inl rfl | exact Or.inr rfl)) pgs_nil))))
    (pss_cons (ps_set (i := 6) sc_answered.nd rfl (by first | exact Or.inl rfl | exact Or.inr rfl) (pe_ifExp (pt_val (pv 2)) (pv 1) (pe_un un_inv (pv 1))))
    (pss_one (ps_ret (pe_tup (pa_cons (pe_op op_and (pv 4) (pv 6)) (pa_cons (pe_op op_or (pe_op op_and (pv 5) (pv 6)) (pe_ifExp (pt_cmpR (op_eqD hr.units) (pv 3) pe_int (nomark _)) (pe_op op_and (pv 4) (pe_un un_inv (pv 6))) pe_int)) pa_nil))))))), ?_⟩
    have En := env4 (N := n_answered) r1 r2 r3 r4 (by decide)
    refine q_asg (g_var (i := 0) (d := stC l cs) En rfl) fun H1 v s1 dv => ?_
    refine g_pair dv fun u w h1 h2 => ?_
    have E1 := ((En.same s1).set (i := 4) h1).set (i := 5) h2
    have t1 := t.mono s1
    refine q_set (i := 6) (d := .int (if b = true then KB.mk ms else Builtin.bitNot (KB.mk ms))) E1 (g_if (gt_B (g_var (i := 2) (d := .bool b) E1 rfl)) (fun hb => g_is (g_var (i := 1) (d := .int (KB.mk ms)) E1 rfl) (by rw [if_pos hb])) fun hb => g_is (g_unI (g := Builtin.bitNot) (g_var (i := 1) (d := .int (KB.mk ms)) E1 rfl)) (by rw [if_neg (by rw [hb]; simp)])) fun H2 v2 s2 E2 => ?_
    have t2 := t1.mono s2
    refine s_ret (X := X) (d := stC l (List.zipWith (fun c m => if m = b then c else c + 1) cs ms)) (g_is (g_tup t2 (ga_cons (g_op t2 (g_var (i := 4) E2 rfl) (g_var (i := 6) E2 rfl) (rd_I0 (g := Builtin.bitAnd))) (ga_cons (g_op t2 (g_op t2 (g_var (i := 5) E2 rfl) (g_var (i := 6) E2 rfl) (rd_I0 (g := Builtin.bitAnd))) (y := .int (if l = 1 then Builtin.bitAnd (KB.mk (cs.map fun c => decide (c = 0))) (Builtin.bitNot (if b = true then KB.mk ms else Builtin.bitNot (KB.mk ms))) else 0)) (g_if (gt_eqI (j := 1) t2 (g_var (i := 3) (d := .int l) E2 rfl) g_int) (fun h => g_is (g_op t2 (g_var (i := 4) E2 rfl) (g_unI (g := Builtin.bitNot) (g_var (i := 6) E2 rfl)) (rd_I0 (g := Builtin.bitAnd))) (by rw [if_pos (of_decide_eq_true h)])) fun h => g_is g_int (by rw [if_neg (of_decide_eq_false h)])) (rd_I0 (g := Builtin.bitOr))) ga_nil)) (by simp)) ?_) fun w3 H3 s3 dw => q w3 H3 ((s1.trans s2).trans s3) dw
    rw [right_and _ b hl, right_and _ b hl, wrong_and _ b hl]
    unfold stC
    rw [map_zip, map_zip]
    have e1 : (fun c m => decide (c = 0) && (m == b)) = fun (c : Nat) (m : Bool) => decide ((if m = b then c else c + 1) = 0) := by
      funext c m
      by_cases h : m = b <;> simp [h]
    congr 2
    · rw [e1]
    · congr 1
      congr 1
      by_cases h : l = 1
      · rw [if_pos h, KB.or_mk (by rw [zip_len hl, zip_len hl]), zip_zip]
        congr 2
        funext c m
        by_cases h2 : m = b
        · simp [h, h2]
        · have h3 : (m == b) = false := by simpa using h2
          simp [h, h2, h3]
      · rw [if_neg h, KB.or_zero]
        congr 2
        funext c m
        simp [h]
/-- who is possible: at most so many wrong ones -/
def leftL (ns : List Str) (cs : List Nat) (l : Int) : List Str := ((ns.zip cs).filter fun p => decide ((p.2 : Int) ≤ l)).map (·.1)
def spLeft : Sp := fun vs H Q _ => ∃ (X : Addr → Prop) (v1 v2 : V) (d : PyData) (ns : List Str) (l : Int) (cs : List Nat), vs = [v1, v2] ∧ Trk X H ∧ DX X H v1 d ∧ DX X H v2 (stC l cs) ∧ Sus d ns ∧ cs.length = ns.length ∧ lieI (.int l) ∧ ∀ w H', Same H H' → DX X H' w (wsD (leftL ns cs l)) → Q w H'
theorem lie_le {l : Int} (h : lieI (.int l)) (c : Nat) : (decide (c = 0) || (decide (l = 1) && decide (c = 1))) = decide ((c : Int) ≤ l) := by
  rcases h with h | h <;> cases h
  · rw [Bool.eq_iff_iff]
    simp
  · rw [Bool.eq_iff_iff]
    simp
    omega
theorem left_enum : ∀ (ns : List Str) (cs : List Nat) (l : Int) (k : Nat), cs.length = ns.length → ((ns.zipIdx k).filter fun p => decide (((cs.getD (p.2 - k) 0 : Nat) : Int) ≤ l)).map (·.1) = leftL ns cs l
  | [], [], _, _, _ => rfl
  | n :: ns, c :: cs, l, k, h => by
    have ih := left_enum ns cs l (k + 1) (by simpa using h)
    unfold leftL at ih ⊢
    rw [List.zipIdx_cons, List.zip_cons_cons]
    have e : (ns.zipIdx (k + 1)).filter (fun p => decide ((((c :: cs).getD (p.2 - k) 0 : Nat) : Int) ≤ l)) = (ns.zipIdx (k + 1)).filter fun p => decide (((cs.getD (p.2 - (k + 1)) 0 : Nat) : Int) ≤ l) := by
      apply List.filter_congr
      intro p hp
      have := List.le_snd_of_mem_zipIdx hp
      rw [show p.2 - k = (p.2 - (k + 1)) + 1 by omega, List.getD_cons_succ]
    by_cases hc : (c : Int) ≤ l
    · rw [List.filter_cons_of_pos (by simpa using hc), List.filter_cons_of_pos (by simpa using hc), List.map_cons, List.map_cons, e, ih]
    · rw [List.filter_cons_of_neg (by simpa using hc), List.filter_cons_of_neg (by simpa using hc), e, ih]
abbrev tTru (K : PySem.W.Frag) (ta : TE) : TT := fun σ H Q => ta σ H fun x H' => ∃ k, TruV K x H' k ∧ Q k H'
-- HINT left_in enum pi_enumQ
-- HINT left_in lctt#1 tTru K (tOp (rI0 fun i j => V.int (Builtin.bitAnd i j)) (tOp (rI (fun _ j => 0 ≤ j) fun i j => V.int (i / 2 ^ j.toNat)) (tVar 2) (tVar 3)) (tC (.int 1)))
abbrev s_left_in : Stmt := topS 21
abbrev n_left_in : List Str := ["suspects", "state", "possible", "place", "name"]
theorem sc_left_in : FnScope n_left_in ["suspects", "state"] (defScope s_left_in) := ⟨rfl, rfl, rfl, by decide +kernel, rfl, by decide +kernel, by decide +kernel⟩
theorem ok_left_in {f : Addr} {fd : FuncData} (F : Fun K "left_in" "left_in" s_left_in f fd) (T : Bl mg) : FnOk P w K mg base CX0 1 f fd ["suspects", "state"] spLeft := by
  refine F.ok sc_left_in (fun vs H Q E h => ?_) (fun cdv A outer s H vs Q E hr h => ?_)
  · obtain ⟨X, v1, v2, d, ns, l, cs, rfl, _⟩ := h
    rfl
  · obtain ⟨X, v1, v2, d, ns, l, cs, rfl, t, r1, r2, S, hl, lie, q⟩ := h
    refine ⟨_, (pss_cons (ps_set (i := 2) sc_left_in.nd rfl (by first | exact Or.inl rfl | exact Or.inr rfl) (pe_op op_or (pe_ix ix_seq (pv 1) pe_int (fun _ _ => rfl)) (pe_ix ix_seq (pv 1) pe_int (fun _ _ => rfl))))
    (pss_one (ps_ret (pe_lc (own := [("place", 3), ("name", 4)]) (g := (gTup K 2 (gCons (gName 3) (gCons (gName 4) gNil)))) (tt := tTru K (tOp (rI0 fun i j => V.int (Builtin.bitAnd i j)) (tOp (rI (fun _ j => 0 ≤ j) fun i j => V.int (i / 2 ^ j.toNat)) (tVar 2) (tVar 3)) (tC (.int 1)))) rfl sc_left_in.nd (pi_enumQ (by rfl) T.b_enumerate (pa_cons (pv 0) pa_nil)) (blkOk_by (N := n_left_in) (sc := defScope s_left_in) (by decide +kernel)) (fun _ _ _ _ _ => (pg_tup (n := 2) rfl (pgs_cons (pg_name (i := 3) sc_left_in.nd rfl (by first | exact Or.inl rfl | exact Or.inr rfl)) (pgs_cons (pg_name (i := 4) sc_left_in.nd rfl (by first | exact Or.inl rfl | exact Or.inr rfl)) pgs_nil)))) (fun _ _ _ _ _ => (pts_one (pt_truth (pe_op op_and (pe_op op_shr (pv 2) (pv 3)) pe_int) (by intro _; rfl)))) (fun _ _ _ _ _ => (pv 4)))))), ?_⟩
    have En := env2 (N := n_left_in) r1 r2 (by decide)
    have few := S.few
    refine q_set (i := 2) (d := .int (KB.mk (cs.map fun (c : Nat) => decide ((c : Int) ≤ l)))) En (g_is (g_op t (g_ixT t (g_var (i := 1) (d := stC l cs) En rfl) g_int rfl) (g_ixT t (g_var (i := 1) (d := stC l cs) En rfl) g_int rfl) (rd_I0 (g := Builtin.bitOr))) ?_) fun H1 v s1 E1 => ?_
    · rw [KB.or_mk (by rw [List.length_map, List.length_map])]
      congr 2
      rw [List.zipWith_map]
      rw [List.zipWith_self]
      exact List.map_congr_left fun c _ => lie_le lie c
    have t1 := t.mono s1
    refine s_ret (X := X) (g_is (g_lc (ds := enumD (itemsD d)) (Γ2 := fun z => [.dat d, .dat (stC l cs), .dat (.int (KB.mk (cs.map fun (c : Nat) => decide ((c : Int) ≤ l)))), .dat (it z 0), .dat (it z 1)]) (fun z => decide (((cs.getD (intOf (it z 0)).toNat 0 : Nat) : Int) ≤ l)) (fun z => it z 1) t1 (gi_enumQ (g_var (i := 0) E1 rfl) S.seq) (by rw [enumD_len, S.its, List.length_map]; omega) (fun H2 s2 z hz => ?_) (fun X2 H2 σ2 z hz t2 E2 => ?_) (fun X2 H2 σ2 z hz hf t2 E2 => g_var (i := 4) E2 rfl)) ?_) fun w3 H3 s3 dw => q w3 H3 (s1.trans s3) dw
    · obtain ⟨i, hi⟩ := List.mem_iff_getElem?.mp hz
      have lt := (List.getElem?_eq_some_iff.mp hi).1
      rw [enumD_len] at lt
      rw [enumD_get (List.getElem?_eq_getElem lt)] at hi
      cases hi
      exact tgt_pair (E1.same s2) (by decide)
    · obtain ⟨i, hi⟩ := List.mem_iff_getElem?.mp hz
      have lt := (List.getElem?_eq_some_iff.mp hi).1
      rw [enumD_len, S.its, List.length_map] at lt
      have e1 : (itemsD d)[i]? = some (.str ns[i]) := by rw [S.its, List.getElem?_map, List.getElem?_eq_getElem lt]; rfl
      rw [enumD_get e1] at hi
      cases hi
      refine gt_is (gt_int (K := K) (g_op t2 (g_op t2 (g_var (i := 2) E2 rfl) (g_var (i := 3) (d := .int (i : Nat)) E2 rfl) (rd_I (g := fun i j => i / 2 ^ j.toNat) (by show (0 : Int) ≤ _; omega))) g_int (rd_I0 (g := Builtin.bitAnd)))) ?_
      have lt2 : i < cs.length := by omega
      rw [show ((i : Nat) : Int).toNat = i by omega, KB.bit_mk (by rw [List.length_map]; exact lt2)]
      show ((if (cs.map fun (c : Nat) => decide ((c : Int) ≤ l))[i]'(by rw [List.length_map]; exact lt2) = true then (1 : Int) else 0) != 0) = decide (((cs.getD i 0 : Nat) : Int) ≤ l)
      rw [List.getElem_map, List.getD_eq_getElem?_getD, List.getElem?_eq_getElem lt2]
      show ((if decide ((cs[i] : Int) ≤ l) = true then (1 : Int) else 0) != 0) = decide ((cs[i] : Int) ≤ l)
      by_cases h : (cs[i] : Int) ≤ l <;> simp [h]
    · rw [S.its, ← left_enum ns cs l 0 hl]
      unfold enumD wsD
      rw [List.zipIdx_map, List.map_map, List.filter_map, List.map_map, List.map_map]
      rfl
end K80

/-! Who is possible, who is never parted. -/
namespace K80
open PySem PySem.Spec PyProof.Rows L2 KD
variable {P : Program} {w : World} {K : PySem.W.Frag} {mg : Str → Option Value} {base : Heap}
section
variable {X : Addr → Prop} {σ : L2.St} {H : Hp} {te : TE} {tz : TS} {D : Ends} {d : PyData}
theorem q_drop (h : G X te σ H d) (k : ∀ H1, Same H H1 → tz D σ H1) : tSeq (tDrop te) tz D σ H := h H (Same.refl H) _ fun v H1 s _ => k H1 s
theorem k_name {i : Nat} {v : V} {Ψ : L2.St → Hp → Prop} (h : Ψ (σ.set i (some v)) H) : gName i v σ H Ψ := h
theorem k_drop1 (h : tSeq (tDrop te) (fun D σ H => D.nx σ H) D σ H) : tDrop te D σ H := h
theorem k_set1 {i : Nat} (h : te σ H fun v H1 => D.nx (σ.set i (some v)) H1) : tAsg te (gName i) D σ H := h
end
theorem ix_seqK {X : Cx} (h : X.K = K) : IxR X (rIx K) := h ▸ ix_seq
/-! ### a target that takes lists and tuples -/
def gAny (K : PySem.W.Frag) (n : Nat) (t : TGs) : TG := fun v σ H Q => gTup K n t v σ H Q ∨ gUnl K n t v σ H Q
theorem pg_any {X : Cx} {es : List Expr} {k : Nat} {pos : Pos} {n : Nat} {t : TGs} (hc : X.calm = true) (hs : PGs X es t) (hn : (assignEach es X.env).length = n := by rfl) (hst : List.findIdx? (·.1) (assignEach es X.env) = none := by rfl) : PG X (.Tuple es k pos) (gAny X.K n t) := by
  exact ⟨fun pins s σ H v u Q I r h => h.elim (fun h => (pg_tup hc hs hn hst).run pins s σ H v u Q I r h) fun h => (pg_unl hc hs hn hst).run pins s σ H v u Q I r h⟩
theorem g_any2 {X : Addr → Prop} {H : Hp} {σ : L2.St} {K : PySem.W.Frag} {i j : Nat} {v : V} {c d e : PyData} (hd : DX X H v c) (hs : isSeq c = true) (hi : itemsD c = [d, e]) {Ψ : L2.St → Hp → Prop} (q : ∀ u w, DX X H u d → DX X H w e → Ψ ((σ.set i (some u)).set j (some w)) H) :
    gAny K 2 (gCons (gName i) (gCons (gName j) gNil)) v σ H Ψ := by
  cases c with
  | tuple ds =>
    have e : ds = [d, e] := hi
    subst e
    exact .inl (g_pair hd q)
  | list ds =>
    have e : ds = [d, e] := hi
    subst e
    obtain ⟨a, xs, rfl, _, ea, rx⟩ := hd.lst_inv
    cases rx with
    | cons h1 rx =>
      cases rx with
      | cons h2 rx =>
        cases rx
        exact .inr ⟨a, _, rfl, SqL.of ea, rfl, _, _, rfl, _, _, rfl, rfl, q _ _ h1 h2⟩
  | _ => cases hs
/-! ### answers -/
def blOf : PyData → Bool
  | .bool b => b
  | _ => false
def ansOf (z : PyData) : Nat × Bool := ((intOf (it z 0)).toNat, blOf (it z 1))
structure Ans (d : PyData) (ps : List (Nat × Bool)) (n : Nat) : Prop where
  seq : isSeq d = true
  its : (itemsD d).map ansOf = ps
  few : ps.length ≤ 1000
  ok : ∀ z ∈ itemsD d, isSeq z = true ∧ ∃ (i : Nat) (b : Bool), itemsD z = [.int (i : Int), .bool b] ∧ i < n
theorem Ans.len {d : PyData} {ps : List (Nat × Bool)} {n : Nat} (A : Ans d ps n) : (itemsD d).length = ps.length := by rw [← A.its, List.length_map]
theorem ans_at {z : PyData} {i : Nat} {b : Bool} (h : itemsD z = [.int (i : Int), .bool b]) : ansOf z = (i, b) ∧ it z 0 = .int (i : Int) ∧ it z 1 = .bool b := by
  have h0 : it z 0 = .int (i : Int) := by
    unfold it
    rw [h]
    rfl
  have h1 : it z 1 = .bool b := by
    unfold it
    rw [h]
    rfl
  refine ⟨?_, h0, h1⟩
  unfold ansOf
  rw [h0, h1]
  show ((i : Int).toNat, b) = (i, b)
  rw [show (i : Int).toNat = i by omega]
/-- how many answers were wrong, if it is the one -/
def wrongs (x : Str) (as : List (List Str)) (ps : List (Nat × Bool)) : Nat := (ps.filter fun p => decide (x ∈ as.getD p.1 []) != p.2).length
def wrongL (ns : List Str) (as : List (List Str)) (ps : List (Nat × Bool)) : List Nat := ns.map fun x => wrongs x as ps
theorem wrong_step (ns : List Str) (as : List (List Str)) (ps : List (Nat × Bool)) (i : Nat) (b : Bool) : List.zipWith (fun c m => if m = b then c else c + 1) (wrongL ns as ps) (bitsOf ns (as.getD i [])) = wrongL ns as (ps ++ [(i, b)]) := by
  unfold wrongL bitsOf
  rw [List.zipWith_map, List.zipWith_self]
  refine List.map_congr_left fun x _ => ?_
  unfold wrongs
  rw [List.filter_append, List.length_append]
  by_cases h : decide (x ∈ as.getD i []) = b
  · rw [if_pos h, List.filter_cons_of_neg (by simpa using h)]
    rfl
  · rw [if_neg h, List.filter_cons_of_pos (by simpa using h)]
    rfl
def spState : Sp := fun vs H Q _ => ∃ (X : Addr → Prop) (v1 v2 v3 v4 : V) (s a n : PyData) (l : Int) (ns : List Str) (as : List (List Str)) (ps : List (Nat × Bool)), vs = [v1, v2, v3, v4] ∧ Trk X H ∧ DX X H v1 s ∧ DX X H v2 a ∧ DX X H v3 n ∧ DX X H v4 (.int l) ∧ Sus s ns ∧ Ask a as ∧ Ans n ps as.length ∧ lieI (.int l) ∧
  ∀ w H', Same H H' → DX X H' w (stC l (wrongL ns as ps)) → Q w H'
section
variable {X : Addr → Prop} {H : Hp} {σ : L2.St} {ta tb tc td : TE} {E : XK}
theorem g_ans {l : Int} {cs : List Nat} {ms : List Bool} {b : Bool} (t : Trk X H) (h1 : G X ta σ H (stC l cs)) (h2 : G X tb σ H (.int (KB.mk ms))) (h3 : G X tc σ H (.bool b)) (h4 : G X td σ H (.int l)) (hl : cs.length = ms.length) (lie : lieI (.int l)) :
    G X (tCall spAns [] E (tCons ta (tCons tb (tCons tc (tCons td tNil))))) σ H (stC l (List.zipWith (fun c m => if m = b then c else c + 1) cs ms)) :=
  g_call (ga_cons h1 (ga_cons h2 (ga_cons h3 (ga_cons h4 ga_nil)))) fun vs H1 s rs Q q => by
    cases rs with
    | cons r1 rs =>
      cases rs with
      | cons r2 rs =>
        cases rs with
        | cons r3 rs =>
          cases rs with
          | cons r4 rs =>
            cases rs
            exact ⟨X, _, _, _, _, l, cs, ms, b, rfl, t.mono s, r1, r2, r3, r4, hl, lie, q⟩
end
-- HINT state_behind it pi_seq
-- HINT state_behind tgt pg_any
-- HINT state_behind ix (ix_seqK (K := K) rfl)
end K80

/-! Who is never parted. -/
namespace K80
open PySem PySem.Spec PyProof.Rows L2 KD
variable {P : Program} {w : World} {K : PySem.W.Frag} {mg : Str → Option Value} {base : Heap}
/-- the first pair of which f holds -/
def Fst (n : Nat) (f : Nat → Nat → Bool) : Option (Nat × Nat) → Prop
  | none => ∀ i j, i < j → j < n → f i j = false
  | some (i, j) => i < j ∧ j < n ∧ f i j = true ∧ ∀ i' j', i' < j' → j' < n → f i' j' = true → i < i' ∨ (i = i' ∧ j ≤ j')
theorem Fst.uniq {n : Nat} {f : Nat → Nat → Bool} : ∀ {o o' : Option (Nat × Nat)}, Fst n f o → Fst n f o' → o = o'
  | none, none, _, _ => rfl
  | none, some (i, j), h, k => by
    have := h i j k.1 k.2.1
    rw [k.2.2.1] at this
    cases this
  | some (i, j), none, h, k => by
    have := k i j h.1 h.2.1
    rw [h.2.2.1] at this
    cases this
  | some (i, j), some (i', j'), h, k => by
    have a := h.2.2.2 i' j' k.1 k.2.1 k.2.2.1
    have b := k.2.2.2 i j h.1 h.2.1 h.2.2.1
    have e1 : i = i' := by omega
    have e2 : j = j' := by omega
    rw [e1, e2]
/-- i and j stand in the same askings -/
def sameB (ns : List Str) (as : List (List Str)) (i j : Nat) : Bool := as.all fun a => decide (ns.getD i "" ∈ a) == decide (ns.getD j "" ∈ a)
def optD (ns : List Str) : Option (Nat × Nat) → PyData
  | none => .none
  | some (i, j) => .tuple [.str (ns.getD i ""), .str (ns.getD j "")]
def toldR (n : Str) (as : List (List Str)) : List Int := as.map fun a => if n ∈ a then 1 else 0
def toldD (ns : List Str) (as : List (List Str)) : PyData := .list (ns.map fun n => .list ((toldR n as).map PyData.int))
theorem eqv_ints : ∀ xs ys : List Int, PyData.eqvAll (xs.map PyData.int) (ys.map PyData.int) = decide (xs = ys)
  | [], [] => by simp [PyData.eqvAll]
  | [], _ :: _ => by simp [PyData.eqvAll]
  | _ :: _, [] => by simp [PyData.eqvAll]
  | x :: xs, y :: ys => by
    rw [List.map_cons, List.map_cons, PyData.eqvAll, eqv_ints xs ys, eqv_int]
    by_cases h : x = y <;> by_cases h2 : xs = ys <;> simp [h, h2]
theorem told_same (n m : Str) (as : List (List Str)) : decide (toldR n as = toldR m as) = as.all fun a => decide (n ∈ a) == decide (m ∈ a) := by
  induction as with
  | nil => rfl
  | cons a as ih =>
    have e : toldR n (a :: as) = toldR m (a :: as) ↔ (if n ∈ a then (1 : Int) else 0) = (if m ∈ a then 1 else 0) ∧ toldR n as = toldR m as := by
      unfold toldR
      rw [List.map_cons, List.map_cons, List.cons.injEq]
    rw [decide_eq_decide.mpr e, Bool.decide_and, ih, List.all_cons]
    congr 1
    by_cases h : n ∈ a <;> by_cases h2 : m ∈ a <;> simp [h, h2]
theorem sh_ints (xs : List Int) : noDict (.list (xs.map PyData.int)) = true ∧ SeqAt.shaped (.list (xs.map PyData.int)) = true := by
  have lf : ∀ d ∈ xs.map PyData.int, leaf d = true := fun d hd => by
    obtain ⟨i, _, rfl⟩ := List.mem_map.mp hd
    rfl
  exact ⟨noDicts_leaf lf, shaped_leafs lf⟩
def scTold : Scope := { kind := ScopeKind.function, names := [(".0", NameKind.local), ("place", NameKind.cell), ("masks", NameKind.cell)], isGenerator := false, isCoroutine := false }
def spParted : Sp := fun vs H Q _ => ∃ (X : Addr → Prop) (v1 v2 : V) (s a : PyData) (ns : List Str) (as : List (List Str)), vs = [v1, v2] ∧ Trk X H ∧ DX X H v1 s ∧ DX X H v2 a ∧ Sus s ns ∧ Ask a as ∧ ∀ o w H', Fst ns.length (sameB ns as) o → Same H H' → DX X H' w (optD ns o) → Q w H'
-- HINT never_parted enum pi_enumQ
-- HINT never_parted lcsc#2 scTold
-- HINT never_parted ix (ix_seqK (K := K) rfl)
-- HINT never_parted lcte#1 (tLc (iList K (tVar 2)) (gName 7) tYes (tOp (rI0 fun i j => V.int (Builtin.bitAnd i j)) (tOp (rI (fun _ j => 0 ≤ j) fun i j => V.int (i / 2 ^ j.toNat)) (tVar 7) (tVar 4)) (tC (.int 1))) [7])
end K80

/-! Searches: counts of wrong answers, heights. -/
namespace KS
/-- more than l + 1 is as much as l + 1 -/
def cp (l : Nat) (cs : List Nat) : List Nat := cs.map fun c => min c (l + 1)
def an (b : Bool) (cs : List Nat) (ms : List Bool) : List Nat := List.zipWith (fun c m => if m = b then c else c + 1) cs ms
def fw (l : Nat) (cs : List Nat) : Nat := (cs.filter fun c => decide (c ≤ l)).length
def fnd (l : Nat) (cs : List Nat) : Bool := decide (fw l cs ≤ 1)
def mu (l : Nat) (cs : List Nat) : Nat := (cs.map fun c => l + 1 - min c (l + 1)).sum
theorem an_len {b : Bool} {cs : List Nat} {ms : List Bool} (h : ms.length = cs.length) : (an b cs ms).length = cs.length := by
  unfold an
  rw [List.length_zipWith, h, Nat.min_self]
theorem cp_an (l : Nat) (b : Bool) : ∀ (cs : List Nat) (ms : List Bool), cp l (an b cs ms) = cp l (an b (cp l cs) ms)
  | [], _ => rfl
  | c :: cs, [] => rfl
  | c :: cs, m :: ms => by
    have ih := cp_an l b cs ms
    unfold cp an at ih ⊢
    rw [List.zipWith_cons_cons, List.map_cons, List.map_cons, List.zipWith_cons_cons, List.map_cons, ← ih]
    congr 1
    split <;> omega
theorem fw_cp (l : Nat) : ∀ cs : List Nat, fw l (cp l cs) = fw l cs
  | [] => rfl
  | c :: cs => by
    have ih := fw_cp l cs
    unfold fw cp at ih ⊢
    rw [List.map_cons, List.filter_cons, List.filter_cons]
    by_cases h : c ≤ l
    · rw [if_pos (by simp; omega), if_pos (by simpa using h), List.length_cons, List.length_cons, ih]
    · rw [if_neg (by simp; omega), if_neg (by simpa using h), ih]
theorem mu_cp (l : Nat) (cs : List Nat) : mu l (cp l cs) = mu l cs := by
  unfold mu cp
  rw [List.map_map]
  congr 1
  refine List.map_congr_left fun c _ => ?_
  show l + 1 - min (min c (l + 1)) (l + 1) = l + 1 - min c (l + 1)
  omega
theorem mu_an (l : Nat) (b : Bool) : ∀ (cs : List Nat) (ms : List Bool), mu l (an b cs ms) ≤ mu l cs
  | [], _ => Nat.le_refl _
  | c :: cs, [] => Nat.zero_le _
  | c :: cs, m :: ms => by
    have ih := mu_an l b cs ms
    unfold mu an at ih ⊢
    rw [List.zipWith_cons_cons, List.map_cons, List.map_cons, List.sum_cons, List.sum_cons]
    split <;> omega
theorem mu_lt {l : Nat} {b : Bool} : ∀ {cs : List Nat} {ms : List Bool}, ms.length = cs.length → cp l cs ≠ cp l (an b cs ms) → mu l (an b cs ms) < mu l cs
  | [], [], _, h => absurd rfl h
  | c :: cs, m :: ms, hl, h => by
    have hl : ms.length = cs.length := by simpa using hl
    have le := mu_an l b cs ms
    by_cases e : cp l cs = cp l (an b cs ms)
    · have h2 : min c (l + 1) ≠ min (if m = b then c else c + 1) (l + 1) := fun z => h (by
        unfold cp an at e ⊢
        rw [List.zipWith_cons_cons, List.map_cons, List.map_cons, ← e, z])
      unfold mu an at le ⊢
      rw [List.zipWith_cons_cons, List.map_cons, List.map_cons, List.sum_cons, List.sum_cons]
      split at h2 <;> rename_i hm
      · exact absurd rfl h2
      · rw [if_neg hm]
        omega
    · have lt := mu_lt hl e
      unfold mu an at lt ⊢
      rw [List.zipWith_cons_cons, List.map_cons, List.map_cons, List.sum_cons, List.sum_cons]
      split <;> omega
  | [], _ :: _, h, _ => by cases h
  | _ :: _, [], h, _ => by cases h
theorem mu_zero {l : Nat} : ∀ {cs : List Nat}, mu l cs = 0 → fw l cs = 0
  | [], _ => rfl
  | c :: cs, h => by
    unfold mu at h
    rw [List.map_cons, List.sum_cons] at h
    have ih := mu_zero (l := l) (cs := cs) (by unfold mu; omega)
    unfold fw at ih ⊢
    rw [List.filter_cons, if_neg (by simp; omega)]
    exact ih
theorem mu_le (l : Nat) : ∀ cs : List Nat, mu l cs ≤ cs.length * (l + 1)
  | [] => by simp [mu]
  | c :: cs => by
    have ih := mu_le l cs
    unfold mu at ih ⊢
    rw [List.map_cons, List.sum_cons, List.length_cons, Nat.add_mul, Nat.one_mul]
    omega
/-- what is left behind one asking -/
def hw (f : List Nat → Option Nat) (l : Nat) (cs : List Nat) (ms : List Bool) : Option Nat := if cp l cs = cp l (an true cs ms) ∨ cp l cs = cp l (an false cs ms) then none else match f (an true cs ms), f (an false cs ms) with
  | some a, some b => some (max a b)
  | _, _ => none
def hF (M : List (List Bool)) (l : Nat) : Nat → List Nat → Option Nat
  | 0, cs => if fnd l cs then some 0 else none
  | k + 1, cs => if fnd l cs then some 0 else ((M.filterMap (hw (hF M l k) l cs)).min?).map (· + 1)
def hh (M : List (List Bool)) (l : Nat) (cs : List Nat) : Option Nat := hF M l (mu l cs) cs
theorem hw_congr {f g : List Nat → Option Nat} {l : Nat} {cs : List Nat} {ms : List Bool} (h : ¬ (cp l cs = cp l (an true cs ms) ∨ cp l cs = cp l (an false cs ms)) → ∀ b, f (an b cs ms) = g (an b cs ms)) : hw f l cs ms = hw g l cs ms := by
  unfold hw
  split
  · rfl
  · rename_i c
    rw [h c true, h c false]
theorem fm_congr {α β : Type} {f g : α → Option β} : ∀ {l : List α}, (∀ x ∈ l, f x = g x) → l.filterMap f = l.filterMap g
  | [], _ => rfl
  | a :: r, h => by
    rw [List.filterMap_cons, List.filterMap_cons, h a List.mem_cons_self, fm_congr fun x hx => h x (List.mem_cons_of_mem _ hx)]
section
variable {M : List (List Bool)} {l : Nat}
theorem hF_cp : ∀ (k : Nat) (a b : List Nat), cp l a = cp l b → hF M l k a = hF M l k b
  | 0, a, b, e => by
    unfold hF fnd
    rw [← fw_cp l a, ← fw_cp l b, e]
  | k + 1, a, b, e => by
    have e1 : ∀ (c : Bool) (ms : List Bool), cp l (an c a ms) = cp l (an c b ms) := fun c ms => by rw [cp_an, e, ← cp_an]
    have e2 : fnd l a = fnd l b := by unfold fnd; rw [← fw_cp l a, ← fw_cp l b, e]
    have e3 : ∀ ms, hw (hF M l k) l a ms = hw (hF M l k) l b ms := fun ms => by
      unfold hw
      rw [e, e1, e1, hF_cp k _ _ (e1 true ms), hF_cp k _ _ (e1 false ms)]
    unfold hF
    rw [e2, fm_congr fun ms _ => e3 ms]
theorem hh_cp {a b : List Nat} (e : cp l a = cp l b) : hh M l a = hh M l b := by
  unfold hh
  rw [← mu_cp l a, ← mu_cp l b, e]
  exact hF_cp _ a b e
theorem hF_step {n : Nat} (hM : ∀ ms ∈ M, ms.length = n) : ∀ (k : Nat) (cs : List Nat), cs.length = n → mu l cs ≤ k → hF M l (k + 1) cs = hF M l k cs
  | 0, cs, hn, h => by
    have e : fnd l cs = true := by
      unfold fnd
      rw [mu_zero (by omega)]
      rfl
    unfold hF
    rw [if_pos e, if_pos e]
  | k + 1, cs, hn, h => by
    unfold hF
    rw [fm_congr (g := hw (hF M l k) l cs) fun ms hms => hw_congr fun c b => ?_]
    have hl : ms.length = cs.length := by rw [hM ms hms, hn]
    have ne : cp l cs ≠ cp l (an b cs ms) := fun z => c (by cases b; exact .inr z; exact .inl z)
    have := mu_lt hl ne
    exact hF_step hM k _ (by rw [an_len hl]; exact hn) (by omega)
theorem hF_hh {n : Nat} (hM : ∀ ms ∈ M, ms.length = n) {cs : List Nat} (hn : cs.length = n) : ∀ (d : Nat), hF M l (mu l cs + d) cs = hh M l cs
  | 0 => rfl
  | d + 1 => by
    rw [← Nat.add_assoc, hF_step hM _ cs hn (by omega)]
    exact hF_hh hM hn d
theorem hh_eq {n : Nat} (hM : ∀ ms ∈ M, ms.length = n) {cs : List Nat} (hn : cs.length = n) : hh M l cs = if fnd l cs then some 0 else ((M.filterMap (hw (hh M l) l cs)).min?).map (· + 1) := by
  rw [← hF_hh hM hn 1]
  show hF M l (mu l cs + 1) cs = _
  unfold hF
  rw [fm_congr (g := hw (hh M l) l cs) fun ms hms => hw_congr fun c b => ?_]
  have hl : ms.length = cs.length := by rw [hM ms hms, hn]
  have ne : cp l cs ≠ cp l (an b cs ms) := fun z => c (by cases b; exact .inr z; exact .inl z)
  have lt := mu_lt hl ne
  have := hF_hh hM (l := l) (cs := an b cs ms) (by rw [an_len hl]; exact hn) (mu l cs - mu l (an b cs ms))
  rw [show mu l (an b cs ms) + (mu l cs - mu l (an b cs ms)) = mu l cs by omega] at this
  exact this
/-- the first asking behind which the least is left -/
def nxt (M : List (List Bool)) (l : Nat) (cs : List Nat) : Option Nat := match hh M l cs with
  | some (h + 1) => M.findIdx? fun ms => decide (hw (hh M l) l cs ms = some h)
  | _ => none
theorem nxt_some {n : Nat} (hM : ∀ ms ∈ M, ms.length = n) {cs : List Nat} (hn : cs.length = n) {h : Nat} (e : hh M l cs = some (h + 1)) : ∃ i, nxt M l cs = some i ∧ ∃ ms, M[i]? = some ms ∧ hw (hh M l) l cs ms = some h ∧ ∀ j, j < i → ∀ ms', M[j]? = some ms' → hw (hh M l) l cs ms' ≠ some h := by
  have he := e
  rw [hh_eq hM hn] at he
  split at he
  · cases he
  · obtain ⟨x, hx, e2⟩ := Option.map_eq_some_iff.mp he
    have e2 : x = h := by omega
    subst e2
    have hx := List.min?_mem hx
    obtain ⟨ms, hms, e3⟩ := List.mem_filterMap.mp hx
    have hu : nxt M l cs = M.findIdx? fun ms => decide (hw (hh M l) l cs ms = some x) := by unfold nxt; rw [e]
    cases hf : M.findIdx? fun ms => decide (hw (hh M l) l cs ms = some x) with
    | none =>
      have := List.findIdx?_eq_none_iff.mp hf ms hms
      rw [decide_eq_true e3] at this
      cases this
    | some i =>
      obtain ⟨hi, hp, hb⟩ := List.findIdx?_eq_some_iff_getElem.mp hf
      refine ⟨i, by rw [hu, hf], M[i], List.getElem?_eq_getElem hi, of_decide_eq_true hp, fun j hj ms' hm' => ?_⟩
      have := hb j hj
      obtain ⟨h1, h2⟩ := List.getElem?_eq_some_iff.mp hm'
      rw [← h2]
      exact fun z => this (decide_eq_true z)
/-- an asking that leads on keeps someone possible, whatever is answered -/
theorem fw_pos {b : Bool} : ∀ {cs : List Nat} {ms : List Bool}, ms.length = cs.length → 0 < fw l cs → cp l cs ≠ cp l (an (!b) cs ms) → 0 < fw l (an b cs ms)
  | [], [], _, h, _ => h
  | c :: cs, m :: ms, hl, h, h2 => by
    have hl : ms.length = cs.length := by simpa using hl
    refine Classical.byContradiction fun h0 => h2 ?_
    have h0 : fw l (an b (c :: cs) (m :: ms)) = 0 := by omega
    -- each possible one is hurt by b, so is none of them by the other answer
    have key : ∀ {cs : List Nat} {ms : List Bool}, ms.length = cs.length → fw l (an b cs ms) = 0 → cp l cs = cp l (an (!b) cs ms) := fun {cs} => by
      induction cs with
      | nil =>
        intro ms _ _
        unfold an cp
        rfl
      | cons c cs ih =>
        intro ms hl h0
        cases ms with
        | nil => cases hl
        | cons m ms =>
          have hl : ms.length = cs.length := by simpa using hl
          unfold fw an at h0
          rw [List.zipWith_cons_cons] at h0
          generalize hx : (if m = b then c else c + 1) = x at h0
          rw [List.filter_cons] at h0
          by_cases hc : x ≤ l
          · rw [if_pos (by simpa using hc), List.length_cons] at h0
            omega
          · rw [if_neg (by simpa using hc)] at h0
            have ih := ih (ms := ms) hl (by unfold fw an; exact h0)
            unfold cp an at ih ⊢
            rw [List.zipWith_cons_cons, List.map_cons, List.map_cons, ← ih]
            congr 1
            cases m <;> cases b <;> simp at hx ⊢ <;> omega
    exact key (by rw [List.length_cons, List.length_cons, hl]) h0
  | [], _ :: _, h, _, _ => by cases h
  | _ :: _, [], h, _, _ => by cases h
end
end KS

/-! A comprehension whose things change one object. -/
namespace KD
open PySem PySem.Spec PyProof.Rows L2
/-- all but L stays -/
def KpO (L : Addr) (H H' : Hp) : Prop := ∀ a o, a ≠ L → H a = some o → H' a = some o
section
variable {X : Addr → Prop} {σ : L2.St} {H H' H2 : Hp} {Γ : List Sv} {L : Addr} {te : TE} {Q : VK} {K : PySem.W.Frag}
theorem KpO.of (s : Same H H') : KpO L H H' := fun a o _ e => s a o e
theorem KpO.trans (h : KpO L H H') (k : KpO L H' H2) : KpO L H H2 := fun a o n e => k a o n (h a o n e)
theorem KpO.put {o : HO} : KpO L H (upd H L o) := fun a u n e => by rw [upd_ne n]; exact e
theorem KpO.kp (k : KpO L H H') (x : X L) : Kp X H H' := fun a o n e => k a o (fun z => n (z ▸ x)) e
theorem KpO.trk (k : KpO L H H') (t : Trk X H) (h : ∃ o, H' L = some o) : Trk X H' := fun a ha => by
  by_cases e : a = L
  · rw [e]
    exact h
  · obtain ⟨o, ho⟩ := t a ha
    exact ⟨o, k a o e ho⟩
theorem KpO.ne (k : KpO L H H') {p : Addr} (n : p ≠ L) (h : H' p = none) : H p = none := by
  cases e : H p with
  | none => rfl
  | some o =>
    rw [k p o n e] at h
    cases h
theorem walkD_lst {a : Addr} {ds : List PyData} (hd : DX X H (.ref a) (.list ds)) : WalkD X (Itl K a) H ds := by
  obtain ⟨a', xs, ea, n, e, rx⟩ := hd.lst_inv
  cases ea
  refine ⟨_, _, by rw [← rx.length]; exact walk_list, fun X' m H3 k t => ?_⟩
  have n' : ¬ X' a := fun z => (m a z).elim n fun q => by rw [e] at q; cases q
  refine ⟨SqL.of (k a _ n' e), fun i x H4 y => ?_⟩
  obtain ⟨rfl, hx⟩ := y
  obtain ⟨d, h1, h2⟩ := rx.getV hx
  exact ⟨Same.refl _, d, h1, (h2.grow m).mono k⟩
/-- each thing of a list, with effects on one object -/
theorem lc_eff {i : Nat} {a : Addr} {ds : List PyData} (Pr : Hp → Prop) (val : Nat → V) (t : Trk X H) (xl : X L) (En : EnvOk X H σ Γ) (hd : DX X H (.ref a) (.list ds)) (hl : ds.length ≤ 1000) (p0 : Pr H) (pS : ∀ H1 H2, Pr H1 → H2 L = H1 L → Pr H2) (pL : ∀ H1, Pr H1 → ∃ o, H1 L = some o)
    (ht : ∀ (X' : Addr → Prop) (H1 : Hp) (σ2 : L2.St) (k : Nat) (d : PyData) (Q1 : VK), ds[k]? = some d → X' L → Trk X' H1 → EnvOk X' H1 σ2 ((Γ.set i .un).set i (.dat d)) → Pr H1 → (∀ H', KpO L H1 H' → Pr H' → Q1 (val k) H') → te σ2 H1 Q1)
    (q : ∀ p H', H p = none → KpO L H H' → Pr H' → H' p = some (.lst ((List.range ds.length).map val)) → Q (.ref p) H') : tLc (fun _ H2 R => R (Itl K a) H2) (gName i) tYes te [i] σ H Q := by
  intro D hD
  have m2 : More X (fun a => X a ∨ a = D) H := More.one hD
  have nDL : D ≠ L := fun z => t.new hD (z ▸ xl)
  obtain ⟨Gd, Y, w1, w2⟩ := walkD_lst (K := K) hd
  let I : Nat → Hp → Prop := fun k H3 => KpO L H H3 ∧ Trk (fun a => X a ∨ a = D) H3 ∧ Pr H3 ∧ H3 D = some (.lst ((List.range k).map val))
  have ik : ∀ {k H3}, I k H3 → Kp (fun a => X a ∨ a = D) H H3 := fun {k H3} p => p.1.kp (.inl xl)
  refine lc_it w1 I ⟨KpO.of (Same.upd hD), t.one hD, pS _ _ p0 (upd_ne (Ne.symm nDL)), upd_same⟩ (fun k H3 _ p => (w2 _ m2.2 H3 (ik p) p.2.1).1) ?_ ?_
  · rintro k x H3 H4 hk p y
    obtain ⟨s4, d, hdk, dx⟩ := (w2 _ m2.2 H3 (ik p) p.2.1).2 k x H4 y
    obtain ⟨p1, p2, p3, p4⟩ := p
    have hkl := (List.getElem?_eq_some_iff.mp hdk).1
    obtain ⟨o3, ho3⟩ := pL H3 p3
    have p34 : Pr H4 := pS _ _ p3 (by rw [ho3]; exact s4 _ _ ho3)
    have t4 := p2.mono s4
    have k4 : Kp (fun a => X a ∨ a = D) H H4 := (p1.kp (.inl xl)).trans (Kp.of s4)
    refine tgt_name (X := X) (i := i) En _ H4 m2 k4 t4 x dx _ fun σ2 E2 hw => ⟨hw, ?_⟩
    show te σ2 H4 _
    refine ht _ H4 σ2 k d _ hdk (.inl xl) t4 E2 p34 fun H5 k5 p5 => ?_
    have k45 : KpO L H H5 := (p1.trans (KpO.of s4)).trans k5
    have e5 : H5 D = some (.lst ((List.range k).map val)) := k5 D _ nDL (s4 D _ p4)
    refine ⟨_, e5, by rw [List.length_map, List.length_range, sizeLine_eq]; omega, ?_, ?_, ?_, ?_⟩
    · exact fun b o n e => by
        have := k45 b o n e
        rw [upd_ne (ne_of_none e hD)]
        exact this
    · exact (k5.trk t4 (pL _ p5)).put
    · exact pS _ _ p5 (upd_ne (Ne.symm nDL))
    · rw [upd_same, List.range_succ, List.map_append]
      rfl
  · rintro H3 ⟨p1, p2, p3, p4⟩
    exact q D H3 hD p1 p3 p4
end
end KD

/-! Longest common rows: how long they are, which matches are on one. -/
namespace KL
variable (M : Nat → Nat → Bool)
def nxt (m : Nat → Bool) (b : Nat → Nat) : Nat → Nat
  | 0 => 0
  | j + 1 => max (max (b (j + 1)) (nxt m b j)) (if m j = true then b j + 1 else 0)
/-- how long a common row of the first i and the first j can be -/
def L : Nat → Nat → Nat
  | 0 => fun _ => 0
  | i + 1 => nxt (M i) (L i)
abbrev Pr := Nat × Nat
def bh (a b : Pr) : Prop := a.1 < b.1 ∧ a.2 < b.2
/-- a common row -/
def Ch (l : List Pr) : Prop := l.Pairwise bh ∧ ∀ p ∈ l, M p.1 p.2 = true
def Bd (i j : Nat) (l : List Pr) : Prop := ∀ p ∈ l, p.1 < i ∧ p.2 < j
variable {M}
theorem ch_nil : Ch M [] := ⟨.nil, fun p h => by cases h⟩
theorem ch_left {l k : List Pr} (h : Ch M (l ++ k)) : Ch M l := ⟨(List.pairwise_append.mp h.1).1, fun p hp => h.2 p (List.mem_append_left _ hp)⟩
theorem ch_right {l k : List Pr} (h : Ch M (l ++ k)) : Ch M k := ⟨(List.pairwise_append.mp h.1).2.1, fun p hp => h.2 p (List.mem_append_right _ hp)⟩
theorem ch_app {l k : List Pr} (h : Ch M l) (g : Ch M k) (c : ∀ a ∈ l, ∀ b ∈ k, bh a b) : Ch M (l ++ k) := ⟨List.pairwise_append.mpr ⟨h.1, g.1, c⟩, fun p hp => (List.mem_append.mp hp).elim (h.2 p) (g.2 p)⟩
theorem ch_one {p : Pr} (h : M p.1 p.2 = true) : Ch M [p] := ⟨List.pairwise_singleton _ _, fun q hq => by rw [List.mem_singleton.mp hq]; exact h⟩
theorem ch_last {l : List Pr} {p : Pr} (h : Ch M (l ++ [p])) : Bd p.1 p.2 l := fun a ha => (List.pairwise_append.mp h.1).2.2 a ha p (List.mem_singleton.mpr rfl)
theorem snoc {l : List Pr} : l = [] ∨ ∃ k p, l = k ++ [p] := by
  rcases List.eq_nil_or_concat l with h | ⟨k, p, h⟩
  · exact .inl h
  · exact .inr ⟨k, p, by rw [h]; simp⟩
theorem L_up : ∀ (i j : Nat) (l : List Pr), Ch M l → Bd i j l → l.length ≤ L M i j
  | 0, j, l, h, b => by
    cases l with
    | nil => simp
    | cons p l => exact absurd (b p List.mem_cons_self).1 (by omega)
  | i + 1, 0, l, h, b => by
    cases l with
    | nil => simp
    | cons p l => exact absurd (b p List.mem_cons_self).2 (by omega)
  | i + 1, j + 1, l, h, b => by
    have e : L M (i + 1) (j + 1) = max (max (L M i (j + 1)) (L M (i + 1) j)) (if M i j = true then L M i j + 1 else 0) := rfl
    rw [e]
    rcases snoc (l := l) with rfl | ⟨k, p, rfl⟩
    · simp
    have hp := b p (by simp)
    have hk := ch_last h
    by_cases h1 : p.1 < i
    · have := L_up i (j + 1) (k ++ [p]) h fun q hq => by
        rcases List.mem_append.mp hq with hq | hq
        · have := hk q hq
          omega
        · rw [List.mem_singleton.mp hq]
          omega
      omega
    · by_cases h2 : p.2 < j
      · have := L_up (i + 1) j (k ++ [p]) h fun q hq => by
          rcases List.mem_append.mp hq with hq | hq
          · have := hk q hq
            omega
          · rw [List.mem_singleton.mp hq]
            omega
        omega
      · have e1 : p.1 = i := by omega
        have e2 : p.2 = j := by omega
        have hm := h.2 p (by simp)
        rw [e1, e2] at hm
        have := L_up i j k (ch_left h) fun q hq => by
          have := hk q hq
          omega
        rw [if_pos hm, List.length_append]
        simp
        omega
theorem bd_le {i j i' j' : Nat} {l : List Pr} (h : Bd i j l) (hi : i ≤ i') (hj : j ≤ j') : Bd i' j' l := fun p hp => by
  have := h p hp
  omega
theorem L_is : ∀ (i j : Nat), ∃ l, Ch M l ∧ Bd i j l ∧ l.length = L M i j
  | 0, j => ⟨[], ch_nil, (fun p h => by cases h), rfl⟩
  | i + 1, 0 => ⟨[], ch_nil, (fun p h => by cases h), rfl⟩
  | i + 1, j + 1 => by
    have e : L M (i + 1) (j + 1) = max (max (L M i (j + 1)) (L M (i + 1) j)) (if M i j = true then L M i j + 1 else 0) := rfl
    obtain ⟨l1, a1, b1, c1⟩ := L_is i (j + 1)
    obtain ⟨l2, a2, b2, c2⟩ := L_is (i + 1) j
    obtain ⟨l3, a3, b3, c3⟩ := L_is i j
    by_cases hm : M i j = true
    · rw [if_pos hm] at e
      by_cases h1 : L M (i + 1) (j + 1) = L M i (j + 1)
      · exact ⟨l1, a1, bd_le b1 (by omega) (by omega), by omega⟩
      · by_cases h2 : L M (i + 1) (j + 1) = L M (i + 1) j
        · exact ⟨l2, a2, bd_le b2 (by omega) (by omega), by omega⟩
        · refine ⟨l3 ++ [(i, j)], ch_app a3 (ch_one hm) fun a ha b hb => ?_, fun q hq => ?_, ?_⟩
          · rw [List.mem_singleton.mp hb]
            exact b3 a ha
          · rcases List.mem_append.mp hq with hq | hq
            · have := b3 q hq
              omega
            · rw [List.mem_singleton.mp hq]
              exact ⟨by simp, by simp⟩
          · rw [List.length_append]
            simp
            omega
    · rw [if_neg hm] at e
      by_cases h1 : L M (i + 1) (j + 1) = L M i (j + 1)
      · exact ⟨l1, a1, bd_le b1 (by omega) (by omega), by omega⟩
      · exact ⟨l2, a2, bd_le b2 (by omega) (by omega), by omega⟩
theorem L_mono {i j i' j' : Nat} (hi : i ≤ i') (hj : j ≤ j') : L M i j ≤ L M i' j' := by
  obtain ⟨l, a, b, c⟩ := L_is (M := M) i j
  rw [← c]
  exact L_up _ _ l a (bd_le b hi hj)
/-! ### turned round -/
variable (M) in
def rv (n m : Nat) : Nat → Nat → Bool := fun i j => M (n - 1 - i) (m - 1 - j)
def tp (n m : Nat) (p : Pr) : Pr := (n - 1 - p.1, m - 1 - p.2)
theorem ch_turn {n m : Nat} {l : List Pr} (h : Ch M l) (b : Bd n m l) : Ch (rv M n m) (l.map (tp n m)).reverse := by
  refine ⟨?_, fun p hp => ?_⟩
  · rw [List.pairwise_reverse, List.pairwise_map]
    refine h.1.imp_of_mem fun {x y} hx hy hxy => ?_
    have := b x hx
    have := b y hy
    unfold bh tp at *
    omega
  · rw [List.mem_reverse] at hp
    obtain ⟨q, hq, rfl⟩ := List.mem_map.mp hp
    have := b q hq
    show M (n - 1 - (n - 1 - q.1)) (m - 1 - (m - 1 - q.2)) = true
    rw [show n - 1 - (n - 1 - q.1) = q.1 by omega, show m - 1 - (m - 1 - q.2) = q.2 by omega]
    exact h.2 q hq
theorem rv_rv {n m i j : Nat} (hi : i < n) (hj : j < m) : rv (rv M n m) n m i j = M i j := by
  show M (n - 1 - (n - 1 - i)) (m - 1 - (m - 1 - j)) = M i j
  rw [show n - 1 - (n - 1 - i) = i by omega, show m - 1 - (m - 1 - j) = j by omega]
theorem ch_turn' {n m : Nat} {l : List Pr} (h : Ch (rv M n m) l) (b : Bd n m l) : Ch M (l.map (tp n m)).reverse := by
  have h2 := ch_turn h b
  refine ⟨h2.1, fun p hp => ?_⟩
  have := h2.2 p hp
  rw [List.mem_reverse] at hp
  obtain ⟨q, hq, rfl⟩ := List.mem_map.mp hp
  have hb := b q hq
  rwa [rv_rv (by unfold tp; omega) (by unfold tp; omega)] at this
/-- the longest row that ends with p, the longest one that begins with it -/
def lev (M : Nat → Nat → Bool) (p : Pr) : Nat := L M p.1 p.2 + 1
def rst (M : Nat → Nat → Bool) (n m : Nat) (p : Pr) : Nat := L (rv M n m) (n - 1 - p.1) (m - 1 - p.2) + 1
theorem lev_up {l : List Pr} {p : Pr} (h : Ch M (l ++ [p])) : l.length + 1 ≤ lev M p := by
  have := L_up _ _ l (ch_left h) (ch_last h)
  unfold lev
  omega
theorem lev_is (p : Pr) (hp : M p.1 p.2 = true) : ∃ l, Ch M (l ++ [p]) ∧ Bd p.1 p.2 l ∧ l.length + 1 = lev M p := by
  obtain ⟨l, a, b, c⟩ := L_is (M := M) p.1 p.2
  exact ⟨l, ch_app a (ch_one hp) fun x hx y hy => by rw [List.mem_singleton.mp hy]; exact b x hx, b, by unfold lev; omega⟩
theorem ch_first {l : List Pr} {p : Pr} (h : Ch M (p :: l)) : ∀ q ∈ l, bh p q := (List.pairwise_cons.mp h.1).1
theorem rst_up {n m : Nat} {l : List Pr} {p : Pr} (h : Ch M (p :: l)) (b : Bd n m (p :: l)) : l.length + 1 ≤ rst M n m p := by
  have hp := b p List.mem_cons_self
  have h2 := ch_turn h b
  rw [List.map_cons, List.reverse_cons] at h2
  have := L_up _ _ _ (ch_left h2) (ch_last h2)
  rw [List.length_reverse, List.length_map] at this
  unfold rst
  unfold tp at this
  exact Nat.succ_le_succ this
theorem rst_is {n m : Nat} (p : Pr) (hp : M p.1 p.2 = true) (hn : p.1 < n) (hm : p.2 < m) : ∃ l, Ch M (p :: l) ∧ Bd n m (p :: l) ∧ l.length + 1 = rst M n m p := by
  obtain ⟨l, a, b, c⟩ := L_is (M := rv M n m) (n - 1 - p.1) (m - 1 - p.2)
  have b' : Bd n m l := bd_le b (by omega) (by omega)
  have a' := ch_turn' a b'
  have bb : ∀ q ∈ (l.map (tp n m)).reverse, bh p q ∧ q.1 < n ∧ q.2 < m := fun q hq => by
    rw [List.mem_reverse] at hq
    obtain ⟨r, hr, rfl⟩ := List.mem_map.mp hq
    have := b r hr
    unfold bh tp
    omega
  refine ⟨(l.map (tp n m)).reverse, ch_app (ch_one hp) a' fun x hx y hy => by rw [List.mem_singleton.mp hx]; exact (bb y hy).1, fun q hq => ?_, by unfold rst; rw [List.length_reverse, List.length_map]; omega⟩
  rcases List.mem_cons.mp hq with rfl | hq
  · exact ⟨hn, hm⟩
  · exact (bb q hq).2
/-! ### on a longest one -/
section
variable {n m : Nat}
theorem sum_le {p : Pr} (hp : M p.1 p.2 = true) (hn : p.1 < n) (hm : p.2 < m) : lev M p + rst M n m p ≤ L M n m + 1 := by
  obtain ⟨l, a1, b1, c1⟩ := lev_is p hp
  obtain ⟨k, a2, b2, c2⟩ := rst_is (n := n) (m := m) p hp hn hm
  have h : Ch M (l ++ p :: k) := ch_app (ch_left a1) a2 fun x hx y hy => by
    have h1 := b1 x hx
    rcases List.mem_cons.mp hy with rfl | hy
    · exact h1
    · have h2 := ch_first a2 y hy
      unfold bh at *
      omega
  have := L_up n m _ h fun q hq => by
    rcases List.mem_append.mp hq with hq | hq
    · have := b1 q hq
      omega
    · exact b2 q hq
  rw [List.length_append, List.length_cons] at this
  omega
/-- on a longest row, at its place -/
def On (M : Nat → Nat → Bool) (n m k : Nat) (p : Pr) : Prop := M p.1 p.2 = true ∧ p.1 < n ∧ p.2 < m ∧ lev M p = k ∧ lev M p + rst M n m p = L M n m + 1
theorem on_next {k : Nat} {p : Pr} (h : On M n m k p) (hk : k < L M n m) : ∃ q, On M n m (k + 1) q ∧ bh p q := by
  obtain ⟨h1, h2, h3, h4, h5⟩ := h
  obtain ⟨l, a, b, c⟩ := rst_is (n := n) (m := m) p h1 h2 h3
  cases l with
  | nil =>
    simp at c
    omega
  | cons q l =>
    have a' : Ch M (q :: l) := ch_right (l := [p]) a
    have hq := ch_first a q List.mem_cons_self
    have bq := b q (by simp)
    have mq := a.2 q (by simp)
    have r1 := rst_up (n := n) (m := m) a' fun x hx => b x (List.mem_cons_of_mem _ hx)
    have s1 := sum_le (n := n) (m := m) mq bq.1 bq.2
    obtain ⟨l2, a2, b2, c2⟩ := lev_is p h1
    have lq : l2.length + 1 + 1 ≤ lev M q := by
      have : Ch M ((l2 ++ [p]) ++ [q]) := ch_app a2 (ch_one mq) fun x hx y hy => by
        rw [List.mem_singleton.mp hy]
        rcases List.mem_append.mp hx with hx | hx
        · have := b2 x hx
          unfold bh at *
          omega
        · rw [List.mem_singleton.mp hx]
          exact hq
      have := lev_up this
      rw [List.length_append] at this
      simpa using this
    rw [List.length_cons] at c
    exact ⟨q, ⟨mq, bq.1, bq.2, by omega, by omega⟩, hq⟩
theorem on_first (h : 0 < L M n m) : ∃ q, On M n m 1 q := by
  obtain ⟨l, a, b, c⟩ := L_is (M := M) n m
  cases l with
  | nil =>
    simp at c
    omega
  | cons q l =>
    have bq := b q (by simp)
    have mq := a.2 q (by simp)
    have r1 := rst_up a b
    have s1 := sum_le (n := n) (m := m) mq bq.1 bq.2
    have l1 : 1 ≤ lev M q := by unfold lev; omega
    rw [List.length_cons] at c
    exact ⟨q, mq, bq.1, bq.2, by omega, by omega⟩
theorem on_le {k : Nat} {p : Pr} (h : On M n m k p) : 1 ≤ k ∧ k ≤ L M n m := by
  obtain ⟨h1, h2, h3, h4, h5⟩ := h
  have : 1 ≤ lev M p := by unfold lev; omega
  have : 1 ≤ rst M n m p := by unfold rst; omega
  omega
end
end KL

/-! Longest common rows: all of them by going on; turned texts; texts of one word. -/
namespace KL
variable {M : Nat → Nat → Bool}
theorem len_fst : ∀ {l : List Pr} {lo hi : Nat}, Ch M l → (∀ p ∈ l, lo ≤ p.1 ∧ p.1 < hi) → l.length ≤ hi - lo
  | [], lo, hi, _, _ => by simp
  | p :: l, lo, hi, h, b => by
    have hp := b p List.mem_cons_self
    have := len_fst (lo := p.1 + 1) (hi := hi) (ch_right (l := [p]) h) fun q hq => by
      have h1 := ch_first h q hq
      have h2 := b q (List.mem_cons_of_mem _ hq)
      unfold bh at h1
      omega
    rw [List.length_cons]
    omega
theorem len_snd : ∀ {l : List Pr} {lo hi : Nat}, Ch M l → (∀ p ∈ l, lo ≤ p.2 ∧ p.2 < hi) → l.length ≤ hi - lo
  | [], lo, hi, _, _ => by simp
  | p :: l, lo, hi, h, b => by
    have hp := b p List.mem_cons_self
    have := len_snd (lo := p.2 + 1) (hi := hi) (ch_right (l := [p]) h) fun q hq => by
      have h1 := ch_first h q hq
      have h2 := b q (List.mem_cons_of_mem _ hq)
      unfold bh at h1
      omega
    rw [List.length_cons]
    omega
/-- a straight row: c of them, from (i, j) on -/
def str (i j : Nat) : Nat → List Pr
  | 0 => []
  | c + 1 => (i, j) :: str (i + 1) (j + 1) c
theorem str_len : ∀ {c i j : Nat}, (str i j c).length = c
  | 0, _, _ => rfl
  | c + 1, i, j => by rw [str, List.length_cons, str_len]
theorem str_mem : ∀ {c i j : Nat} {p : Pr}, p ∈ str i j c → ∃ k, k < c ∧ p = (i + k, j + k)
  | 0, _, _, p, h => by cases h
  | c + 1, i, j, p, h => by
    rcases List.mem_cons.mp h with rfl | h
    · exact ⟨0, by omega, rfl⟩
    · obtain ⟨k, hk, rfl⟩ := str_mem h
      exact ⟨k + 1, by omega, by rw [show i + 1 + k = i + (k + 1) by omega, show j + 1 + k = j + (k + 1) by omega]⟩
theorem str_ch : ∀ {c i j : Nat}, (∀ k < c, M (i + k) (j + k) = true) → Ch M (str i j c)
  | 0, _, _, _ => ch_nil
  | c + 1, i, j, h => by
    refine ch_app (l := [(i, j)]) (ch_one (h 0 (by omega))) (str_ch fun k hk => ?_) fun a ha b hb => ?_
    · have := h (k + 1) (by omega)
      rwa [show i + (k + 1) = i + 1 + k by omega, show j + (k + 1) = j + 1 + k by omega] at this
    · rw [List.mem_singleton.mp ha]
      obtain ⟨k, _, rfl⟩ := str_mem hb
      exact ⟨by show i < i + 1 + k; omega, by show j < j + 1 + k; omega⟩
/-- a text of unlike words, turned round -/
theorem L_turned {n a : Nat} (ha : a ≤ n) (h : ∀ i j, i < n → j < n → (M i j = true ↔ i = (if j < n - a then j + a else j - (n - a)))) : L M n n = max (n - a) a := by
  have up : ∀ l, Ch M l → Bd n n l → l.length ≤ max (n - a) a := fun l hl b => by
    have at_ : ∀ p ∈ l, (a ≤ p.1 ∧ p.2 + a = p.1) ∨ (p.1 < a ∧ p.2 = p.1 + (n - a)) := fun p hp => by
      have bp := b p hp
      have := (h p.1 p.2 bp.1 bp.2).mp (hl.2 p hp)
      split at this <;> omega
    cases l with
    | nil => simp
    | cons p l =>
      have first := ch_first hl
      rcases at_ p List.mem_cons_self with hp | hp
      · have := len_fst (lo := a) (hi := n) hl fun q hq => by
          have bq := b q hq
          rcases List.mem_cons.mp hq with rfl | hq
          · omega
          · have := first q hq
            unfold bh at this
            omega
        omega
      · have := len_fst (lo := 0) (hi := a) hl fun q hq => by
          have bq := b q hq
          rcases List.mem_cons.mp hq with rfl | hq'
          · omega
          · have h1 := first q hq'
            have h2 := at_ q hq
            unfold bh at h1
            omega
        omega
  obtain ⟨l, x, y, z⟩ := L_is (M := M) n n
  have h1 := up l x y
  have h2 := L_up n n (str a 0 (n - a)) (str_ch (M := M) fun k hk => (h _ _ (by omega) (by omega)).mpr (by rw [if_pos (by omega)]; omega)) fun p hp => by
    obtain ⟨k, hk, rfl⟩ := str_mem hp
    show a + k < n ∧ 0 + k < n
    omega
  have h3 := L_up n n (str 0 (n - a) a) (str_ch (M := M) fun k hk => (h _ _ (by omega) (by omega)).mpr (by rw [if_neg (by omega)]; omega)) fun p hp => by
    obtain ⟨k, hk, rfl⟩ := str_mem hp
    show 0 + k < n ∧ n - a + k < n
    omega
  rw [str_len] at h2 h3
  omega
/-- texts of one word -/
theorem L_all {n m : Nat} (h : ∀ i j, i < n → j < m → M i j = true) : L M n m = min n m := by
  obtain ⟨l, x, y, z⟩ := L_is (M := M) n m
  have h1 := len_fst (lo := 0) (hi := n) x fun p hp => ⟨by omega, (y p hp).1⟩
  have h2 := len_snd (lo := 0) (hi := m) x fun p hp => ⟨by omega, (y p hp).2⟩
  have h3 := L_up n m (str 0 0 (min n m)) (str_ch (M := M) fun k hk => h _ _ (by omega) (by omega)) fun p hp => by
    obtain ⟨k, hk, rfl⟩ := str_mem hp
    show 0 + k < n ∧ 0 + k < m
    omega
  rw [str_len] at h3
  omega
/-! ### all rows of so many, one longer each time -/
def bhB (a b : Pr) : Bool := decide (a.1 < b.1) && decide (a.2 < b.2)
theorem bhB_iff {a b : Pr} : bhB a b = true ↔ bh a b := by
  unfold bhB bh
  rw [Bool.and_eq_true, decide_eq_true_eq, decide_eq_true_eq]
/-- what may stand behind a row -/
def okNext (row : List Pr) (p : Pr) : Bool := match row.getLast? with
  | none => true
  | some q => bhB q p
def longer (ps : List Pr) (rows : List (List Pr)) : List (List Pr) := rows.flatMap fun row => (ps.filter (okNext row)).map fun p => row ++ [p]
def rowsOf (ps : List Pr) : Nat → List (List Pr)
  | 0 => [[]]
  | k + 1 => longer ps (rowsOf ps k)
section
variable {n m : Nat} {ps : List Pr} (hps : ∀ p : Pr, p ∈ ps ↔ (p.1 < n ∧ p.2 < m ∧ M p.1 p.2 = true))
include hps
theorem rows_sound : ∀ (k : Nat) (l : List Pr), l ∈ rowsOf ps k → Ch M l ∧ Bd n m l ∧ l.length = k
  | 0, l, h => by
    rw [rowsOf, List.mem_singleton] at h
    subst h
    exact ⟨ch_nil, (fun p h => by cases h), rfl⟩
  | k + 1, l, h => by
    rw [rowsOf, longer, List.mem_flatMap] at h
    obtain ⟨row, hr, hl⟩ := h
    obtain ⟨p, hp, rfl⟩ := List.mem_map.mp hl
    rw [List.mem_filter] at hp
    obtain ⟨a, b, c⟩ := rows_sound k row hr
    obtain ⟨q1, q2, q3⟩ := (hps p).mp hp.1
    refine ⟨ch_app a (ch_one q3) fun x hx y hy => ?_, fun q hq => ?_, by rw [List.length_append, c]; rfl⟩
    · rw [List.mem_singleton.mp hy]
      rcases snoc (l := row) with rfl | ⟨r, z, rfl⟩
      · cases hx
      · have hz : bh z p := by
          have := hp.2
          unfold okNext at this
          rw [List.getLast?_append] at this
          simpa [bhB_iff] using this
        rcases List.mem_append.mp hx with hx | hx
        · have := ch_last a x hx
          unfold bh at *
          omega
        · rw [List.mem_singleton.mp hx]
          exact hz
    · rcases List.mem_append.mp hq with hq | hq
      · exact b q hq
      · rw [List.mem_singleton.mp hq]
        exact ⟨q1, q2⟩
theorem rows_full : ∀ (k : Nat) (l : List Pr), Ch M l → Bd n m l → l.length = k → l ∈ rowsOf ps k
  | 0, l, _, _, h => by
    rw [List.length_eq_zero_iff.mp h, rowsOf]
    exact List.mem_singleton.mpr rfl
  | k + 1, l, h, b, e => by
    rcases snoc (l := l) with rfl | ⟨r, p, rfl⟩
    · cases e
    · rw [rowsOf, longer, List.mem_flatMap]
      refine ⟨r, rows_full k r (ch_left h) (fun q hq => b q (List.mem_append_left _ hq)) (by rw [List.length_append] at e; simp at e; exact e), List.mem_map.mpr ⟨p, List.mem_filter.mpr ⟨?_, ?_⟩, rfl⟩⟩
      · have := b p (by simp)
        exact (hps p).mpr ⟨this.1, this.2, h.2 p (by simp)⟩
      · unfold okNext
        rcases snoc (l := r) with rfl | ⟨s, z, rfl⟩
        · rfl
        · rw [List.getLast?_append]
          show bhB z p = true
          rw [bhB_iff]
          exact (List.pairwise_append.mp h.1).2.2 z (by simp) p (by simp)
theorem rows_none {k : Nat} : rowsOf ps k = [] ↔ L M n m < k := by
  constructor
  · intro h
    by_cases hk : k ≤ L M n m
    · obtain ⟨l, x, y, z⟩ := L_is (M := M) n m
      have : l.take k ∈ rowsOf ps k := rows_full hps k _ (ch_left (k := l.drop k) (by rw [List.take_append_drop]; exact x)) (fun p hp => y p (List.mem_of_mem_take hp)) (by rw [List.length_take]; omega)
      rw [h] at this
      cases this
    · omega
  · intro h
    cases e : rowsOf ps k with
    | nil => rfl
    | cons l r =>
      obtain ⟨x, y, z⟩ := rows_sound hps k l (by rw [e]; exact List.mem_cons_self)
      have := L_up n m l x y
      omega
end
end KL

/-! How many common rows there can be. -/
namespace KL
def sm : Nat → (Nat → Nat) → Nat
  | 0, _ => 0
  | n + 1, f => sm n f + f n
theorem sm_le : ∀ {n : Nat} {f g : Nat → Nat}, (∀ i, i < n → f i ≤ g i) → sm n f ≤ sm n g
  | 0, _, _, _ => Nat.le_refl _
  | n + 1, f, g, h => Nat.add_le_add (sm_le fun i hi => h i (by omega)) (h n (by omega))
theorem sm_eq {n : Nat} {f g : Nat → Nat} (h : ∀ i, i < n → f i = g i) : sm n f = sm n g := Nat.le_antisymm (sm_le fun i hi => Nat.le_of_eq (h i hi)) (sm_le fun i hi => Nat.le_of_eq (h i hi).symm)
theorem sm_zero : ∀ {n : Nat}, sm n (fun _ => 0) = 0
  | 0 => rfl
  | n + 1 => by rw [sm, sm_zero]
theorem sm_left : ∀ {n : Nat} {f : Nat → Nat}, sm (n + 1) f = f 0 + sm n fun i => f (i + 1)
  | 0, f => by simp [sm]
  | n + 1, f => by
    rw [sm, sm_left (n := n), sm]
    omega
theorem sm_rev : ∀ {n : Nat} {f : Nat → Nat}, sm n (fun i => f (n - 1 - i)) = sm n f
  | 0, _ => rfl
  | n + 1, f => by
    rw [sm_left, sm]
    have : sm n (fun i => f (n + 1 - 1 - (i + 1))) = sm n fun i => f (n - 1 - i) := sm_eq fun i hi => by
      show f (n + 1 - 1 - (i + 1)) = f (n - 1 - i)
      rw [show n + 1 - 1 - (i + 1) = n - 1 - i by omega]
    rw [this, sm_rev]
    show f (n + 1 - 1 - 0) + sm n f = sm n f + f n
    rw [show n + 1 - 1 - 0 = n by omega]
    omega
/-- those behind q alone -/
theorem sm_behind {q : Nat} : ∀ {n : Nat} {f : Nat → Nat}, sm n (fun i => if q < i then f i else 0) = sm (n - 1 - q) fun k => f (q + 1 + k)
  | 0, f => by
    show 0 = sm (0 - 1 - q) _
    rw [show 0 - 1 - q = 0 by omega]
    rfl
  | n + 1, f => by
    rw [sm, sm_behind (n := n)]
    by_cases h : q < n
    · rw [if_pos h, show n + 1 - 1 - q = (n - 1 - q) + 1 by omega, sm, show q + 1 + (n - 1 - q) = n by omega]
    · rw [if_neg h, show n + 1 - 1 - q = 0 by omega, show n - 1 - q = 0 by omega]
      rfl
/-- all rows but the empty one, in a field of a and b -/
def S : Nat → Nat → Nat
  | 0 => fun _ => 0
  | a + 1 => fun b => S a b + sm b fun j => 1 + S a j
theorem S_is : ∀ (a b : Nat), S a b = sm a fun i => sm b fun j => 1 + S i j
  | 0, _ => rfl
  | a + 1, b => by
    show S a b + _ = sm a _ + _
    rw [S_is a b]
theorem S_left : ∀ (i j a b : Nat), i ≤ a → j ≤ b → S i j ≤ S a b := by
  have one : ∀ (b : Nat) (f : Nat → Nat) (j : Nat), j ≤ b → sm j f ≤ sm b f := by
    intro b f j h
    induction b with
    | zero => rw [show j = 0 by omega]; exact Nat.le_refl _
    | succ b ih =>
      by_cases e : j = b + 1
      · rw [e]; exact Nat.le_refl _
      · have := ih (by omega)
        rw [sm]
        omega
  intro i j a b hi hj
  rw [S_is, S_is]
  exact Nat.le_trans (sm_le fun k _ => one b _ j hj) (one a _ i hi)
variable {M : Nat → Nat → Bool} {n m : Nat}
/-- the matches -/
def rowM (m : Nat) (c : Nat → Bool) (i : Nat) : List Pr := ((List.range m).filter c).map fun j => (i, j)
def psL (M : Nat → Nat → Bool) (n m : Nat) : List Pr := (List.range n).flatMap fun i => rowM m (M i) i
theorem psL_mem (p : Pr) : p ∈ psL M n m ↔ (p.1 < n ∧ p.2 < m ∧ M p.1 p.2 = true) := by
  obtain ⟨i, j⟩ := p
  unfold psL rowM
  simp only [List.mem_flatMap, List.mem_range, List.mem_map, List.mem_filter]
  constructor
  · rintro ⟨i', h1, j', ⟨h2, h3⟩, e⟩
    cases e
    exact ⟨h1, h2, h3⟩
  · rintro ⟨h1, h2, h3⟩
    exact ⟨i, h1, j, ⟨h2, h3⟩, rfl⟩
theorem sum_row {c : Nat → Bool} {d : Pr → Bool} {w : Pr → Nat} {i : Nat} : ∀ {m : Nat}, (((rowM m c i).filter d).map w).sum ≤ sm m fun j => if d (i, j) = true then w (i, j) else 0
  | 0 => by simp [rowM, sm]
  | m + 1 => by
    have ih := sum_row (c := c) (d := d) (w := w) (i := i) (m := m)
    have e : rowM (m + 1) c i = rowM m c i ++ (if c m = true then [(i, m)] else []) := by
      unfold rowM
      rw [List.range_succ, List.filter_append, List.map_append]
      congr 1
      by_cases h : c m = true
      · rw [if_pos h]
        simp [h]
      · rw [if_neg h]
        simp [h]
    rw [e, List.filter_append, List.map_append, List.sum_append, sm]
    refine Nat.add_le_add ih ?_
    by_cases h : c m = true
    · rw [if_pos h]
      by_cases h2 : d (i, m) = true
      · rw [if_pos h2]
        simp [h2]
      · rw [if_neg h2]
        simp [h2]
    · rw [if_neg h]
      simp
theorem sum_all {d : Pr → Bool} {w : Pr → Nat} : ∀ {n : Nat}, (((psL M n m).filter d).map w).sum ≤ sm n fun i => sm m fun j => if d (i, j) = true then w (i, j) else 0
  | 0 => by simp [psL, sm]
  | n + 1 => by
    have ih := sum_all (d := d) (w := w) (n := n)
    have e : psL M (n + 1) m = psL M n m ++ rowM m (M n) n := by
      unfold psL
      rw [List.range_succ, List.flatMap_append]
      simp
    rw [e, List.filter_append, List.map_append, List.sum_append, sm]
    exact Nat.add_le_add ih sum_row
/-- how many rows a row can still become, itself too -/
def wt (n m : Nat) (row : List Pr) : Nat := match row.getLast? with
  | none => 1 + S n m
  | some q => 1 + S (n - 1 - q.1) (m - 1 - q.2)
theorem wt_snoc {row : List Pr} {p : Pr} : wt n m (row ++ [p]) = 1 + S (n - 1 - p.1) (m - 1 - p.2) := by
  unfold wt
  rw [List.getLast?_append]
  rfl
theorem wt_next (row : List Pr) : (((psL M n m).filter (okNext row)).map fun p => wt n m (row ++ [p])).sum + 1 ≤ wt n m row := by
  have e : (fun p : Pr => wt n m (row ++ [p])) = fun p => 1 + S (n - 1 - p.1) (m - 1 - p.2) := funext fun p => wt_snoc
  rw [e]
  refine Nat.le_trans (Nat.succ_le_succ sum_all) ?_
  rcases snoc (l := row) with rfl | ⟨r, q, rfl⟩
  · show sm n (fun i => sm m fun j => if true = true then 1 + S (n - 1 - i) (m - 1 - j) else 0) + 1 ≤ 1 + S n m
    rw [S_is n m]
    have : sm n (fun i => sm m fun j => if true = true then 1 + S (n - 1 - i) (m - 1 - j) else 0) = sm n fun i => sm m fun j => 1 + S i j := by
      rw [← sm_rev (n := n) (f := fun i => sm m fun j => 1 + S i j)]
      refine sm_eq fun i _ => ?_
      rw [← sm_rev (n := m) (f := fun j => 1 + S (n - 1 - i) j)]
      exact sm_eq fun j _ => if_pos rfl
    omega
  · have hd : ∀ p, okNext (r ++ [q]) p = bhB q p := fun p => by
      unfold okNext
      rw [List.getLast?_append]
      rfl
    rw [wt_snoc, S_is (n - 1 - q.1)]
    have : sm n (fun i => sm m fun j => if okNext (r ++ [q]) (i, j) = true then 1 + S (n - 1 - i) (m - 1 - j) else 0) = sm (n - 1 - q.1) fun i => sm (m - 1 - q.2) fun j => 1 + S i j := by
      have h1 : ∀ i, i < n → (sm m fun j => if okNext (r ++ [q]) (i, j) = true then 1 + S (n - 1 - i) (m - 1 - j) else 0) = if q.1 < i then sm (m - 1 - q.2) (fun j => 1 + S (n - 1 - i) j) else 0 := fun i _ => by
        by_cases hi : q.1 < i
        · rw [if_pos hi, ← sm_rev (n := m - 1 - q.2), show (sm (m - 1 - q.2) fun j => 1 + S (n - 1 - i) (m - 1 - q.2 - 1 - j)) = sm (m - 1 - q.2) fun k => (fun j => 1 + S (n - 1 - i) (m - 1 - j)) (q.2 + 1 + k) from sm_eq fun j _ => by
            show 1 + S (n - 1 - i) (m - 1 - q.2 - 1 - j) = 1 + S (n - 1 - i) (m - 1 - (q.2 + 1 + j))
            rw [show m - 1 - q.2 - 1 - j = m - 1 - (q.2 + 1 + j) by omega], ← sm_behind (q := q.2) (n := m) (f := fun j => 1 + S (n - 1 - i) (m - 1 - j))]
          refine sm_eq fun j _ => ?_
          rw [hd]
          by_cases hj : q.2 < j
          · rw [if_pos hj, if_pos (by simp [bhB, hi, hj])]
          · rw [if_neg hj, if_neg (by simp [bhB, hj])]
        · rw [if_neg hi]
          rw [show (fun j => if okNext (r ++ [q]) (i, j) = true then 1 + S (n - 1 - i) (m - 1 - j) else 0) = fun _ => 0 from funext fun j => if_neg (by rw [hd]; simp [bhB, hi])]
          exact sm_zero
      rw [sm_eq h1, sm_behind, ← sm_rev (n := n - 1 - q.1) (f := fun i => sm (m - 1 - q.2) fun j => 1 + S i j)]
      refine sm_eq fun i hi => sm_eq fun j _ => ?_
      rw [show n - 1 - (q.1 + 1 + i) = n - 1 - q.1 - 1 - i by omega]
    rw [this]
    omega
theorem rows_wt : ∀ k : Nat, ((rowsOf (psL M n m) k).map (wt n m)).sum ≤ 1 + S n m
  | 0 => by
    rw [rowsOf]
    simp [wt]
  | k + 1 => by
    refine Nat.le_trans ?_ (rows_wt k)
    rw [rowsOf]
    generalize rowsOf (psL M n m) k = rows
    induction rows with
    | nil => simp [longer]
    | cons row rows ih =>
      have h := wt_next (M := M) (n := n) (m := m) row
      have e : longer (psL M n m) (row :: rows) = ((psL M n m).filter (okNext row)).map (fun p => row ++ [p]) ++ longer (psL M n m) rows := by
        unfold longer
        rw [List.flatMap_cons]
      rw [e, List.map_append, List.sum_append, List.map_map, List.map_cons, List.sum_cons]
      have h' : (((psL M n m).filter (okNext row)).map (wt n m ∘ fun p => row ++ [p])).sum + 1 ≤ wt n m row := h
      omega
theorem rows_many (k : Nat) : (rowsOf (psL M n m) k).length ≤ 1 + S n m := by
  refine Nat.le_trans ?_ (rows_wt (M := M) (n := n) (m := m) k)
  generalize rowsOf (psL M n m) k = rows
  induction rows with
  | nil => simp
  | cons row rows ih =>
    rw [List.map_cons, List.sum_cons, List.length_cons]
    have : 1 ≤ wt n m row := by
      unfold wt
      split <;> omega
    omega
theorem S_seven : S 7 7 = 3431 := by decide +kernel
end KL

/-! Gaps between two rows of one base, and what is merged: the mathematics. -/
namespace KL
variable {α : Type}
abbrev Tr := Nat × Nat × Nat
/-- what a row has at a place -/
def look (l : List Pr) (p : Nat) : Option Nat := (l.find? fun x => decide (x.1 = p)).map (·.2)
def ends (l r : List Pr) : List Tr := l.filterMap fun x => (look r x.1).map fun q => (x.1, x.2, q)
def cut (ws : List α) (a b : Nat) : List α := (ws.drop a).take (b - a)
def gapL (ws us vs : List α) : Tr → List Tr → List (List α × List α × List α)
  | _, [] => []
  | s, e :: r => (cut ws s.1 e.1, cut us s.2.1 e.2.1, cut vs s.2.2 e.2.2) :: gapL ws us vs (e.1 + 1, e.2.1 + 1, e.2.2 + 1) r
def swT (e : Tr) : Tr := (e.1, e.2.2, e.2.1)
def swG (g : List α × List α × List α) : List α × List α × List α := (g.1, g.2.2, g.2.1)
/-- strictly growing, both ways -/
def Inc (l : List Pr) : Prop := l.Pairwise bh
theorem look_some {l : List Pr} (h : Inc l) {p q : Nat} : look l p = some q ↔ (p, q) ∈ l := by
  unfold look
  constructor
  · intro e
    obtain ⟨x, hx, rfl⟩ := Option.map_eq_some_iff.mp e
    have h1 := List.find?_some hx
    have h2 := List.mem_of_find?_eq_some hx
    rw [decide_eq_true_iff] at h1
    subst h1
    exact h2
  · intro hm
    cases e : l.find? fun x => decide (x.1 = p) with
    | none =>
      have := List.find?_eq_none.mp e (p, q) hm
      simp at this
    | some x =>
      have h1 := List.find?_some e
      have h2 := List.mem_of_find?_eq_some e
      rw [decide_eq_true_iff] at h1
      have : x = (p, q) := by
        obtain ⟨i, hi, e1⟩ := List.mem_iff_getElem.mp h2
        obtain ⟨j, hj, e2⟩ := List.mem_iff_getElem.mp hm
        rcases Nat.lt_trichotomy i j with z | z | z
        · have := List.pairwise_iff_getElem.mp h i j hi hj z
          rw [e1, e2] at this
          have h3 := this.1
          simp only at h3
          omega
        · subst z
          rw [← e1, e2]
        · have := List.pairwise_iff_getElem.mp h j i hj hi z
          rw [e1, e2] at this
          have h3 := this.1
          simp only at h3
          omega
      rw [this]
      rfl
theorem ends_mem {l r : List Pr} (hl : Inc l) (hr : Inc r) {e : Tr} : e ∈ ends l r ↔ (e.1, e.2.1) ∈ l ∧ (e.1, e.2.2) ∈ r := by
  unfold ends
  rw [List.mem_filterMap]
  constructor
  · rintro ⟨x, hx, h⟩
    obtain ⟨q, hq, rfl⟩ := Option.map_eq_some_iff.mp h
    exact ⟨hx, (look_some hr).mp hq⟩
  · rintro ⟨h1, h2⟩
    exact ⟨(e.1, e.2.1), h1, by rw [(look_some hr).mpr h2]; rfl⟩
def bh3 (a b : Tr) : Prop := a.1 < b.1 ∧ a.2.1 < b.2.1 ∧ a.2.2 < b.2.2
theorem ends_inc {l r : List Pr} (hl : Inc l) (hr : Inc r) : (ends l r).Pairwise bh3 := by
  unfold ends
  rw [List.pairwise_filterMap]
  refine hl.imp fun {a b} hab x hx y hy => ?_
  obtain ⟨q, hq, rfl⟩ := Option.map_eq_some_iff.mp hx
  obtain ⟨s, hs, rfl⟩ := Option.map_eq_some_iff.mp hy
  have m1 := (look_some hr).mp hq
  have m2 := (look_some hr).mp hs
  refine ⟨hab.1, hab.2, ?_⟩
  obtain ⟨i, hi, e1⟩ := List.mem_iff_getElem.mp m1
  obtain ⟨j, hj, e2⟩ := List.mem_iff_getElem.mp m2
  rcases Nat.lt_trichotomy i j with z | z | z
  · have := List.pairwise_iff_getElem.mp hr i j hi hj z
    rw [e1, e2] at this
    exact this.2
  · subst z
    rw [e1] at e2
    have h1 : a.1 = b.1 := (Prod.mk.inj e2).1
    have := hab.1
    omega
  · have := List.pairwise_iff_getElem.mp hr j i hj hi z
    rw [e1, e2] at this
    have h1 := this.1
    have h2 := hab.1
    simp only at h1
    omega
/-- two growing rows of the same members are one -/
theorem inc_ext {R : Tr → Tr → Prop} (irr : ∀ a, ¬ R a a) (asy : ∀ a b, R a b → ¬ R b a) : ∀ {l r : List Tr}, l.Pairwise R → r.Pairwise R → (∀ x, x ∈ l ↔ x ∈ r) → l = r
  | [], [], _, _, _ => rfl
  | [], b :: r, _, _, h => absurd ((h b).mpr List.mem_cons_self) (by simp)
  | a :: l, [], _, _, h => absurd ((h a).mp List.mem_cons_self) (by simp)
  | a :: l, b :: r, h1, h2, h => by
    rw [List.pairwise_cons] at h1 h2
    have e : a = b := by
      rcases List.mem_cons.mp ((h a).mp List.mem_cons_self) with e | m
      · exact e
      · rcases List.mem_cons.mp ((h b).mpr List.mem_cons_self) with e | m2
        · exact e.symm
        · exact absurd (h1.1 b m2) (asy _ _ (h2.1 a m))
    subst e
    rw [inc_ext irr asy h1.2 h2.2 fun x => ?_]
    have na : a ∉ l := fun m => irr _ (h1.1 a m)
    have nb : a ∉ r := fun m => irr _ (h2.1 a m)
    constructor
    · intro hx
      rcases List.mem_cons.mp ((h x).mp (List.mem_cons_of_mem _ hx)) with e | m
      · exact absurd (e ▸ hx) na
      · exact m
    · intro hx
      rcases List.mem_cons.mp ((h x).mpr (List.mem_cons_of_mem _ hx)) with e | m
      · exact absurd (e ▸ hx) nb
      · exact m
theorem ends_swap {l r : List Pr} (hl : Inc l) (hr : Inc r) : ends r l = (ends l r).map swT := by
  refine inc_ext (R := bh3) (fun a h => absurd h.1 (by omega)) (fun a b h k => absurd h.1 (by have := k.1; omega)) (ends_inc hr hl) ?_ fun x => ?_
  · rw [List.pairwise_map]
    exact (ends_inc hl hr).imp fun {a b} h => ⟨h.1, h.2.2, h.2.1⟩
  · rw [ends_mem hr hl, List.mem_map]
    constructor
    · rintro ⟨h1, h2⟩
      exact ⟨(x.1, x.2.2, x.2.1), (ends_mem hl hr).mpr ⟨h2, h1⟩, rfl⟩
    · rintro ⟨y, hy, rfl⟩
      have := (ends_mem hl hr).mp hy
      exact ⟨this.2, this.1⟩
theorem gap_swap (ws us vs : List α) : ∀ (es : List Tr) (s : Tr), gapL ws vs us (swT s) (es.map swT) = (gapL ws us vs s es).map swG
  | [], _ => rfl
  | e :: r, s => by
    show _ :: gapL ws vs us (swT (e.1 + 1, e.2.1 + 1, e.2.2 + 1)) (r.map swT) = _
    rw [gap_swap ws us vs r]
    rfl
theorem gap_len (ws us vs : List α) : ∀ (es : List Tr) (s : Tr), (gapL ws us vs s es).length = es.length
  | [], _ => rfl
  | e :: r, s => by
    show (gapL ws us vs _ r).length + 1 = _
    rw [gap_len ws us vs r]
    rfl
/-! ### what is merged -/
def givenS [DecidableEq α] (g : List α × List α × List α) : Option (List α) := if g.2.1 = g.1 then some g.2.2 else if g.2.2 = g.1 ∨ g.2.2 = g.2.1 then some g.2.1 else none
theorem given_swap [DecidableEq α] (g : List α × List α × List α) : givenS (swG g) = givenS g := by
  obtain ⟨o, m, t⟩ := g
  unfold givenS swG
  simp only
  by_cases h1 : m = o <;> by_cases h2 : t = o <;> by_cases h3 : t = m <;> simp_all
  · intro e
    exact absurd e.symm h3
/-- the parts with the held words between them -/
def inter : List (List α) → List α → List α
  | [], _ => []
  | p :: _, [] => p
  | p :: ps, w :: ws => p ++ w :: inter ps ws
def mergeS [DecidableEq α] (gs : List (List α × List α × List α)) (hs : List α) : Option (List α) := if gs.all fun g => (givenS g).isSome then some (inter (gs.map fun g => (givenS g).getD []) hs) else none
theorem merge_swap [DecidableEq α] (gs : List (List α × List α × List α)) (hs : List α) : mergeS (gs.map swG) hs = mergeS gs hs := by
  unfold mergeS
  rw [List.all_map, List.map_map]
  have e : (fun g => (givenS g).isSome) ∘ swG = fun (g : List α × List α × List α) => (givenS g).isSome := funext fun g => by
    show (givenS (swG g)).isSome = _
    rw [given_swap]
  have e2 : (fun g => (givenS g).getD []) ∘ swG = fun (g : List α × List α × List α) => (givenS g).getD [] := funext fun g => by
    show (givenS (swG g)).getD [] = _
    rw [given_swap]
  rw [e, e2]
theorem cut_all (vs : List α) {a : Nat} : cut vs a vs.length = vs.drop a := by
  unfold cut
  rw [List.take_of_length_le (by rw [List.length_drop]; exact Nat.le_refl _)]
theorem cut_step (vs : List α) {a b : Nat} {w : α} (h : a ≤ b) (hw : vs[b]? = some w) : cut vs a b ++ w :: vs.drop (b + 1) = vs.drop a := by
  unfold cut
  have e : vs.drop b = w :: vs.drop (b + 1) := by
    obtain ⟨hl, e⟩ := List.getElem?_eq_some_iff.mp hw
    rw [List.drop_eq_getElem_cons hl, e]
  rw [← e]
  have : vs.drop b = (vs.drop a).drop (b - a) := by rw [List.drop_drop, show a + (b - a) = b by omega]
  rw [this, List.take_append_drop]
/-- parts of one text, with its own words between them, are the text -/
theorem inter_third {ws us vs : List α} {n m : Nat} (w : Tr → α) : ∀ (es : List Tr) (s : Tr), es.Pairwise bh3 → (∀ e ∈ es, s.2.2 ≤ e.2.2 ∧ vs[e.2.2]? = some (w e)) → inter ((gapL ws us vs s (es ++ [(n, m, vs.length)])).map fun g => g.2.2) (es.map w) = vs.drop s.2.2
  | [], s, _, _ => cut_all vs
  | e :: r, s, hp, h => by
    rw [List.pairwise_cons] at hp
    have ih := inter_third (ws := ws) (us := us) (vs := vs) (n := n) (m := m) w r (e.1 + 1, e.2.1 + 1, e.2.2 + 1) hp.2 fun x hx => ⟨(hp.1 x hx).2.2, (h x (List.mem_cons_of_mem _ hx)).2⟩
    show cut vs s.2.2 e.2.2 ++ w e :: inter ((gapL ws us vs (e.1 + 1, e.2.1 + 1, e.2.2 + 1) (r ++ [(n, m, vs.length)])).map fun g => g.2.2) (r.map w) = _
    rw [ih]
    obtain ⟨h1, h2⟩ := h e List.mem_cons_self
    exact cut_step vs h1 h2
theorem inter_second {ws us vs : List α} {n k : Nat} (w : Tr → α) (es : List Tr) (s : Tr) (hp : es.Pairwise bh3) (h : ∀ e ∈ es, s.2.1 ≤ e.2.1 ∧ us[e.2.1]? = some (w e)) : inter ((gapL ws us vs s (es ++ [(n, us.length, k)])).map fun g => g.2.1) (es.map w) = us.drop s.2.1 := by
  have e := inter_third (ws := ws) (us := vs) (vs := us) (n := n) (m := k) (fun e => w (swT e)) (es.map swT) (swT s) (by rw [List.pairwise_map]; exact hp.imp fun {a b} h => ⟨h.1, h.2.2, h.2.1⟩) fun x hx => by
    obtain ⟨y, hy, rfl⟩ := List.mem_map.mp hx
    exact h y hy
  have e2 : es.map swT ++ [(n, k, us.length)] = (es ++ [(n, us.length, k)]).map swT := by rw [List.map_append]; rfl
  rw [e2, gap_swap, List.map_map, List.map_map] at e
  exact e
section
variable [DecidableEq α]
theorem merge_third {gs : List (List α × List α × List α)} {hs : List α} (h : ∀ g ∈ gs, givenS g = some g.2.2) : mergeS gs hs = some (inter (gs.map fun g => g.2.2) hs) := by
  unfold mergeS
  rw [if_pos (List.all_eq_true.mpr fun g hg => by rw [h g hg]; rfl)]
  congr 2
  exact List.map_congr_left fun g hg => by rw [h g hg]; rfl
theorem merge_second {gs : List (List α × List α × List α)} {hs : List α} (h : ∀ g ∈ gs, givenS g = some g.2.1) : mergeS gs hs = some (inter (gs.map fun g => g.2.1) hs) := by
  unfold mergeS
  rw [if_pos (List.all_eq_true.mpr fun g hg => by rw [h g hg]; rfl)]
  congr 2
  exact List.map_congr_left fun g hg => by rw [h g hg]; rfl
end
theorem gap_all {ws us vs : List α} {P : List α × List α × List α → Prop} {I : Tr → Prop} (h : ∀ s e, I s → I e → P (cut ws s.1 e.1, cut us s.2.1 e.2.1, cut vs s.2.2 e.2.2)) (hs : ∀ e, I e → I (e.1 + 1, e.2.1 + 1, e.2.2 + 1)) : ∀ (es : List Tr) (s : Tr), I s → (∀ e ∈ es, I e) → ∀ g ∈ gapL ws us vs s es, P g
  | [], _, _, _, g, hg => by cases hg
  | e :: r, s, i, k, g, hg => by
    rcases List.mem_cons.mp hg with rfl | hg
    · exact h s e i (k e List.mem_cons_self)
    · exact gap_all h hs r _ (hs e (k e List.mem_cons_self)) (fun x hx => k x (List.mem_cons_of_mem _ hx)) g hg
/-- what three texts make by two rows -/
def mergedS [DecidableEq α] (ws us vs : List α) (l r : List Pr) (w : Tr → α) : Option (List α) := mergeS (gapL ws us vs (0, 0, 0) (ends l r ++ [(ws.length, us.length, vs.length)])) ((ends l r).map w)
theorem merged_swap [DecidableEq α] {ws us vs : List α} {l r : List Pr} {w w2 : Tr → α} (hl : Inc l) (hr : Inc r) (hw : ∀ e, w2 (swT e) = w e) : mergedS ws vs us r l w2 = mergedS ws us vs l r w := by
  unfold mergedS
  rw [ends_swap hl hr]
  have e : (ends l r).map swT ++ [(ws.length, vs.length, us.length)] = (ends l r ++ [(ws.length, us.length, vs.length)]).map swT := by rw [List.map_append]; rfl
  rw [e, show ((0, 0, 0) : Tr) = swT (0, 0, 0) from rfl, gap_swap, merge_swap, List.map_map]
  congr 1
  exact List.map_congr_left fun x _ => hw x
def wholeL (n : Nat) : List Pr := (List.range n).map fun k => (k, k)
theorem whole_mem {n : Nat} {p : Pr} : p ∈ wholeL n ↔ p.1 = p.2 ∧ p.1 < n := by
  unfold wholeL
  rw [List.mem_map]
  constructor
  · rintro ⟨k, hk, rfl⟩
    exact ⟨rfl, List.mem_range.mp hk⟩
  · rintro ⟨h1, h2⟩
    exact ⟨p.1, List.mem_range.mpr h2, Prod.ext rfl h1⟩
theorem whole_inc {n : Nat} : Inc (wholeL n) := by
  unfold Inc wholeL
  rw [List.pairwise_map]
  exact List.pairwise_lt_range.imp fun h => ⟨h, h⟩
theorem merged_right [DecidableEq α] {ws vs : List α} {r : List Pr} {w : Tr → α} (hr : Inc r) (hw : ∀ e ∈ ends (wholeL ws.length) r, vs[e.2.2]? = some (w e)) : mergedS ws ws vs (wholeL ws.length) r w = some vs := by
  have hm : ∀ e ∈ ends (wholeL ws.length) r, e.1 = e.2.1 := fun e he => (whole_mem.mp ((ends_mem whole_inc hr).mp he).1).1
  unfold mergedS
  rw [merge_third, inter_third w _ _ (ends_inc whole_inc hr) fun e he => ⟨Nat.zero_le _, hw e he⟩]
  · rfl
  · refine gap_all (I := fun e => e.1 = e.2.1) (P := fun g => givenS g = some g.2.2) (fun s e i j => ?_) (fun e i => congrArg (· + 1) i) _ _ rfl fun e he => ?_
    · unfold givenS
      simp only
      rw [i, j, if_pos rfl]
    · rcases List.mem_append.mp he with he | he
      · exact hm e he
      · rw [List.mem_singleton.mp he]
theorem merged_left [DecidableEq α] {ws us : List α} {l : List Pr} {w : Tr → α} (hl : Inc l) (hw : ∀ e ∈ ends l (wholeL ws.length), us[e.2.1]? = some (w e)) : mergedS ws us ws l (wholeL ws.length) w = some us := by
  have hm : ∀ e ∈ ends l (wholeL ws.length), e.1 = e.2.2 := fun e he => (whole_mem.mp ((ends_mem hl whole_inc).mp he).2).1
  unfold mergedS
  rw [merge_second, inter_second w _ _ (ends_inc hl whole_inc) fun e he => ⟨Nat.zero_le _, hw e he⟩]
  · rfl
  · refine gap_all (I := fun e => e.1 = e.2.2) (P := fun g => givenS g = some g.2.1) (fun s e i j => ?_) (fun e i => congrArg (· + 1) i) _ _ rfl fun e he => ?_
    · unfold givenS
      simp only
      rw [i, j]
      by_cases h : cut us s.2.1 e.2.1 = cut ws s.2.2 e.2.2
      · rw [if_pos h, h]
      · rw [if_neg h, if_pos (.inl rfl)]
    · rcases List.mem_append.mp he with he | he
      · exact hm e he
      · rw [List.mem_singleton.mp he]
theorem merged_alike [DecidableEq α] {ws us : List α} {l : List Pr} {w : Tr → α} (hl : Inc l) (hw : ∀ e ∈ ends l l, us[e.2.1]? = some (w e)) : mergedS ws us us l l w = some us := by
  have hm : ∀ e ∈ ends l l, e.2.1 = e.2.2 := fun e he => by
    obtain ⟨h1, h2⟩ := (ends_mem hl hl).mp he
    have a := (look_some hl).mpr h1
    have b := (look_some hl).mpr h2
    rw [a] at b
    exact Option.some.inj b
  unfold mergedS
  rw [merge_second, inter_second w _ _ (ends_inc hl hl) fun e he => ⟨Nat.zero_le _, hw e he⟩]
  · rfl
  · refine gap_all (I := fun e => e.2.1 = e.2.2) (P := fun g => givenS g = some g.2.1) (fun s e i j => ?_) (fun e i => congrArg (· + 1) i) _ _ rfl fun e he => ?_
    · unfold givenS
      simp only
      rw [i, j]
      by_cases h : cut us s.2.2 e.2.2 = cut ws s.1 e.1
      · rw [if_pos h]
      · rw [if_neg h, if_pos (.inr rfl)]
    · rcases List.mem_append.mp he with he | he
      · exact hm e he
      · rw [List.mem_singleton.mp he]
end KL

/-! Dicts made of rows: places as keys. -/
namespace KD
open PySem PySem.Spec PyProof.Rows L2 KL
def kvsOf (l : List Pr) : List (Key × V) := l.map fun p => (.inl (p.1 : Int), .int (p.2 : Int))
theorem putK_row {l : List Pr} {p : Pr} (h : ∀ x ∈ l, x.1 ≠ p.1) : putK (kvsOf l) (.inl (p.1 : Int)) (.int (p.2 : Int)) = kvsOf (l ++ [p]) := by
  unfold putK
  rw [if_neg]
  · unfold kvsOf
    rw [List.map_append]
    rfl
  · rw [List.any_eq_true]
    rintro ⟨kv, hkv, e⟩
    obtain ⟨x, hx, rfl⟩ := List.mem_map.mp hkv
    have e := of_decide_eq_true e
    have e2 : (x.1 : Int) = (p.1 : Int) := Sum.inl.inj e
    exact h x hx (by omega)
theorem inc_ne {l : List Pr} {p : Pr} (h : Inc (l ++ [p])) : ∀ x ∈ l, x.1 ≠ p.1 := fun x hx => by
  have := (List.pairwise_append.mp h).2.2 x hx p (List.mem_singleton.mpr rfl)
  have := this.1
  omega
theorem merge_row : ∀ (l pre : List Pr), Inc (pre ++ l) → mergeK (kvsOf pre) (kvsOf l) = kvsOf (pre ++ l)
  | [], pre, _ => by rw [List.append_nil]; rfl
  | p :: r, pre, h => by
    have h1 : Inc ((pre ++ [p]) ++ r) := by rw [List.append_assoc]; exact h
    have ih := merge_row r (pre ++ [p]) h1
    rw [List.append_assoc] at ih
    show mergeK (putK (kvsOf pre) (.inl (p.1 : Int)) (.int (p.2 : Int))) (kvsOf r) = _
    rw [putK_row (inc_ne (List.pairwise_append.mp h1).1), ih]
    rfl
theorem val_look {l : List Pr} {p : Nat} : valV (kvsOf l) (.inl (p : Int)) = (look l p).map fun (q : Nat) => V.int (q : Int) := by
  unfold valV look kvsOf
  induction l with
  | nil => rfl
  | cons x r ih =>
    rw [List.map_cons, List.find?_cons, List.find?_cons]
    by_cases h : x.1 = p
    · rw [decide_eq_true h, decide_eq_true (show ((Sum.inl (x.1 : Int) : Key) = .inl (p : Int)) by rw [h])]
      rfl
    · rw [decide_eq_false h, decide_eq_false (fun e => h (by have := Sum.inl.inj e; omega))]
      exact ih
/-- a row as it is told -/
structure Rw (d : PyData) (l : List Pr) : Prop where
  seq : isSeq d = true
  len : (itemsD d).length = l.length
  its : ∀ (i : Nat) (z : PyData) (p : Pr), (itemsD d)[i]? = some z → l[i]? = some p → isSeq z = true ∧ itemsD z = [.int (p.1 : Nat), .int (p.2 : Nat)]
section
variable {X : Addr → Prop} {σ : L2.St} {H H' : Hp} {Γ : List Sv} {te ty : TE} {d : PyData} {ds : List PyData} {l : List Pr} {K : PySem.W.Frag} {Q : VK} {A : Addr}
theorem k_dc {j : Nat} (t : Trk X H) (E : EnvOk X H σ Γ) (hj : j < Γ.length) (h : G X te σ H d) (R : Rw d l) (few : l.length ≤ 1000) (inc : Inc l) (q : ∀ D H', H D = none → Same H H' → H' D = some (.dK (kvsOf l)) → Q (.ref D) H') :
    tDc (iSeq K te) (gName j) tYes (tOp (rIx K) (tVar j) (tC (.int 0))) (tOp (rIx K) (tVar j) (tC (.int 1))) [j] σ H Q := by
  refine gi_seq (K := K) h R.seq H (Same.refl _) _ fun J H2 s2 w D hD => ?_
  obtain ⟨Gd, Y, w1, w2⟩ := w
  let X' : Addr → Prop := fun a => X a ∨ a = D
  have m2 : More X X' H2 := More.one hD
  let Pv : Nat → Hp → Prop := fun i Gh => Same H2 Gh ∧ Trk X' Gh ∧ Gh D = some (.dK (kvsOf (l.take i)))
  have ln := R.len
  refine ⟨fun i m Gh => m = l.length - i ∧ i ≤ l.length ∧ Pv i Gh, ⟨_, rfl, Nat.zero_le _, Same.upd hD, (t.mono s2).one hD, upd_same⟩, ?_⟩
  rintro i m Gh ⟨rfl, hi, p1, p2, p3⟩
  have q0 := w2 X' m2.2 Gh (Kp.of p1) p2
  by_cases lt : i < l.length
  rotate_left
  · have e : i = l.length := by omega
    subst e
    rw [List.take_length] at p3
    have st := w1.stops Gh q0.1
    rw [ln] at st
    exact .inl ⟨st, q D Gh (s2.free hD) (s2.trans p1) p3⟩
  have lt2 : i < (itemsD d).length := by omega
  refine .inr ⟨w1.goes i Gh lt2 q0.1, Pv (i + 1), fun G' p' => ⟨_, by omega, rfl, lt, p'⟩, fun x G' y => ?_⟩
  obtain ⟨s4, z, hz, dx⟩ := q0.2 i x G' (w1.yields i Gh x G' lt2 q0.1 y)
  obtain ⟨zs, zi⟩ := R.its i z l[i] hz (List.getElem?_eq_getElem lt)
  have hslot : ((wipe σ [j]).set j (some x))[j]? = some (some x) := by
    refine List.getElem?_set_self ?_
    show j < (σ.set j none).length
    rw [List.length_set, E.len]
    exact hj
  show wipe ((wipe σ [j]).set j (some x)) [j] = wipe σ [j] ∧ _
  refine ⟨wipe_one, ?_⟩
  have hy : ∀ {σ : L2.St} {H : Hp} {Qb : Bool → Hp → Prop}, Qb true H → tYes σ H Qb := fun h => h
  refine hy (iteT ?_)
  have t4 := p2.mono s4
  have gv : G X' (tVar j) ((wipe σ [j]).set j (some x)) G' z := fun H1 s Q q => ⟨x, hslot, q x H1 (Same.refl _) (dx.mono (Kp.of s))⟩
  refine g_ix (K := K) t4 gv zs g_int (z := .int ((l[i].1 : Nat) : Int)) (by rw [zi]; rfl) G' (Same.refl _) _ fun v5 H5 s5 r5 => ?_
  refine g_ix (K := K) (t4.mono s5) (gv.mono s5) zs g_int (z := .int ((l[i].2 : Nat) : Int)) (by rw [zi]; rfl) H5 (Same.refl _) _ fun v6 H6 s6 r6 => ?_
  rw [r5.int_inv, r6.int_inv]
  have s46 := (s4.trans s5).trans s6
  refine ⟨kvsOf (l.take i), .inl (l[i].1 : Int), rfl, s46 _ _ p3, by unfold kvsOf; rw [List.length_map, List.length_take, sizeLine_eq]; omega, fun a o e => ?_, ?_, ?_⟩
  · have : a ≠ D := fun z => by rw [z, hD] at e; cases e
    rw [upd_ne this]
    exact s46 _ _ (p1 a o e)
  · exact (p2.mono s46).put
  · have et : l.take (i + 1) = l.take i ++ [l[i]] := by rw [List.take_add_one, List.getElem?_eq_getElem lt]; rfl
    rw [putK_row (inc_ne (p := l[i]) (l := l.take i) (by rw [← et]; exact inc.sublist (List.take_sublist _ _))), et, upd_same]
/-! ### what is told of other things while a dict is locked -/
theorem upd_ne' {a b : Addr} {o u : HO} {H : Hp} (h : H a = some u) (hb : ∀ v, H b = some v → v ≠ u) : a ≠ b := fun e => hb u (e ▸ h) rfl
mutual
theorem DX.lock {kvs : List (Key × V)} {o : HO} (hA : H A = some (.dK kvs)) : ∀ {v : V} {d : PyData}, DX X H v d → noDict d = true → DX X (upd H A o) v d
  | _, _, .non, _ => .non
  | _, _, .bl b, _ => .bl b
  | _, _, .int i, _ => .int i
  | _, _, .str x, _ => .str x
  | _, _, .lst (a := a) n h r, k => .lst n (by rw [upd_ne (fun e => by rw [e, hA] at h; cases h)]; exact h) (DXs.lock hA r (by simpa [noDict] using k))
  | _, _, .tup (a := a) n h r, k => .tup n (by rw [upd_ne (fun e => by rw [e, hA] at h; cases h)]; exact h) (DXs.lock hA r (by simpa [noDict] using k))
  | _, _, .dic _ _ _, k => by simp [noDict] at k
theorem DXs.lock {kvs : List (Key × V)} {o : HO} (hA : H A = some (.dK kvs)) : ∀ {vs : List V} {ds : List PyData}, DXs X H vs ds → noDicts ds = true → DXs X (upd H A o) vs ds
  | _, _, .nil, _ => .nil
  | _, _, .cons (d := d) (ds := ds) h r, k => by
    have k' : noDict d = true ∧ noDicts ds = true := by simpa [noDicts] using k
    exact .cons (DX.lock hA h k'.1) (DXs.lock hA r k'.2)
end
mutual
theorem DX.unlock {od : Obj} {u o : HO} (hA : H A = some (.frz od u)) : ∀ {v : V} {d : PyData}, DX X H v d → DX X (upd H A o) v d
  | _, _, .non => .non
  | _, _, .bl b => .bl b
  | _, _, .int i => .int i
  | _, _, .str x => .str x
  | _, _, .lst n h r => .lst n (by rw [upd_ne (fun e => by rw [e, hA] at h; cases h)]; exact h) (DXs.unlock hA r)
  | _, _, .tup n h r => .tup n (by rw [upd_ne (fun e => by rw [e, hA] at h; cases h)]; exact h) (DXs.unlock hA r)
  | _, _, .dic n h r => .dic n (by rw [upd_ne (fun e => by rw [e, hA] at h; cases h)]; exact h) (DXk.unlock hA r)
theorem DXs.unlock {od : Obj} {u o : HO} (hA : H A = some (.frz od u)) : ∀ {vs : List V} {ds : List PyData}, DXs X H vs ds → DXs X (upd H A o) vs ds
  | _, _, .nil => .nil
  | _, _, .cons h r => .cons (DX.unlock hA h) (DXs.unlock hA r)
theorem DXk.unlock {od : Obj} {u o : HO} (hA : H A = some (.frz od u)) : ∀ {vs : List (Key × V)} {ds : List (PyData × PyData)}, DXk X H vs ds → DXk X (upd H A o) vs ds
  | _, _, .nil => .nil
  | _, _, .cons h r => .cons (DX.unlock hA h) (DXk.unlock hA r)
end
theorem EnvOk.lock {kvs : List (Key × V)} {o : HO} (E : EnvOk X H σ Γ) (hA : H A = some (.dK kvs)) (nd : ∀ d, Sv.dat d ∈ Γ → noDict d = true) : EnvOk X (upd H A o) σ Γ := ⟨E.len, fun i s e => by
  have h := E.get i s e
  cases s with
  | dat d =>
    obtain ⟨v, e1, r⟩ := h
    exact ⟨v, e1, r.lock hA (nd d (List.mem_of_getElem? e))⟩
  | val v => exact h
  | un => trivial⟩
theorem EnvOk.unlock {od : Obj} {u o : HO} (E : EnvOk X H σ Γ) (hA : H A = some (.frz od u)) : EnvOk X (upd H A o) σ Γ := ⟨E.len, fun i s e => by
  have h := E.get i s e
  cases s with
  | dat d =>
    obtain ⟨v, e1, r⟩ := h
    exact ⟨v, e1, r.unlock hA⟩
  | val v => exact h
  | un => trivial⟩
/-! ### a dict's places -/
theorem gi_keys {i : Nat} {od : Obj} (E : EnvOk X H σ Γ) (hi : Γ[i]? = some (.val (.ref A))) (hA : H A = some (.frz od (.dK (kvsOf l)))) (nA : ¬ X A) : GI X (iKeys (tVar i)) σ H (l.map fun p => .int (p.1 : Nat)) := fun H1 s R r => by
  have h1 := s _ _ hA
  refine ⟨.ref A, (E.same s).get i _ hi, A, od, rfl, .inl ⟨_, h1, r _ H1 (Same.refl _) ⟨_, _, by rw [List.length_map]; exact (show l.length = (kvsOf l).length by simp [kvsOf]) ▸ walk_keys, fun X' m H3 k t => ?_⟩⟩⟩
  have n' : ¬ X' A := fun z => (m A z).elim nA fun q => by rw [h1] at q; cases q
  refine ⟨k A _ n' h1, fun j x H4 y => ?_⟩
  obtain ⟨rfl, kk, v, e1, rfl⟩ := y
  unfold kvsOf at e1
  rw [List.getElem?_map] at e1
  obtain ⟨p, hp, e2⟩ := Option.map_eq_some_iff.mp e1
  cases e2
  exact ⟨Same.refl _, _, by rw [List.getElem?_map, hp]; rfl, .int _⟩
theorem g_dgetI {i : Nat} {p q : Nat} (E : EnvOk X H σ Γ) (hi : Γ[i]? = some (.val (.ref A))) (hA : Rd H A (.dK (kvsOf l))) (hk : G X ty σ H (.int (p : Int))) (hv : look l p = some q) : G X (tDGet (tVar i) ty) σ H (.int (q : Int)) := fun H1 s Q r =>
  ⟨.ref A, (E.same s).get i _ hi, hk H1 s _ fun v H2 s2 rv => ⟨A, .int (q : Int), rfl, by
    have h2 : Rd H2 A (.dK (kvsOf l)) := by
      rcases hA with h | ⟨o, h⟩
      · exact .inl (s2 _ _ (s _ _ h))
      · exact .inr ⟨o, s2 _ _ (s _ _ h)⟩
    rw [rv.int_inv]
    refine .inl ⟨_, .inl (p : Int), h2, rfl, ?_⟩
    rw [val_look, hv]
    rfl, r _ H2 s2 (.int _)⟩⟩
theorem gt_dinI {i : Nat} {p : Nat} (E : EnvOk X H σ Γ) (hi : Γ[i]? = some (.val (.ref A))) (hA : Rd H A (.dK (kvsOf l))) (hk : G X ty σ H (.int (p : Int))) : GT (tB (tDIn ty (tVar i))) σ H (look l p).isSome := fun H1 s Q r =>
  hk H1 s _ fun v H2 s2 rv => ⟨.ref A, (E.same (s.trans s2)).get i _ hi, A, valV (kvsOf l) (.inl (p : Int)), rfl, by
    have h2 : Rd H2 A (.dK (kvsOf l)) := by
      rcases hA with h | ⟨o, h⟩
      · exact .inl (s2 _ _ (s _ _ h))
      · exact .inr ⟨o, s2 _ _ (s _ _ h)⟩
    rw [rv.int_inv]
    exact .inl ⟨_, .inl (p : Int), h2, rfl, rfl⟩, _, rfl, by
    rw [val_look, Option.isSome_map]
    exact r H2 s2⟩
/-- a comprehension, the heap known to be kept (KDat2's g_lc otherwise) -/
theorem g_lcS {wi : TI} {g : TG} {tt : TT} {te : TE} {vs : List Nat} {Γ2 : PyData → List Sv} (f : PyData → Bool) (h : PyData → PyData) (t : Trk X H) (hi : GI X wi σ H ds) (hl : ds.length ≤ 1000000)
    (hg : ∀ H1, Same H H1 → ∀ d ∈ ds, Tgt X g σ (Γ2 d) vs d H1)
    (ht : ∀ X' H1 σ2 d, d ∈ ds → Same H H1 → Trk X' H1 → EnvOk X' H1 σ2 (Γ2 d) → GT tt σ2 H1 (f d))
    (he : ∀ X' H1 σ2 d, d ∈ ds → f d = true → Same H H1 → Trk X' H1 → EnvOk X' H1 σ2 (Γ2 d) → G X' te σ2 H1 (h d)) : G X (tLc wi g tt te vs) σ H (.list ((ds.filter f).map h)) := fun H1 s Q q =>
  hi H1 s _ fun J H2 s2 w => by
    intro D hD
    obtain ⟨Gd, Y, w1, w2⟩ := w
    have s02 : Same H H2 := s.trans s2
    have t2 : Trk X H2 := t.mono s02
    let X' : Addr → Prop := fun a => X a ∨ a = D
    have m2 : More X X' H2 := More.one hD
    have key : ∀ H3, Same H2 H3 ∧ Trk X' H3 → Gd H3 := fun H3 p => (w2 X' m2.2 H3 (Kp.of p.1) p.2).1
    refine lc_it w1 (fun i H3 => Same H2 H3 ∧ Trk X' H3 ∧ ∃ acc, H3 D = some (.lst acc) ∧ DXs X' H3 acc (((ds.take i).filter f).map h)) ?_ ?_ ?_ ?_
    · exact ⟨Same.upd hD, t2.one hD, [], upd_same, .nil⟩
    · rintro i H3 _ ⟨p1, p2, _⟩
      exact key H3 ⟨p1, p2⟩
    · rintro i x H3 H4 hi' ⟨p1, p2, acc, p3, p4⟩ y
      obtain ⟨s4, d, hd, dx⟩ := (w2 X' m2.2 H3 (Kp.of p1) p2).2 i x H4 y
      have hmem : d ∈ ds := List.mem_of_getElem? hd
      have k4 : Kp X' H2 H4 := Kp.of (p1.trans s4)
      have t4 : Trk X' H4 := p2.mono s4
      refine hg H2 s02 d hmem X' H4 m2 k4 t4 x dx _ fun σ2 E2 hw => ⟨hw, ?_⟩
      have etake : ds.take (i + 1) = ds.take i ++ [d] := by rw [List.take_succ, hd]; rfl
      refine ht X' H4 σ2 d hmem (s02.trans (p1.trans s4)) t4 E2 H4 (Same.refl _) _ fun H5 s5 => ?_
      have lacc : acc.length ≤ 1000000 := by
        rw [p4.length, List.length_map]
        exact Nat.le_trans (List.length_filter_le _ _) (Nat.le_trans (List.length_take_le _ _) (by omega))
      cases hf : f d with
      | true =>
        refine iteT ?_
        refine he X' H4 σ2 d hmem hf (s02.trans (p1.trans s4)) t4 E2 H5 s5 _ fun y H6 s6 ry => ?_
        have s36 : Same H3 H6 := (s4.trans s5).trans s6
        refine ⟨acc, s36 D _ p3, by rw [sizeLine_eq]; omega, ?_, ?_, acc ++ [y], upd_same, ?_⟩
        · exact Same.mut (p1.trans s36) hD
        · exact (p2.mono s36).put
        · rw [etake, List.filter_append, List.map_append]
          have ef : List.filter f [d] = [d] := by simp [hf]
          rw [ef]
          exact ((p4.mono (Kp.of s36)).snoc ry).mono (Kp.put (.inr rfl))
      | false =>
        refine iteF ?_
        have s35 : Same H3 H5 := s4.trans s5
        refine ⟨p1.trans s35, p2.mono s35, acc, s35 D _ p3, ?_⟩
        rw [etake, List.filter_append, List.map_append]
        have ef : List.filter f [d] = [] := by simp [hf]
        rw [ef, List.map_nil, List.append_nil]
        exact p4.mono (Kp.of s35)
    · rintro H3 ⟨p1, p2, acc, p3, p4⟩
      rw [List.take_length] at p4
      have nXD : ¬ X D := t2.new hD
      -- D itself is a datum again
      exact q (.ref D) H3 (s2.trans p1) (.lst nXD p3 (p4.less fun a => .inl))
theorem ends_data {l r : List Pr} {h : PyData → PyData} (hh : ∀ p q s, look l p = some q → look r p = some s → h (.int (p : Nat)) = .tuple [.int (p : Nat), .int (q : Nat), .int (s : Nat)]) (hl : Inc l) : ((l.map fun p => PyData.int (p.1 : Nat)).filter fun z => (look r (match z with | .int i => i.toNat | _ => 0)).isSome).map h = (ends l r).map fun e => PyData.tuple [.int (e.1 : Nat), .int (e.2.1 : Nat), .int (e.2.2 : Nat)] := by
  have key : ∀ l' : List Pr, (∀ x ∈ l', x ∈ l) → ((l'.map fun p => PyData.int (p.1 : Nat)).filter fun z => (look r (match z with | .int i => i.toNat | _ => 0)).isSome).map h = (ends l' r).map fun e => PyData.tuple [.int (e.1 : Nat), .int (e.2.1 : Nat), .int (e.2.2 : Nat)] := by
    intro l'
    induction l' with
    | nil => intro _; rfl
    | cons x rest ih =>
      intro hx
      have ih := ih fun y hy => hx y (List.mem_cons_of_mem _ hy)
      rw [List.map_cons, List.filter_cons]
      have e0 : ((x.1 : Nat) : Int).toNat = x.1 := by omega
      simp only [e0]
      unfold ends
      rw [List.filterMap_cons]
      cases hs : look r x.1 with
      | none =>
        rw [if_neg (by simp)]
        exact ih
      | some s =>
        rw [if_pos (by simp), List.map_cons, hh x.1 x.2 s ((look_some hl).mpr (hx x List.mem_cons_self)) hs]
        show _ :: _ = _ :: _
        congr 1
  exact key l fun x hx => hx
end
end KD

/-! How many rows end at a match: mathematics over levels. -/
namespace KD
open PySem PySem.Spec PyProof.Rows L2 KL
abbrev IP := Int × Int
def ipD (p : IP) : PyData := .tuple [.int p.1, .int p.2]
def lvD (l : List IP) : PyData := .list (l.map ipD)
def levI (ls : List (List IP)) : PyData := .list (ls.map lvD)
/-- the second comes behind the first -/
def bhI (o m : IP) : Bool := decide (o.1 < m.1) && decide (o.2 < m.2)
def cntOne (prev : Option (List (IP × Int))) (m : IP) : Int := match prev with
  | none => 1
  | some ps => ((ps.filter fun o => bhI o.1 m).map (·.2)).sum
def stepC (prev : Option (List (IP × Int))) (l : List IP) : List (IP × Int) := l.map fun m => (m, cntOne prev m)
def endC : Option (List (IP × Int)) → List (List IP) → List (List (IP × Int))
  | _, [] => []
  | prev, l :: r => stepC prev l :: endC (some (stepC prev l)) r
/-- the level before the i-th -/
def pvA (prev : Option (List (IP × Int))) (ls : List (List IP)) : Nat → Option (List (IP × Int))
  | 0 => prev
  | i + 1 => (endC prev ls)[i]?
theorem endC_at : ∀ (ls : List (List IP)) (prev : Option (List (IP × Int))) (i : Nat) (l : List IP), ls[i]? = some l → (endC prev ls)[i]? = some (stepC (pvA prev ls i) l)
  | [], _, _, _, h => by simp at h
  | l :: r, prev, 0, _, h => by
    cases h
    rfl
  | l :: r, prev, i + 1, l', h => by
    show (endC (some (stepC prev l)) r)[i]? = _
    rw [endC_at r _ i l' (by simpa using h)]
    cases i with
    | zero => rfl
    | succ k => rfl
theorem endC_len : ∀ (ls : List (List IP)) (prev : Option (List (IP × Int))), (endC prev ls).length = ls.length
  | [], _ => rfl
  | l :: r, prev => by show (endC _ r).length + 1 = r.length + 1; rw [endC_len r]
theorem stepC_keys (prev : Option (List (IP × Int))) (l : List IP) : (stepC prev l).map (·.1) = l := by
  unfold stepC
  rw [List.map_map]
  exact (List.map_congr_left fun _ _ => rfl).trans (List.map_id l)
theorem endC_keys : ∀ (ls : List (List IP)) (prev : Option (List (IP × Int))), (endC prev ls).flatten.map (·.1) = ls.flatten
  | [], _ => rfl
  | l :: r, prev => by
    show (stepC prev l ++ (endC _ r).flatten).map (·.1) = l ++ r.flatten
    rw [List.map_append, stepC_keys, endC_keys r]
def keyI (p : IP) : List Key := [.inl p.1, .inl p.2]
def celI (c : IP × Int) : List Key × V := (keyI c.1, .int c.2)
theorem keyI_inj {p q : IP} (h : keyI p = keyI q) : p = q := by
  have h1 : (Sum.inl p.1 : Key) = .inl q.1 ∧ (Sum.inl p.2 : Key) = .inl q.2 := by simpa [keyI] using h
  exact Prod.ext (Sum.inl.inj h1.1) (Sum.inl.inj h1.2)
theorem val_mem : ∀ {C : List (IP × Int)} {x : IP} {c : Int}, (C.map (·.1)).Nodup → (x, c) ∈ C → valV (C.map celI) (keyI x) = some (.int c)
  | [], _, _, _, h => by cases h
  | a :: r, x, c, nd, h => by
    rw [List.map_cons, List.nodup_cons] at nd
    rw [List.map_cons]
    rcases List.mem_cons.mp h with rfl | h
    · exact valV_pos rfl
    · rw [valV_neg (fun e => nd.1 (by rw [keyI_inj e]; exact List.mem_map.mpr ⟨_, h, rfl⟩))]
      exact val_mem nd.2 h
theorem val_not : ∀ {C : List (IP × Int)} {x : IP}, x ∉ C.map (·.1) → valV (C.map celI) (keyI x) = none
  | [], _, _ => rfl
  | a :: r, x, h => by
    rw [List.map_cons, List.mem_cons] at h
    rw [List.map_cons, valV_neg (fun e => h (.inl (keyI_inj e).symm))]
    exact val_not fun z => h (.inr z)
theorem put_new {C : List (IP × Int)} {x : IP} {c : Int} (h : x ∉ C.map (·.1)) : putK (C.map celI) (keyI x) (.int c) = (C ++ [(x, c)]).map celI := by
  rw [putK_new _ (val_not h), List.map_append]
  rfl
end KD

/-! min(xs, default=d), max(xs, default=d): whole numbers. -/
namespace KD
open PySem PySem.W PySem.Spec PyProof.Rows L2
def leastD (d : Int) : List Int → Int
  | [] => d
  | n :: ns => ns.foldl min n
def mostD (d : Int) : List Int → Int
  | [] => d
  | n :: ns => ns.foldl max n
def rMinDef (K : PySem.W.Frag) (g : Int → List Int → Int) : List V → List V → Hp → VK → Prop := fun xs zs H Q => ∃ (a : Addr) (ns : List Int) (d : Int), xs = [.ref a] ∧ zs = [.int d] ∧ SqL K H a (ns.map V.int) ∧ Q (.int (g d ns)) H
section
variable {X : Cx}
theorem ints_alike (ns : List Int) : AlikeAll (ns.map PyData.int) := by
  refine ⟨fun x hx y hy => ?_, fun x hx => ?_⟩
  · obtain ⟨i, _, rfl⟩ := List.mem_map.mp hx
    obtain ⟨j, _, rfl⟩ := List.mem_map.mp hy
    rfl
  · obtain ⟨i, _, rfl⟩ := List.mem_map.mp hx
    simp
theorem ints_reads (h : Heap) : ∀ (ns : List Int) (us : List Value), Vals (ns.map V.int) us → ReadsAll h us (ns.map PyData.int) []
  | [], _, .nil => .nil
  | n :: ns, _, .cons ⟨t, e⟩ r => by
    subst e
    exact .cons (as := []) (.int n t) (ints_reads h ns _ r)
theorem ints_depth : ∀ ns : List Int, PyData.depthAll (ns.map PyData.int) ≤ 1
  | [] => by simp [PyData.depthAll]
  | n :: ns => by
    have := ints_depth ns
    rw [List.map_cons, PyData.depthAll]
    have e : (PyData.int n).depth = 0 := by simp [PyData.depth]
    omega
theorem cr_minDef (hc : X.calm = true) (hu : X.A.units + 64 < cLine) : CallRK X (.builtin "min") [Str.ofString "default"] (rMinDef X.K leastD) := by
  intro pins s σ H vs zs us ws Q I r rz h
  obtain ⟨a, ns, d, rfl, rfl, hs, q⟩ := h
  obtain rfl := Vals.ref1 r
  obtain ⟨w1, rfl, t1, e1⟩ := vals1 rz
  subst e1
  obtain ⟨its, rv, hl, _⟩ := I.list hs
  have hd := ints_depth ns
  refine min_list_default (I.ok.hd hc) hl.isList (by simpa using ints_reads s.heap ns its rv) (ints_alike ns) (by omega) (fun e h' tk hk => ?_) fun y ys i v h' tk bs e hv hr hk => ?_
  · have e2 : ns = [] := List.map_eq_nil_iff.mp e
    subst e2
    exact ⟨.int d, H, I.kept hk, ⟨_, rfl⟩, q⟩
  · match ns, e with
    | n :: ns, e =>
      rw [List.map_cons] at e
      cases e
      rw [minD_ints] at hr
      cases hr
      exact ⟨.int _, H, I.kept hk, ⟨_, rfl⟩, q⟩
theorem cr_maxDef (hc : X.calm = true) (hu : X.A.units + 64 < cLine) : CallRK X (.builtin "max") [Str.ofString "default"] (rMinDef X.K mostD) := by
  intro pins s σ H vs zs us ws Q I r rz h
  obtain ⟨a, ns, d, rfl, rfl, hs, q⟩ := h
  obtain rfl := Vals.ref1 r
  obtain ⟨w1, rfl, t1, e1⟩ := vals1 rz
  subst e1
  obtain ⟨its, rv, hl, _⟩ := I.list hs
  have hd := ints_depth ns
  refine max_list_default (I.ok.hd hc) hl.isList (by simpa using ints_reads s.heap ns its rv) (ints_alike ns) (by omega) (fun e h' tk hk => ?_) fun y ys i v h' tk bs e hv hr hk => ?_
  · have e2 : ns = [] := List.map_eq_nil_iff.mp e
    subst e2
    exact ⟨.int d, H, I.kept hk, ⟨_, rfl⟩, q⟩
  · match ns, e with
    | n :: ns, e =>
      rw [List.map_cons] at e
      cases e
      rw [maxD_ints] at hr
      cases hr
      exact ⟨.int _, H, I.kept hk, ⟨_, rfl⟩, q⟩
end
theorem cr_minDefK {X : Cx} {K : PySem.W.Frag} (h : X.K = K) (hc : X.calm = true) (hu : X.A.units + 64 < cLine) : CallRK X (.builtin "min") [Str.ofString "default"] (rMinDef K leastD) := h ▸ cr_minDef hc hu
section
variable {X : Addr → Prop} {H : Hp} {σ : L2.St} {te td : TE} {K : PySem.W.Frag} {ns : List Int} {d : Int} {g : Int → List Int → Int}
theorem g_minDef (h : G X te σ H (.list (ns.map PyData.int))) (h2 : G X td σ H (.int d)) : G X (tCKw (rMinDef K g) (tCons te tNil) (tCons td tNil)) σ H (.int (g d ns)) := fun H1 s Q q =>
  h H1 s _ fun v H2 s2 r => h2 H2 (s.trans s2) _ fun w H3 s3 r3 => by
    obtain ⟨a, vs, rfl, _, ha, rv⟩ := (r.mono (Kp.of s3)).lst_inv
    exact ⟨a, ns, d, rfl, by rw [r3.int_inv], SqL.of (by rw [← rv.ints]; exact ha), q _ H3 (s2.trans s3) (.int _)⟩
end
theorem foldl_least : ∀ (ns : List Int) (n : Int), ns.foldl min n ∈ n :: ns ∧ ∀ y ∈ n :: ns, ns.foldl min n ≤ y
  | [], n => ⟨List.mem_cons_self, fun y hy => by rw [List.mem_singleton.mp hy]; exact Int.le_refl _⟩
  | m :: ms, n => by
    obtain ⟨a, b⟩ := foldl_least ms (min n m)
    have e : (m :: ms).foldl min n = ms.foldl min (min n m) := rfl
    rw [e]
    refine ⟨?_, fun y hy => ?_⟩
    · rcases List.mem_cons.mp a with h | h
      · rw [h]
        by_cases c : n ≤ m
        · rw [Int.min_eq_left c]
          exact List.mem_cons_self
        · rw [Int.min_eq_right (by omega)]
          exact .tail _ List.mem_cons_self
      · exact .tail _ (.tail _ h)
    · have b0 := b (min n m) List.mem_cons_self
      rcases List.mem_cons.mp hy with rfl | hy
      · omega
      · rcases List.mem_cons.mp hy with rfl | hy
        · omega
        · exact b y (.tail _ hy)
theorem least_is {d : Int} : ∀ {ns : List Int}, ns ≠ [] → leastD d ns ∈ ns ∧ ∀ y ∈ ns, leastD d ns ≤ y
  | [], h => absurd rfl h
  | n :: ns, _ => foldl_least ns n
end KD

/-! min(xs, default=None): whole numbers. -/
namespace KD
open PySem PySem.W PySem.Spec PyProof.Rows L2
def leastN : List Int → V
  | [] => .non
  | n :: ns => .int (ns.foldl min n)
def rMinDefN (K : PySem.W.Frag) : List V → List V → Hp → VK → Prop := fun xs zs H Q => ∃ (a : Addr) (ns : List Int), xs = [.ref a] ∧ zs = [.non] ∧ SqL K H a (ns.map V.int) ∧ Q (leastN ns) H
theorem cr_minDefN {X : Cx} (hc : X.calm = true) (hu : X.A.units + 64 < cLine) : CallRK X (.builtin "min") [Str.ofString "default"] (rMinDefN X.K) := by
  intro pins s σ H vs zs us ws Q I r rz h
  obtain ⟨a, ns, rfl, rfl, hs, q⟩ := h
  obtain rfl := Vals.ref1 r
  obtain ⟨w1, rfl, e1⟩ := vals1 rz
  cases e1
  obtain ⟨its, rv, hl, _⟩ := I.list hs
  have hd := ints_depth ns
  refine min_list_default (I.ok.hd hc) hl.isList (by simpa using ints_reads s.heap ns its rv) (ints_alike ns) (by omega) (fun e h' tk hk => ?_) fun y ys i v h' tk bs e hv hr hk => ?_
  · have e2 : ns = [] := List.map_eq_nil_iff.mp e
    subst e2
    exact ⟨.non, H, I.kept hk, rfl, q⟩
  · match ns, e with
    | n :: ns, e =>
      rw [List.map_cons] at e
      cases e
      rw [minD_ints] at hr
      cases hr
      exact ⟨.int _, H, I.kept hk, ⟨_, rfl⟩, q⟩
end KD

/-! Heights. -/
namespace K80
open PySem PySem.Spec PyProof.Rows L2 KD KS
variable {P : Program} {w : World} {K : PySem.W.Frag} {mg : Str → Option Value} {base : Heap}
/-! ### who is found -/
def ct : List Bool → Nat
  | [] => 0
  | b :: r => (if b then 1 else 0) + ct r
theorem mk_none : ∀ bs : List Bool, KB.mk bs = 0 ↔ ct bs = 0
  | [] => by simp [KB.mk, ct]
  | b :: r => by
    have h := mk_none r
    have h0 := KB.mk_nonneg r
    rw [KB.mk, ct]
    cases b
    · simp only [Bool.false_eq_true, if_false]
      omega
    · simp only [if_true]
      omega
theorem and_self (bs : List Bool) : Builtin.bitAnd (KB.mk bs) (KB.mk bs) = KB.mk bs := by
  rw [KB.and_mk bs bs rfl, List.zipWith_self]
  congr 1
  exact (List.map_congr_left fun b _ => Bool.and_self b).trans (List.map_id bs)
theorem pred_and : ∀ bs : List Bool, Builtin.bitAnd (KB.mk bs) (KB.mk bs - 1) = 0 ↔ ct bs ≤ 1
  | [] => by
    have e : Builtin.bitAnd (KB.mk []) (KB.mk [] - 1) = 0 := by decide
    rw [e]
    simp [ct]
  | false :: r => by
    have ih := pred_and r
    have h1 := KB.mk_half false r
    have h2 : (KB.mk (false :: r) - 1) / 2 = KB.mk r - 1 := by rw [KB.mk]; simp; omega
    have h3 : ¬ KB.mk (false :: r) % 2 = 1 := by rw [KB.mk]; simp
    rw [PySem.W.kbt_halves, h1, h2, ct, if_neg (fun z => h3 z.1)]
    simp only [Bool.false_eq_true, if_false]
    omega
  | true :: r => by
    have h1 := KB.mk_half true r
    have h2 : (KB.mk (true :: r) - 1) / 2 = KB.mk r := by rw [KB.mk]; simp; omega
    have h3 : ¬ (KB.mk (true :: r) - 1) % 2 = 1 := by rw [KB.mk]; simp; omega
    rw [PySem.W.kbt_halves, h1, h2, and_self, ct, if_neg (fun z => h3 z.2)]
    have := mk_none r
    simp only [if_true]
    omega
theorem ct_fw (l : Nat) : ∀ cs : List Nat, ct (cs.map fun c => decide (c ≤ l)) = fw l cs
  | [] => rfl
  | c :: cs => by
    have ih := ct_fw l cs
    unfold fw at ih ⊢
    rw [List.map_cons, ct, ih, List.filter_cons]
    split
    · rw [List.length_cons]
      omega
    · omega
theorem mk_inj : ∀ {a b : List Bool}, a.length = b.length → KB.mk a = KB.mk b → a = b
  | [], [], _, _ => rfl
  | a :: as, b :: bs, hl, h => by
    have h1 := KB.mk_half a as
    have h2 := KB.mk_half b bs
    have l1 := KB.mk_low a as
    have l2 := KB.mk_low b bs
    rw [h] at h1 l1
    have e1 : as = bs := mk_inj (by simpa using hl) (by rw [← h1, h2])
    have e2 : a = true ↔ b = true := l1.symm.trans l2
    rw [e1]
    congr 1
    cases a <;> cases b <;> simp_all
/-! ### states as keys -/
def stI (l : Int) (cs : List Nat) : IP := (KB.mk (cs.map fun c => decide (c = 0)), KB.mk (cs.map fun c => decide (l = 1) && decide (c = 1)))
theorem stI_D (l : Int) (cs : List Nat) : ipD (stI l cs) = stC l cs := rfl
theorem lie_nat {l : Int} (h : lieI (.int l)) : l = 0 ∨ l = 1 := by
  rcases h with h | h <;> cases h
  · exact .inl rfl
  · exact .inr rfl
theorem stI_cp {l : Int} (h : lieI (.int l)) {a b : List Nat} (e : cp l.toNat a = cp l.toNat b) : stI l a = stI l b := by
  have key : ∀ {a b : List Nat}, cp l.toNat a = cp l.toNat b → a.map (fun c => decide (c = 0)) = b.map (fun c => decide (c = 0)) ∧ a.map (fun c => decide (l = 1) && decide (c = 1)) = b.map (fun c => decide (l = 1) && decide (c = 1)) := fun {a} => by
    induction a with
    | nil =>
      intro b e
      cases b with
      | nil => exact ⟨rfl, rfl⟩
      | cons y b => cases e
    | cons x a ih =>
      intro b e
      cases b with
      | nil => cases e
      | cons y b =>
        unfold cp at e ih
        rw [List.map_cons, List.map_cons, List.cons.injEq] at e
        obtain ⟨e1, e2⟩ := e
        obtain ⟨i1, i2⟩ := ih e2
        rw [List.map_cons, List.map_cons, List.map_cons, List.map_cons, i1, i2]
        refine ⟨?_, ?_⟩
        · congr 1
          exact decide_eq_decide.mpr (by omega)
        · congr 1
          rcases lie_nat h with rfl | rfl
          · rfl
          · have e1 : min x 2 = min y 2 := e1
            have : decide (x = 1) = decide (y = 1) := decide_eq_decide.mpr (by omega)
            rw [this]
  obtain ⟨h1, h2⟩ := key e
  unfold stI
  rw [h1, h2]
theorem stI_inj {l : Int} (h : lieI (.int l)) {a b : List Nat} (hl : a.length = b.length) (e : stI l a = stI l b) : cp l.toNat a = cp l.toNat b := by
  obtain ⟨e1, e2⟩ := Prod.mk.inj e
  replace e1 := mk_inj (by rw [List.length_map, List.length_map, hl]) e1
  replace e2 := mk_inj (by rw [List.length_map, List.length_map, hl]) e2
  clear e
  induction a generalizing b with
  | nil =>
    cases b with
    | nil => rfl
    | cons y b => cases hl
  | cons x a ih =>
    cases b with
    | nil => cases hl
    | cons y b =>
      rw [List.map_cons, List.map_cons, List.cons.injEq] at e1 e2
      have ih := ih (b := b) (by simpa using hl) e1.2 e2.2
      unfold cp at ih ⊢
      rw [List.map_cons, List.map_cons, ih]
      congr 1
      have a1 : x = 0 ↔ y = 0 := decide_eq_decide.mp e1.1
      rcases lie_nat h with rfl | rfl
      · show min x 1 = min y 1
        omega
      · have a2 := e2.1
        rw [decide_eq_true rfl, Bool.true_and, Bool.true_and] at a2
        have a2 : x = 1 ↔ y = 1 := decide_eq_decide.mp a2
        show min x 2 = min y 2
        omega
def hV : Option Nat → V
  | none => .non
  | some n => .int (n : Int)
def hD : Option Nat → PyData
  | none => .none
  | some n => .int (n : Int)
theorem hV_D {X : Addr → Prop} {H : Hp} : ∀ o : Option Nat, DX X H (hV o) (hD o)
  | none => .non
  | some n => .int _
def celH (c : IP × Option Nat) : List Key × V := (keyI c.1, hV c.2)
theorem valH_mem : ∀ {C : List (IP × Option Nat)} {x : IP} {c : Option Nat}, (C.map (·.1)).Nodup → (x, c) ∈ C → valV (C.map celH) (keyI x) = some (hV c)
  | [], _, _, _, h => by cases h
  | a :: r, x, c, nd, h => by
    rw [List.map_cons, List.nodup_cons] at nd
    rw [List.map_cons]
    rcases List.mem_cons.mp h with rfl | h
    · exact valV_pos rfl
    · rw [valV_neg (fun e => nd.1 (by rw [keyI_inj e]; exact List.mem_map.mpr ⟨_, h, rfl⟩))]
      exact valH_mem nd.2 h
theorem valH_not : ∀ {C : List (IP × Option Nat)} {x : IP}, x ∉ C.map (·.1) → valV (C.map celH) (keyI x) = none
  | [], _, _ => rfl
  | a :: r, x, h => by
    rw [List.map_cons, List.mem_cons] at h
    rw [List.map_cons, valV_neg (fun e => h (.inl (keyI_inj e).symm))]
    exact valH_not fun z => h (.inr z)
theorem putH_new {C : List (IP × Option Nat)} {x : IP} {c : Option Nat} (h : x ∉ C.map (·.1)) : putK (C.map celH) (keyI x) (hV c) = (C ++ [(x, c)]).map celH := by
  rw [putK_new _ (valH_not h), List.map_append]
  rfl
/-- what is known is right -/
structure Kn (M : List (List Bool)) (l : Int) (n : Nat) (C : List (IP × Option Nat)) : Prop where
  nd : (C.map (·.1)).Nodup
  ok : ∀ c ∈ C, ∃ cs : List Nat, cs.length = n ∧ c.1 = stI l cs ∧ c.2 = hh M l.toNat cs
theorem Kn.few {M : List (List Bool)} {l : Int} {n : Nat} {C : List (IP × Option Nat)} (k : Kn M l n C) (hn : n ≤ 8) : C.length ≤ 65536 := by
  have h := List.Nodup.length_le_of_subset (l₂ := (List.range 256).flatMap fun i : Nat => (List.range 256).map fun j : Nat => (((i : Nat) : Int), ((j : Nat) : Int))) k.nd fun x hx => by
    obtain ⟨c, hc, rfl⟩ := List.mem_map.mp hx
    obtain ⟨cs, e1, e2, _⟩ := k.ok c hc
    have b : ∀ bs : List Bool, bs.length = n → KB.mk bs < 256 := fun bs hb => by
      have h1 := KB.mk_lt bs
      have h2 : (2 : Int) ^ bs.length ≤ 2 ^ 8 := by
        have := Nat.pow_le_pow_right (show 0 < 2 by omega) (show bs.length ≤ 8 by omega)
        exact_mod_cast this
      omega
    have b1 := b (cs.map fun c => decide (c = 0)) (by rw [List.length_map, e1])
    have b2 := b (cs.map fun c => decide (l = 1) && decide (c = 1)) (by rw [List.length_map, e1])
    have c1 := KB.mk_nonneg (cs.map fun c => decide (c = 0))
    have c2 := KB.mk_nonneg (cs.map fun c => decide (l = 1) && decide (c = 1))
    rw [e2]
    refine List.mem_flatMap.mpr ⟨(KB.mk (cs.map fun c => decide (c = 0))).toNat, List.mem_range.mpr (by omega), List.mem_map.mpr ⟨(KB.mk (cs.map fun c => decide (l = 1) && decide (c = 1))).toNat, List.mem_range.mpr (by omega), ?_⟩⟩
    unfold stI
    exact Prod.ext (by show ((KB.mk _).toNat : Int) = _; omega) (by show ((KB.mk _).toNat : Int) = _; omega)
  rw [List.length_map] at h
  have e : ((List.range 256).flatMap fun i : Nat => (List.range 256).map fun j : Nat => (((i : Nat) : Int), ((j : Nat) : Int))).length = 65536 := by
    rw [List.length_flatMap]
    have s : ∀ (n k : Nat), ((List.range n).map fun _ : Nat => k).sum = n * k := fun n k => by
      induction n with
      | zero => simp
      | succ n ih =>
        rw [List.range_succ, List.map_append, List.sum_append, ih, Nat.add_mul]
        simp
    have e : (fun i : Nat => ((List.range 256).map fun j : Nat => (((i : Nat) : Int), ((j : Nat) : Int))).length) = fun _ => 256 := funext fun i => by rw [List.length_map, List.length_range]
    rw [e, s]
  omega
def mskD (M : List (List Bool)) : PyData := .list (M.map fun ms => .int (KB.mk ms))
/-- what heights are reckoned in -/
structure Kc (X : Addr → Prop) (D : Addr) (l : Int) (n : Nat) (M : List (List Bool)) (C : List (IP × Option Nat)) (H : Hp) : Prop where
  t : Trk X H
  xd : X D
  hD : H D = some (.dT (C.map celH))
  kn : Kn M l n C
  hM : ∀ ms ∈ M, ms.length = n
  n8 : n ≤ 8
  lie : lieI (.int l)
  few : M.length ≤ 100
section
variable {X X' : Addr → Prop} {D : Addr} {l : Int} {n : Nat} {M : List (List Bool)} {C C' : List (IP × Option Nat)} {H H' : Hp}
theorem Kc.same (k : Kc X D l n M C H) (s : Same H H') : Kc X D l n M C H' := ⟨k.t.mono s, k.xd, s _ _ k.hD, k.kn, k.hM, k.n8, k.lie, k.few⟩
theorem Kc.next (k : Kc X D l n M C H) (o : KpO D H H') (h : H' D = some (.dT (C'.map celH))) (kn : Kn M l n C') : Kc X D l n M C' H' := ⟨o.trk k.t ⟨_, h⟩, k.xd, h, kn, k.hM, k.n8, k.lie, k.few⟩
theorem Kc.more (k : Kc X D l n M C H) (x : X' D) (t : Trk X' H) : Kc X' D l n M C H := ⟨t, x, k.hD, k.kn, k.hM, k.n8, k.lie, k.few⟩
end
def spFound : Sp := fun us H Q _ => ∃ (X : Addr → Prop) (v : V) (l : Int) (cs : List Nat), us = [v] ∧ Trk X H ∧ DX X H v (stC l cs) ∧ lieI (.int l) ∧ ∀ H', Same H H' → Q (.bl (fnd l.toNat cs)) H'
-- HINT is_found ix (ix_seqK (K := K) rfl)
abbrev s_is_found : Stmt := topS 22
abbrev n_is_found : List Str := ["state", "possible"]
theorem sc_is_found : FnScope n_is_found ["state"] (defScope s_is_found) := ⟨rfl, rfl, rfl, by decide +kernel, rfl, by decide +kernel, by decide +kernel⟩
theorem ok_is_found {f : Addr} {fd : FuncData} (F : Fun K "is_found" "is_found" s_is_found f fd) (T : Bl mg) : FnOk P w K mg base CX0 1 f fd ["state"] spFound := by
  refine F.ok sc_is_found (fun vs H Q E h => ?_) (fun cdv A outer s H vs Q E hr h => ?_)
  · obtain ⟨X, v, l, cs, rfl, _⟩ := h
    rfl
  · obtain ⟨X, v, l, cs, rfl, t, r1, lie, q⟩ := h
    refine ⟨_, (pss_cons (ps_set (i := 1) sc_is_found.nd rfl (by first | exact Or.inl rfl | exact Or.inr rfl) (pe_op op_or (pe_ix (ix_seqK (K := K) rfl) (pv 0) pe_int (fun _ _ => rfl)) (pe_ix (ix_seqK (K := K) rfl) (pv 0) pe_int (fun _ _ => rfl))))
    (pss_one (ps_ret (pe_cmpR (op_eqD hr.units) (pe_op op_and (pv 1) (pe_op op_sub (pv 1) pe_int)) pe_int (nomark _))))), ?_⟩
    have En : EnvOk X H (L2.start n_is_found [v]) [.dat (stC l cs), .un] := env1 (N := n_is_found) r1 (by decide)
    refine q_set (i := 1) (d := .int (KB.mk (cs.map fun (c : Nat) => decide ((c : Int) ≤ l)))) En (g_is (g_op t (g_ixT t (g_var (i := 0) (d := stC l cs) En rfl) g_int rfl) (g_ixT t (g_var (i := 0) (d := stC l cs) En rfl) g_int rfl) (rd_I0 (g := Builtin.bitOr))) ?_) fun H1 v s1 E1 => ?_
    · rw [KB.or_mk (by rw [List.length_map, List.length_map])]
      congr 2
      rw [List.zipWith_map]
      rw [List.zipWith_self]
      exact List.map_congr_left fun c _ => lie_le lie c
    have t1 := t.mono s1
    have gv : G X (tVar 1) _ H1 (.int (KB.mk (cs.map fun (c : Nat) => decide ((c : Int) ≤ l)))) := g_var (i := 1) E1 rfl
    refine s_ret (X := X) (d := .bool (fnd l.toNat cs)) (g_is (g_eqD (K := K) t1 (g_op t1 gv (g_sub t1 gv g_int) (rd_I0 (g := Builtin.bitAnd))) g_int rfl rfl (shaped_int _) (shaped_int _)) ?_) fun w H2 s2 dw => ?_
    · rw [eqv_int]
      have e : (cs.map fun (c : Nat) => decide ((c : Int) ≤ l)) = cs.map fun c => decide (c ≤ l.toNat) := List.map_congr_left fun c _ => decide_eq_decide.mpr (by rcases lie_nat lie with rfl | rfl <;> omega)
      unfold fnd
      rw [e, ← ct_fw]
      exact congrArg PyData.bool (decide_eq_decide.mpr (pred_and _))
    · rw [dw.bl_inv]
      exact q H2 (s1.trans s2)
theorem op_inDK {X : Cx} (h : X.K = K) (hu : X.A.units + 65 < cLine) : OpR X (compareOp .In) (rInD K) := h ▸ op_inD hu
theorem hu65 {k : Nat} {A : Around} (hr : Room k A) : A.units + 65 < cLine := by have := hr.un; omega
theorem g_inD {X : Addr → Prop} {σ : L2.St} {H : Hp} {ta tb : TE} {d : PyData} {ds : List PyData} (t : Trk X H) (ha : G X ta σ H d) (hb : G X tb σ H (.list ds)) (n1 : noDict d = true) (n2 : noDict (.list ds) = true) (s1 : SeqAt.shaped d = true) (s2 : SeqAt.shaped (.list ds) = true) : G X (tOp (rInD K) ta tb) σ H (.bool (ds.any fun z => PyData.eqv z d)) :=
  g_op t ha hb (RB.rd fun H u v _ ru rv Q q => ⟨d, ds, ru.dp n1, rv.dp n2, s1, s2, q⟩)
theorem gt_inD {X : Addr → Prop} {σ : L2.St} {H : Hp} {ta tb : TE} {d : PyData} {ds : List PyData} (t : Trk X H) (ha : G X ta σ H d) (hb : G X tb σ H (.list ds)) (n1 : noDict d = true) (n2 : noDict (.list ds) = true) (s1 : SeqAt.shaped d = true) (s2 : SeqAt.shaped (.list ds) = true) : GT (tTest (tOp (rInD K) ta tb)) σ H (ds.any fun z => PyData.eqv z d) :=
  gt_op t ha hb fun H u v _ ru rv Q q => ⟨d, ds, ru.dp n1, rv.dp n2, s1, s2, q⟩
theorem eqv_stC {l : Int} (h : lieI (.int l)) {a b : List Nat} (hl : a.length = b.length) : PyData.eqv (stC l a) (stC l b) = decide (cp l.toNat a = cp l.toNat b) := by
  have h1 := eqv_int (stI l a).1 (stI l b).1
  have h2 := eqv_int (stI l a).2 (stI l b).2
  show PyData.eqv (.tuple [.int (stI l a).1, .int (stI l a).2]) (.tuple [.int (stI l b).1, .int (stI l b).2]) = _
  simp only [PyData.eqv, PyData.eqvAll] at h1 h2 ⊢
  rw [h1, h2, Bool.and_true, ← Bool.decide_and]
  exact decide_eq_decide.mpr ⟨fun z => stI_inj h hl (Prod.ext z.1 z.2), fun z => by rw [stI_cp h z]; exact ⟨rfl, rfl⟩⟩
theorem stC_plain (l : Int) (cs : List Nat) : noDict (stC l cs) = true ∧ SeqAt.shaped (stC l cs) = true := ⟨rfl, by unfold stC; simp [SeqAt.shaped, PyData.canLay0, PyData.canLayAll0, PyData.depth, PyData.depthAll]⟩
theorem two_plain (l : Int) (a b : List Nat) : noDict (.list [stC l a, stC l b]) = true ∧ SeqAt.shaped (.list [stC l a, stC l b]) = true := ⟨rfl, by unfold stC; simp [SeqAt.shaped, PyData.canLay0, PyData.canLayAll0, PyData.depth, PyData.depthAll]⟩
theorem hD_plain (a b : Option Nat) : noDict (.list [hD a, hD b]) = true ∧ SeqAt.shaped (.list [hD a, hD b]) = true := by
  cases a <;> cases b <;> exact ⟨rfl, by simp [hD, SeqAt.shaped, PyData.canLay0, PyData.canLayAll0, PyData.depth, PyData.depthAll]⟩
def spHt (d : Nat) : Sp := fun us H Q _ => ∃ (X : Addr → Prop) (v1 v2 v3 : V) (D : Addr) (l : Int) (n : Nat) (M : List (List Bool)) (cs : List Nat) (C : List (IP × Option Nat)), us = [v1, v2, v3, .ref D] ∧ Kc X D l n M C H ∧ DX X H v1 (mskD M) ∧ DX X H v2 (.int l) ∧ DX X H v3 (stC l cs) ∧ cs.length = n ∧ mu l.toNat cs ≤ d ∧
  ∀ H' C', KpO D H H' → H' D = some (.dT (C'.map celH)) → Kn M l n C' → Q (hV (hh M l.toNat cs)) H'
def spHw (d : Nat) : Sp := fun us H Q _ => ∃ (X : Addr → Prop) (v1 v2 v3 v4 : V) (D : Addr) (l : Int) (n : Nat) (M : List (List Bool)) (cs : List Nat) (ms : List Bool) (C : List (IP × Option Nat)), us = [v1, v2, v3, v4, .ref D] ∧ Kc X D l n M C H ∧ DX X H v1 (mskD M) ∧ DX X H v2 (.int l) ∧ DX X H v3 (stC l cs) ∧ DX X H v4 (.int (KB.mk ms)) ∧ cs.length = n ∧ ms.length = n ∧ mu l.toNat cs ≤ d + 1 ∧
  ∀ H' C', KpO D H H' → H' D = some (.dT (C'.map celH)) → Kn M l n C' → Q (hV (hw (hh M l.toNat) l.toNat cs ms)) H'
theorem k_ifE {tt : TT} {ta tb : TE} {σ : L2.St} {H : Hp} {Q : VK} {b : Bool} (h : GT tt σ H b) (h1 : b = true → ∀ H1, Same H H1 → ta σ H1 Q) (h2 : b = false → ∀ H1, Same H H1 → tb σ H1 Q) : tIf tt ta tb σ H Q := h H (Same.refl H) _ fun H1 s => by
  cases b with
  | true => exact h1 rfl H1 s
  | false => exact h2 rfl H1 s
theorem k_lcLh {g : TG} {tt : TT} {te tb : TE} {us : List Nat} {σ : L2.St} {H : Hp} {Q : VK} (h : te σ H fun v H1 => ∃ a, v = .ref a ∧ (∃ zs, SqL K H1 a zs) ∧ tLc (fun _ H2 R => R (Itl K a) H2) g tt tb us σ H1 Q) : tLc (iList K te) g tt tb us σ H Q := h
-- HINT height_with le (by omega)
-- HINT height_with in (op_inDK (K := K) rfl (hu65 hr))
abbrev s_height_with : Stmt := topS 23
abbrev n_height_with : List Str := ["masks", "lies", "state", "mask", "known", "states", "heights", "answer", "further"]
theorem sc_height_with : FnScope n_height_with ["masks", "lies", "state", "mask", "known"] (defScope s_height_with) := ⟨rfl, rfl, rfl, by decide +kernel, rfl, by decide +kernel, by decide +kernel⟩
theorem ok_height_with {f : Addr} {fd : FuncData} {d k : Nat} (F : Fun K "height_with" "height_with" s_height_with f fd) (T : Bl mg) (b_max : mg "max" = none) (hk : 1 ≤ k) (O_answered : Own P w K mg base CX0 1 "answered" ["state", "mask", "answer", "lies"] spAns) (O_height_of : Own P w K mg base CX0 k "height_of" ["masks", "lies", "state", "known"] (spHt d)) : FnOk P w K mg base CX0 (k + 1) f fd ["masks", "lies", "state", "mask", "known"] (spHw d) := by
  refine F.ok sc_height_with (fun vs H Q E h => ?_) (fun cdv A outer s H vs Q E hr h => ?_)
  · obtain ⟨X, v1, v2, v3, v4, D, l, n, M, cs, ms, C, rfl, _⟩ := h
    rfl
  · obtain ⟨X, v1, v2, v3, v4, D, l, n, M, cs, ms, C, rfl, kc, r1, r2, r3, r4, hn, hm, hd, q⟩ := h
    refine ⟨_, (pss_cons (ps_setLc (i := 5) (own := [("answer", 7)]) (g := (gName 7)) (tt := tYes) rfl sc_height_with.nd rfl rfl (sw_true rfl rfl rfl (by decide +kernel)) (pi_tup (pe_tup (pa_cons pe_bl (pa_cons pe_bl pa_nil)))) (blkOk_by (N := n_height_with) (sc := defScope s_height_with) (by decide +kernel)) (fun _ _ _ _ _ => (pg_name (i := 7) sc_height_with.nd rfl (by first | exact Or.inl rfl | exact Or.inr rfl))) (fun _ _ _ _ _ => pts_nil) (fun _ _ _ _ _ => (pe_own O_answered hr (by omega) (by rfl) (pa_cons (pv 2) (pa_cons (pv 3) (pa_cons (pv 7) (pa_cons (pv 1) pa_nil)))))))
    (pss_cons (ps_if (pt_cmpR (op_inDK (K := K) rfl (hu65 hr)) (pv 2) (pv 5) (by rfl))
    (pss_one (ps_ret pe_non)) pss_nil)
    (pss_cons (ps_setLc (i := 6) (own := [("further", 8)]) (g := (gName 8)) (tt := tYes) rfl sc_height_with.nd rfl rfl (sw_true rfl rfl rfl (by decide +kernel)) (pi_list (pv 5)) (blkOk_by (N := n_height_with) (sc := defScope s_height_with) (by decide +kernel)) (fun _ _ _ _ _ => (pg_name (i := 8) sc_height_with.nd rfl (by first | exact Or.inl rfl | exact Or.inr rfl))) (fun _ _ _ _ _ => pts_nil) (fun _ _ _ _ _ => (pe_own O_height_of hr (by omega) (by rfl) (pa_cons (pv 0) (pa_cons (pv 1) (pa_cons (pv 8) (pa_cons (pv 4) pa_nil)))))))
    (pss_one (ps_ret (pe_ifExp (pt_cmpR (op_inDK (K := K) rfl (hu65 hr)) pe_non (pv 6) (by rfl)) pe_non (pe_callB (cr_max rfl) (by rfl) b_max boot_max (pa_cons (pv 6) pa_nil)))))))), ?_⟩
    have En : EnvOk X H (L2.start n_height_with [v1, v2, v3, v4, .ref D]) [.dat (mskD M), .dat (.int l), .dat (stC l cs), .dat (.int (KB.mk ms)), .val (.ref D), .un, .un, .un, .un] := ⟨rfl, fun i s e => by
      match i, e with
      | 0, e => cases e; exact ⟨_, rfl, r1⟩
      | 1, e => cases e; exact ⟨_, rfl, r2⟩
      | 2, e => cases e; exact ⟨_, rfl, r3⟩
      | 3, e => cases e; exact ⟨_, rfl, r4⟩
      | 4, e => cases e; rfl
      | 5, e => cases e; trivial
      | 6, e => cases e; trivial
      | 7, e => cases e; trivial
      | 8, e => cases e; trivial
      | _ + 9, e => cases e⟩
    have t := kc.t
    have lcm : cs.length = ms.length := by omega
    let L := l.toNat
    refine q_set (i := 5) (d := .list [stC l (an true cs ms), stC l (an false cs ms)]) En (g_is (g_lc1 (ds := [.bool true, .bool false]) (Γ2 := fun z => [.dat (mskD M), .dat (.int l), .dat (stC l cs), .dat (.int (KB.mk ms)), .val (.ref D), .un, .un, .dat z, .un]) (fun z => stC l (an (blOf z) cs ms)) t (gi_tup (g_tup t (ga_cons g_bl (ga_cons g_bl ga_nil)) (by simp))) (by simp) (fun H3 s3 z hz => tgt_name (En.same s3)) (fun X2 H3 σ2 z hz t3 E3 => ?_)) rfl) fun H1 u1 s1 E1 => ?_
    · obtain ⟨b, rfl⟩ : ∃ b, z = .bool b := by
        simp only [List.mem_cons, List.not_mem_nil, or_false] at hz
        rcases hz with rfl | rfl <;> exact ⟨_, rfl⟩
      exact g_ans t3 (g_var (i := 2) (d := stC l cs) E3 rfl) (g_var (i := 3) (d := .int (KB.mk ms)) E3 rfl) (g_var (i := 7) (d := .bool b) E3 rfl) (g_var (i := 1) (d := .int l) E3 rfl) lcm kc.lie
    have E1 : EnvOk X H1 _ [.dat (mskD M), .dat (.int l), .dat (stC l cs), .dat (.int (KB.mk ms)), .val (.ref D), .dat (.list [stC l (an true cs ms), stC l (an false cs ms)]), .un, .un, .un] := E1
    have kc1 := kc.same s1
    have la : ∀ b, (an b cs ms).length = n := fun b => by rw [an_len (by omega), hn]
    have est : ([stC l (an true cs ms), stC l (an false cs ms)].any fun z => PyData.eqv z (stC l cs)) = decide (cp L cs = cp L (an true cs ms) ∨ cp L cs = cp L (an false cs ms)) := by
      rw [List.any_cons, List.any_cons, List.any_nil, Bool.or_false, eqv_stC kc.lie (by rw [la, hn]), eqv_stC kc.lie (by rw [la, hn]), ← Bool.decide_or]
      exact decide_eq_decide.mpr ⟨fun z => z.imp Eq.symm Eq.symm, fun z => z.imp Eq.symm Eq.symm⟩
    refine q_if (gt_is (gt_inD (K := K) kc1.t (g_var (i := 2) (d := stC l cs) E1 rfl) (g_var (i := 5) (d := .list [stC l (an true cs ms), stC l (an false cs ms)]) E1 rfl) (stC_plain _ _).1 (two_plain _ _ _).1 (stC_plain _ _).2 (two_plain _ _ _).2) est) (fun hb H2 s2 => ?_) fun hb H2 s2 => ?_
    · have hb := of_decide_eq_true hb
      have e : hw (hh M L) L cs ms = none := by unfold hw; rw [if_pos hb]
      have h := q H2 C (KpO.of (s1.trans s2)) ((s1.trans s2) _ _ kc.hD) kc.kn
      rw [e] at h
      exact h
    have hb := of_decide_eq_false hb
    have E2 := E1.same s2
    have kc2 := kc1.same s2
    have s02 := s1.trans s2
    refine k_set (k_lcLh (g_var (i := 5) (d := .list [stC l (an true cs ms), stC l (an false cs ms)]) E2 rfl H2 (Same.refl _) _ fun v5 H3 s3 r5 => ?_))
    obtain ⟨a5, xs5, rfl, n5, e5, rx5⟩ := r5.lst_inv
    refine ⟨a5, rfl, ⟨_, SqL.of e5⟩, ?_⟩
    have kc3 := kc2.same s3
    have E3 := E2.same s3
    have s03 := s02.trans s3
    let hs : Nat → Option Nat := fun j => hh M L (an (decide (j = 0)) cs ms)
    refine lc_eff (L := D) (fun H' => ∃ C', H' D = some (.dT (C'.map celH)) ∧ Kn M l n C') (fun j => hV (hs j)) kc3.t kc3.xd E3 (.lst n5 e5 rx5) (by simp) ⟨C, kc3.hD, kc3.kn⟩ (fun G1 G2 p e => let ⟨C', h1, h2⟩ := p; ⟨C', by rw [e]; exact h1, h2⟩) (fun G1 p => let ⟨C', h1, _⟩ := p; ⟨_, h1⟩) (fun X' G1 σ2 j z Q1 hz xD tG EG p q1 => ?_) fun pl G1 hpl kG pG hG => ?_
    · obtain ⟨C1, hC1, kn1⟩ := p
      obtain ⟨b, rfl, eb⟩ : ∃ b, z = stC l (an b cs ms) ∧ b = decide (j = 0) := by
        match j, hz with
        | 0, hz => cases hz; exact ⟨true, rfl, rfl⟩
        | 1, hz => cases hz; exact ⟨false, rfl, rfl⟩
      have ne : cp L cs ≠ cp L (an b cs ms) := fun z => hb (by cases b; exact .inr z; exact .inl z)
      have lt : mu l.toNat (an b cs ms) < mu l.toNat cs := mu_lt (by omega) ne
      obtain ⟨w0, g0, x0⟩ := EG.get 0 (.dat (mskD M)) rfl
      obtain ⟨w1, g1, x1⟩ := EG.get 1 (.dat (.int l)) rfl
      obtain ⟨w8, g8, x8⟩ := EG.get 8 (.dat (stC l (an b cs ms))) rfl
      refine ⟨w0, g0, w1, g1, w8, g8, .ref D, EG.get 4 (.val (.ref D)) rfl, X', w0, w1, w8, D, l, n, M, an b cs ms, C1, rfl, ⟨tG, xD, hC1, kn1, kc.hM, kc.n8, kc.lie, kc.few⟩, x0, x1, x8, la b, by omega, fun G2 C2 k2 h2 kn2 => ?_⟩
      have := q1 G2 k2 ⟨C2, h2, kn2⟩
      rw [show hs j = hh M L (an b cs ms) by show hh M L (an (decide (j = 0)) cs ms) = _; rw [eb]] at this
      exact this
    · obtain ⟨C1, hC1, kn1⟩ := pG
      have kc4 := kc3.next kG hC1 kn1
      have npl : ¬ X pl := kc3.t.new hpl
      have o04 : KpO D H G1 := (KpO.of s03).trans kG
      have hG : G1 pl = some (.lst [hV (hs 0), hV (hs 1)]) := hG
      have dl : DX X G1 (.ref pl) (.list [hD (hs 0), hD (hs 1)]) := .lst npl hG (.cons (hV_D _) (.cons (hV_D _) .nil))
      have E4 : EnvOk X G1 _ [.dat (mskD M), .dat (.int l), .dat (stC l cs), .dat (.int (KB.mk ms)), .val (.ref D), .dat (.list [stC l (an true cs ms), stC l (an false cs ms)]), .dat (.list [hD (hs 0), hD (hs 1)]), .un, .un] := (E3.mono (kG.kp kc3.xd)).set (i := 6) dl
      have fin : ∀ {G2 : Hp}, Same G1 G2 → Q (hV (hw (hh M L) L cs ms)) G2 := fun s => q _ C1 (o04.trans (KpO.of s)) (s _ _ hC1) kn1
      have ehw : hw (hh M L) L cs ms = match hs 0, hs 1 with | some a, some b => some (max a b) | _, _ => none := by
        unfold hw
        rw [if_neg hb]
        rfl
      rw [ehw] at fin
      have gh : G X (tVar 6) _ G1 (.list [hD (hs 0), hD (hs 1)]) := g_var (i := 6) (d := .list [hD (hs 0), hD (hs 1)]) E4 rfl
      have nn : ∀ (o : Option Nat), PyData.eqv (hD o) .none = decide (o = none) := fun o => by cases o <;> simp [hD, PyData.eqv]
      refine k_ret (k_ifE (gt_is (gt_inD (K := K) kc4.t g_non gh rfl (hD_plain _ _).1 (by simp [SeqAt.shaped, PyData.canLay0, PyData.depth]) (hD_plain _ _).2) (b := decide (hs 0 = none ∨ hs 1 = none)) (by rw [List.any_cons, List.any_cons, List.any_nil, Bool.or_false, nn, nn, ← Bool.decide_or])) (fun hc G2 s4 => ?_) fun hc G2 s4 => ?_)
      · have hc := of_decide_eq_true hc
        have := fin s4
        cases e0 : hs 0 with
        | none => rw [e0] at this; exact this
        | some a =>
          cases e1 : hs 1 with
          | none => rw [e0, e1] at this; exact this
          | some b => rw [e0, e1] at hc; simp at hc
      · have hc := of_decide_eq_false hc
        obtain ⟨a, ea⟩ : ∃ a, hs 0 = some a := by
          cases e0 : hs 0 with
          | none => exact absurd (.inl e0) hc
          | some a => exact ⟨a, rfl⟩
        obtain ⟨b, eb⟩ : ∃ b, hs 1 = some b := by
          cases e0 : hs 1 with
          | none => exact absurd (.inr e0) hc
          | some a => exact ⟨a, rfl⟩
        have fin := fin (G2 := G2)
        refine k_cb (k_cons (gh G2 s4 _ fun v6 G3 s5 r6 => ?_))
        rw [ea, eb] at r6
        have r6 : DX X G3 v6 (.list (([(a : Int), (b : Int)]).map PyData.int)) := r6
        obtain ⟨p6, xs6, rfl, n6, e6, rx6⟩ := r6.lst_inv
        have e7 := rx6.ints
        subst e7
        refine ⟨p6, [(a : Int), (b : Int)], rfl, SqL.of e6, by simp, fun m hm hle => ?_⟩
        have hq : Q (hV (some (max a b))) G3 := by
          have h := q G3 C1 (o04.trans (KpO.of (s4.trans s5))) ((s4.trans s5) _ _ hC1) kn1
          rw [ehw, ea, eb] at h
          exact h
        have l1 := hle (a : Int) (by simp)
        have l2 := hle (b : Int) (by simp)
        have em : m = ((max a b : Nat) : Int) := by
          simp only [List.mem_cons, List.not_mem_nil, or_false] at hm
          omega
        rw [em]
        exact hq
theorem k_ifT {tt : TT} {tu tz : TS} {D : Ends} {σ : L2.St} {H : Hp} {b : Bool} (h : ∀ Q' : Bool → Hp → Prop, Q' b H → tt σ H Q') (h1 : b = true → tu { D with nx := tz D } σ H) (h2 : b = false → tz D σ H) : tSeq (tIfS tt tu tNext) tz D σ H := h _ (by
  cases b with
  | true => exact iteT (h1 rfl)
  | false => exact iteF (h2 rfl))
theorem leastN_min : ∀ l : List Nat, leastN (l.map fun n : Nat => (n : Int)) = hV l.min?
  | [] => rfl
  | n :: r => by
    have key : ∀ (r : List Nat) (n : Nat), (r.map fun n : Nat => (n : Int)).foldl min (n : Int) = ((r.foldl min n : Nat) : Int) := fun r => by
      induction r with
      | nil => intro n; rfl
      | cons a r ih =>
        intro n
        rw [List.map_cons, List.foldl_cons, List.foldl_cons, ← ih]
        congr 1
        omega
    rw [List.map_cons]
    show V.int _ = hV (some (r.foldl min n))
    rw [key]
    rfl
def spHwP : Nat → Sp
  | 0 => fun _ _ _ _ => False
  | d + 1 => spHw d
theorem g_found {X : Addr → Prop} {σ : L2.St} {H : Hp} {E : XK} {ta : TE} {l : Int} {cs : List Nat} (t : Trk X H) (h : G X ta σ H (stC l cs)) (lie : lieI (.int l)) : G X (tCall spFound [] E (tCons ta tNil)) σ H (.bool (fnd l.toNat cs)) := fun H1 s Q q =>
  h H1 s _ fun v H2 s2 r => ⟨X, v, l, cs, rfl, (t.mono s).mono s2, r, lie, fun H' s' => q _ H' (s2.trans s') (.bl _)⟩
theorem k_ckw {r : List V → List V → Hp → VK → Prop} {t tk : TA} {σ : L2.St} {H : Hp} {Q : VK} (h : t σ H fun vs H1 => tk σ H1 fun zs H2 => r vs zs H2 Q) : tCKw r t tk σ H Q := h
theorem k_put {td ty tv : TE} {D : Ends} {σ : L2.St} {H : Hp} (h : tv σ H fun v H1 => td σ H1 fun x H2 => ty σ H2 fun y H3 => ∃ a H4, x = .ref a ∧ DPut H3 a y v H4 ∧ D.nx σ H4) : sDPut td ty tv D σ H := h
theorem Kn.known {M : List (List Bool)} {l : Int} {n : Nat} {C : List (IP × Option Nat)} {cs : List Nat} (k : Kn M l n C) (lie : lieI (.int l)) (hn : cs.length = n) (h : stI l cs ∈ C.map (·.1)) : valV (C.map celH) (keyI (stI l cs)) = some (hV (hh M l.toNat cs)) := by
  obtain ⟨c, hc, e⟩ := List.mem_map.mp h
  obtain ⟨cs', e1, e2, e3⟩ := k.ok c hc
  have e4 := stI_inj lie (a := cs) (b := cs') (by omega) (by rw [← e, e2])
  rw [valH_mem (c := c.2) k.nd (by rw [← e]; exact hc), e3, hh_cp e4]
theorem Kn.put {M : List (List Bool)} {l : Int} {n : Nat} {C : List (IP × Option Nat)} {cs : List Nat} (k : Kn M l n C) (lie : lieI (.int l)) (hn : cs.length = n) : ∃ C', putK (C.map celH) (keyI (stI l cs)) (hV (hh M l.toNat cs)) = C'.map celH ∧ Kn M l n C' ∧ stI l cs ∈ C'.map (·.1) := by
  by_cases h : stI l cs ∈ C.map (·.1)
  · refine ⟨C, ?_, k, h⟩
    have hv := k.known lie hn h
    unfold putK
    rw [if_pos (by rw [valV_any, hv]; rfl)]
    refine (List.map_congr_left fun kv hkv => ?_).trans (List.map_id _)
    obtain ⟨c, hc, rfl⟩ := List.mem_map.mp hkv
    split
    · rename_i e
      obtain ⟨cs', e1, e2, e3⟩ := k.ok c hc
      have e0 : c.1 = stI l cs := keyI_inj e
      have e4 := stI_inj lie (a := cs) (b := cs') (by omega) (by rw [← e0, e2])
      show ((keyI c.1, hV (hh M l.toNat cs)) : List Key × V) = (keyI c.1, hV c.2)
      rw [e3, hh_cp e4]
    · rfl
  · refine ⟨C ++ [(stI l cs, hh M l.toNat cs)], putH_new h, ⟨?_, fun c hc => ?_⟩, by simp⟩
    · rw [List.map_append, List.nodup_append]
      refine ⟨k.nd, by simp, fun a ha b hb => ?_⟩
      simp only [List.map_cons, List.map_nil, List.mem_singleton] at hb
      rw [hb]
      exact fun z => h (z ▸ ha)
    · rcases List.mem_append.mp hc with hc | hc
      · exact k.ok c hc
      · simp only [List.mem_singleton] at hc
        rw [hc]
        exact ⟨cs, hn, rfl, rfl⟩
theorem range_map {α β : Type} (F : α → β) (z : α) (M : List α) : (List.range M.length).map (fun j => F (M.getD j z)) = M.map F := by
  refine List.ext_getElem (by simp) fun i h1 h2 => ?_
  rw [List.getElem_map, List.getElem_map, List.getElem_range]
  rw [List.length_map] at h2
  rw [List.getD_eq_getElem?_getD, List.getElem?_eq_getElem h2]
  rfl
theorem hVs_D {X : Addr → Prop} {H : Hp} : ∀ l : List (Option Nat), DXs X H (l.map hV) (l.map hD)
  | [] => .nil
  | o :: r => .cons (hV_D o) (hVs_D r)
theorem tried_eq {α : Type} (g : α → Option Nat) : ∀ M : List α, (((M.map fun m => hD (g m)).filter fun z => !isNone z).map fun z => z) = ((M.filterMap g).map fun n : Nat => (n : Int)).map PyData.int
  | [] => rfl
  | m :: r => by
    have ih := tried_eq g r
    rw [List.map_cons, List.filter_cons, List.filterMap_cons]
    cases e : g m with
    | none => exact ih
    | some n =>
      show PyData.int n :: _ = PyData.int n :: _
      congr 1
theorem g_minDN {X : Addr → Prop} {H : Hp} {σ : L2.St} {te td : TE} {l : List Nat} (h : G X te σ H (.list ((l.map fun n : Nat => (n : Int)).map PyData.int))) (h2 : G X td σ H .none) : G X (tCKw (rMinDefN K) (tCons te tNil) (tCons td tNil)) σ H (hD l.min?) := fun H1 s Q q =>
  h H1 s _ fun v H2 s2 r => h2 H2 (s.trans s2) _ fun w H3 s3 r3 => by
    obtain ⟨a, vs, rfl, _, ha, rv⟩ := (r.mono (Kp.of s3)).lst_inv
    refine ⟨a, l.map fun n : Nat => (n : Int), rfl, by rw [r3.non_inv], SqL.of (by rw [← rv.ints]; exact ha), ?_⟩
    rw [leastN_min]
    exact q _ H3 (s2.trans s3) (hV_D _)
-- HINT height_of le (by omega)
-- HINT height_of dnotin yes
-- HINT height_of dputn known
-- HINT height_of dgetn known
abbrev s_height_of : Stmt := topS 24
abbrev n_height_of : List Str := ["masks", "lies", "state", "known", "tried", "least", "mask", "height"]
theorem sc_height_of : FnScope n_height_of ["masks", "lies", "state", "known"] (defScope s_height_of) := ⟨rfl, rfl, rfl, by decide +kernel, rfl, by decide +kernel, by decide +kernel⟩
theorem ok_height_of {f : Addr} {fd : FuncData} {d k : Nat} (F : Fun K "height_of" "height_of" s_height_of f fd) (T : Bl mg) (hk : 1 ≤ k) (O_is_found : Own P w K mg base CX0 1 "is_found" ["state"] spFound) (O_height_with : Own P w K mg base CX0 k "height_with" ["masks", "lies", "state", "mask", "known"] (spHwP d)) : FnOk P w K mg base CX0 (k + 1) f fd ["masks", "lies", "state", "known"] (spHt d) := by
  refine F.ok sc_height_of (fun vs H Q E h => ?_) (fun cdv A outer s H vs Q E hr h => ?_)
  · obtain ⟨X, v1, v2, v3, D, l, n, M, cs, C, rfl, _⟩ := h
    rfl
  · obtain ⟨X, v1, v2, v3, D, l, n, M, cs, C, rfl, kc, r1, r2, r3, hn, hd, q⟩ := h
    refine ⟨_, (pss_cons (ps_if (pt_val (pe_own O_is_found hr (by omega) (by rfl) (pa_cons (pv 2) pa_nil)))
    (pss_one (ps_ret pe_int)) pss_nil)
    (pss_cons (ps_if (pt_cmp (pc_dnotin (hu_of hr) (pv 2) (pv 3)) (by rfl))
    (pss_cons (ps_setLc (i := 4) (own := [("mask", 6)]) (g := (gName 6)) (tt := tYes) rfl sc_height_of.nd rfl rfl (sw_true rfl rfl rfl (by decide +kernel)) (pi_list (pv 0)) (blkOk_by (N := n_height_of) (sc := defScope s_height_of) (by decide +kernel)) (fun _ _ _ _ _ => (pg_name (i := 6) sc_height_of.nd rfl (by first | exact Or.inl rfl | exact Or.inr rfl))) (fun _ _ _ _ _ => pts_nil) (fun _ _ _ _ _ => (pe_own O_height_with hr (by omega) (by rfl) (pa_cons (pv 0) (pa_cons (pv 1) (pa_cons (pv 2) (pa_cons (pv 6) (pa_cons (pv 3) pa_nil))))))))
    (pss_cons (ps_set (i := 5) sc_height_of.nd rfl (by first | exact Or.inl rfl | exact Or.inr rfl) (pe_callBK (cr_minDefN rfl hr.units) (by rfl) T.b_min boot_min (pa_cons (pe_lc (own := [("height", 7)]) (g := (gName 7)) rfl sc_height_of.nd (pi_list (pv 4)) (blkOk_by (N := n_height_of) (sc := defScope s_height_of) (by decide +kernel)) (fun _ _ _ _ _ => (pg_name (i := 7) sc_height_of.nd rfl (by first | exact Or.inl rfl | exact Or.inr rfl))) (fun _ _ _ _ _ => (pts_one (pt_cmpR op_notN (pv 7) pe_non (nomark _)))) (fun _ _ _ _ _ => (pv 7))) pa_nil) (pk_cons pe_non pk_nil)))
    (pss_one (ps_dput (hu_of hr) (pv 3) (pv 2) (pe_ifExp (pt_cmpR op_isN (pv 5) pe_non (nomark _)) pe_non (pe_op op_addA (pv 5) pe_int)) rfl)))) pss_nil)
    (pss_one (ps_ret (pe_dget (hu_of hr) (pv 3) (pv 2) (fun _ _ => rfl)))))), ?_⟩
    have En : EnvOk X H (L2.start n_height_of [v1, v2, v3, .ref D]) [.dat (mskD M), .dat (.int l), .dat (stC l cs), .val (.ref D), .un, .un, .un, .un] := ⟨rfl, fun i s e => by
      match i, e with
      | 0, e => cases e; exact ⟨_, rfl, r1⟩
      | 1, e => cases e; exact ⟨_, rfl, r2⟩
      | 2, e => cases e; exact ⟨_, rfl, r3⟩
      | 3, e => cases e; rfl
      | 4, e => cases e; trivial
      | 5, e => cases e; trivial
      | 6, e => cases e; trivial
      | 7, e => cases e; trivial
      | _ + 8, e => cases e⟩
    let L := l.toNat
    have heq := hh_eq (M := M) (l := L) (cs := cs) kc.hM hn
    refine q_if (gt_B (g_found kc.t (g_var (i := 2) (d := stC l cs) En rfl) kc.lie)) (fun hb H1 s1 => ?_) fun hfnd H1 s1 => ?_
    · have h := q H1 C (KpO.of s1) (s1 _ _ kc.hD) kc.kn
      rw [heq, if_pos hb] at h
      exact h
    have E1 := En.same s1
    have kc1 := kc.same s1
    -- a state as a key
    have key : ∀ {X' : Addr → Prop} {H' : Hp} {v : V}, DX X' H' v (stC l cs) → ∃ a, v = .ref a ∧ H' a = some (.tup ((keyI (stI l cs)).map kV)) := fun {X' H' v} h => by
      obtain ⟨a, ys, rfl, na, ea, ry⟩ := DX.tup_inv (ds := [.int (stI l cs).1, .int (stI l cs).2]) h
      cases ry with
      | cons x1 ry =>
        cases ry with
        | cons x2 ry =>
          cases ry
          rw [x1.int_inv, x2.int_inv] at ea
          exact ⟨a, rfl, ea⟩
    have fin : ∀ {σ' : L2.St} {G1 : Hp} {C1 : List (IP × Option Nat)} {x4 x5 x6 x7 : Sv}, EnvOk X G1 σ' [.dat (mskD M), .dat (.int l), .dat (stC l cs), .val (.ref D), x4, x5, x6, x7] → KpO D H G1 → G1 D = some (.dT (C1.map celH)) → Kn M l n C1 → stI l cs ∈ C1.map (·.1) → tDGet (tVar 3) (tVar 2) σ' G1 Q := fun {σ' G1 C1 x4 x5 x6 x7} E' o h kn hin => by
      obtain ⟨v, g, x⟩ := E'.get 2 (.dat (stC l cs)) rfl
      obtain ⟨a, rfl, ea⟩ := key x
      refine ⟨.ref D, E'.get 3 _ rfl, .ref a, g, D, hV (hh M L cs), rfl, ?_, q G1 C1 o h kn⟩
      rw [← kn.known kc.lie hn hin]
      exact DGet.t h ea
    obtain ⟨v2, g2, x2⟩ := E1.get 2 (.dat (stC l cs)) rfl
    obtain ⟨a2, rfl, ea2⟩ := key x2
    refine k_ifT (b := !(valV (C.map celH) (keyI (stI l cs))).isSome) ?_ (fun hb => ?_) fun hb => ?_
    · refine fun Q' q' => ⟨.ref a2, g2, .ref D, E1.get 3 _ rfl, D, _, rfl, DGet.t kc1.hD ea2, _, rfl, q'⟩
    rotate_left
    · have hin : stI l cs ∈ C.map (·.1) := Classical.byContradiction fun z => by
        rw [valH_not z] at hb
        cases hb
      exact k_ret (fin E1 (KpO.of s1) kc1.hD kc1.kn hin)
    · obtain ⟨d', rfl⟩ : ∃ d', d = d' + 1 := by
        cases d with
        | zero =>
          have : fnd l.toNat cs = true := by
            unfold fnd
            rw [mu_zero (by omega)]
            rfl
          rw [this] at hfnd
          cases hfnd
        | succ d' => exact ⟨d', rfl⟩
      have hnf : ¬ fnd l.toNat cs = true := by rw [hfnd]; simp
      rw [if_neg hnf] at heq
      let g : List Bool → Option Nat := hw (hh M L) L cs
      refine k_set (k_lcLh (g_var (i := 0) (d := mskD M) E1 rfl H1 (Same.refl _) _ fun v0 H3 s3 r0 => ?_))
      obtain ⟨a0, xs0, rfl, n0, e0, rx0⟩ := DX.lst_inv (ds := M.map fun ms => .int (KB.mk ms)) r0
      refine ⟨a0, rfl, ⟨_, SqL.of e0⟩, ?_⟩
      have kc3 := kc1.same s3
      have E3 := E1.same s3
      have few := kc.few
      refine lc_eff (L := D) (fun H' => ∃ C', H' D = some (.dT (C'.map celH)) ∧ Kn M l n C') (fun j => hV (g (M.getD j []))) kc3.t kc3.xd E3 (.lst n0 e0 rx0) (by rw [List.length_map]; omega) ⟨C, kc3.hD, kc3.kn⟩ (fun G1 G2 p e => let ⟨C', h1, h2⟩ := p; ⟨C', by rw [e]; exact h1, h2⟩) (fun G1 p => let ⟨C', h1, _⟩ := p; ⟨_, h1⟩) (fun X' G1 σ2 j z Q1 hz xD tG EG p q1 => ?_) fun pl G1 hpl kG pG hG => ?_
      · obtain ⟨C1, hC1, kn1⟩ := p
        rw [List.getElem?_map] at hz
        obtain ⟨ms, hms, rfl⟩ := Option.map_eq_some_iff.mp hz
        obtain ⟨w0, g0, x0⟩ := EG.get 0 (.dat (mskD M)) rfl
        obtain ⟨w1, g1, x1⟩ := EG.get 1 (.dat (.int l)) rfl
        obtain ⟨w2, g2, x2⟩ := EG.get 2 (.dat (stC l cs)) rfl
        obtain ⟨w6, g6, x6⟩ := EG.get 6 (.dat (.int (KB.mk ms))) rfl
        refine ⟨w0, g0, w1, g1, w2, g2, w6, g6, .ref D, EG.get 3 (.val (.ref D)) rfl, X', w0, w1, w2, w6, D, l, n, M, cs, ms, C1, rfl, ⟨tG, xD, hC1, kn1, kc.hM, kc.n8, kc.lie, kc.few⟩, x0, x1, x2, x6, hn, kc.hM ms (List.mem_of_getElem? hms), hd, fun G2 C2 k2 h2 kn2 => ?_⟩
        have := q1 G2 k2 ⟨C2, h2, kn2⟩
        rw [List.getD_eq_getElem?_getD, hms] at this
        exact this
      · obtain ⟨C1, hC1, kn1⟩ := pG
        have kc4 := kc3.next kG hC1 kn1
        have npl : ¬ X pl := kc3.t.new hpl
        have o04 : KpO D H G1 := (KpO.of (s1.trans s3)).trans kG
        have hG : G1 pl = some (.lst ((M.map g).map hV)) := by
          rw [hG, List.length_map, range_map (fun ms => hV (g ms)), List.map_map]
          rfl
        have dl : DX X G1 (.ref pl) (.list (M.map fun ms => hD (g ms))) := .lst npl hG (by
          have := hVs_D (X := X) (H := G1) (M.map g)
          rw [List.map_map (g := hD)] at this
          exact this)
        have E4 : EnvOk X G1 _ [.dat (mskD M), .dat (.int l), .dat (stC l cs), .val (.ref D), .dat (.list (M.map fun ms => hD (g ms))), .un, .un, .un] := (E3.mono (kG.kp kc3.xd)).set (i := 4) dl
        refine q_set (i := 5) (d := hD (M.filterMap g).min?) E4 (g_minDN (g_is (g_lc (ds := M.map fun ms => hD (g ms)) (Γ2 := fun z => [.dat (mskD M), .dat (.int l), .dat (stC l cs), .val (.ref D), .dat (.list (M.map fun ms => hD (g ms))), .un, .un, .dat z]) (fun z => !isNone z) (fun z => z) kc4.t (gi_list (g_var (i := 4) E4 rfl)) (by rw [List.length_map]; omega) (fun H3 s3 z hz => tgt_name (E4.same s3)) (fun X2 H3 σ2 z hz t3 E5 => gt_op t3 (g_var (i := 7) (d := z) E5 rfl) g_non rb_notN) (fun X2 H3 σ2 z hz hf t3 E5 => g_var (i := 7) (d := z) E5 rfl)) (congrArg PyData.list (tried_eq g M))) g_non) fun G2 v5 s5 E5 => ?_
        have E5 : EnvOk X G2 _ [.dat (mskD M), .dat (.int l), .dat (stC l cs), .val (.ref D), .dat (.list (M.map fun ms => hD (g ms))), .dat (hD (M.filterMap g).min?), .un, .un] := E5
        have kc5 := kc4.same s5
        have gv : G X (tIf (tTest (tOp (fun x y H Q => y = .non ∧ Q (.bl (decide (x = .non))) H) (tVar 5) (tC .non))) (tC .non) (tOp rAddA (tVar 5) (tC (.int 1)))) _ G2 (hD (hh M L cs)) := fun G3 s6 Q' q' => by
          have E6 := E5.same s6
          have kc6 := kc5.same s6
          refine k_ifE (gt_op kc6.t (g_var (i := 5) (d := hD (M.filterMap g).min?) E6 rfl) g_non rb_isN) (fun hc G4 s7 => ?_) fun hc G4 s7 => ?_
          · rw [heq] at q'
            cases e : (M.filterMap g).min? with
            | none =>
              rw [show (M.filterMap (hw (hh M l.toNat) l.toNat cs)).min? = none from e] at q'
              exact q' .non G4 (s7) .non
            | some x => rw [e] at hc; cases hc
          · cases e : (M.filterMap g).min? with
            | none => rw [e] at hc; cases hc
            | some x =>
              rw [heq, show (M.filterMap (hw (hh M l.toNat) l.toNat cs)).min? = some x from e] at q'
              have E7 := E6.same s7
              rw [e] at E7
              refine g_addI (kc6.same s7).t (g_var (i := 5) (d := .int (x : Int)) E7 rfl) g_int G4 (Same.refl _) _ fun v G5 s8 r8 => ?_
              exact q' v G5 (s7.trans s8) r8
        refine k_put (gv G2 (Same.refl _) _ fun v G3 s6 r6 => ?_)
        have E6 := E5.same s6
        have kc6 := kc5.same s6
        obtain ⟨w2, g2, x2⟩ := E6.get 2 (.dat (stC l cs)) rfl
        obtain ⟨a6, rfl, ea6⟩ := key x2
        have ev : v = hV (hh M L cs) := by
          cases e : hh M L cs with
          | none => rw [e] at r6; exact r6.non_inv
          | some x => rw [e] at r6; exact r6.int_inv
        subst ev
        obtain ⟨C2, e2, kn2, hin⟩ := kn1.put kc.lie hn
        have lf := kn1.few kc.n8
        refine ⟨.ref D, E6.get 3 _ rfl, .ref a6, g2, D, _, rfl, DPut.t kc6.hD ea6 (by rw [List.length_map, sizeLine_eq]; omega), ?_⟩
        rw [e2]
        exact (fin (E6.mono (KpO.put.kp kc6.xd)) ((o04.trans (KpO.of (s5.trans s6))).trans KpO.put) upd_same kn2 hin)
end K80

/-! A comprehension whose things change one object: what is told is data. -/
namespace KD
open PySem PySem.Spec PyProof.Rows L2
section
variable {X : Addr → Prop} {σ : L2.St} {H H' H2 : Hp} {Γ : List Sv} {L : Addr} {te : TE} {Q : VK} {K : PySem.W.Frag} {wi : TI}
theorem lc_effD {i : Nat} {ds : List PyData} (Pr : Hp → Prop) (val : PyData → PyData) (t : Trk X H) (xl : X L) (En : EnvOk X H σ Γ) (hi : GI X wi σ H ds) (hl : ds.length ≤ 1000) (p0 : Pr H) (pS : ∀ H1 H2, Pr H1 → H2 L = H1 L → Pr H2) (pL : ∀ H1, Pr H1 → ∃ o, H1 L = some o)
    (ht : ∀ (X' : Addr → Prop) (H1 : Hp) (σ2 : L2.St) (d : PyData) (Q1 : VK), d ∈ ds → X' L → Trk X' H1 → EnvOk X' H1 σ2 ((Γ.set i .un).set i (.dat d)) → Pr H1 → (∀ w H', KpO L H1 H' → Pr H' → DX X' H' w (val d) → Q1 w H') → te σ2 H1 Q1)
    (q : ∀ w H', KpO L H H' → Pr H' → DX X H' w (.list (ds.map val)) → Q w H') : tLc wi (gName i) tYes te [i] σ H Q := by
  refine hi H (Same.refl H) _ fun J H2 s2 w => ?_
  intro D hD
  obtain ⟨Gd, Y, w1, w2⟩ := w
  have t2 : Trk X H2 := t.mono s2
  let X' : Addr → Prop := fun a => X a ∨ a = D
  have m2 : More X X' H2 := More.one hD
  have nDL : D ≠ L := fun z => t2.new hD (z ▸ xl)
  obtain ⟨oL, hoL⟩ := pL H p0
  have p2 : Pr H2 := pS _ _ p0 (by rw [hoL]; exact s2 _ _ hoL)
  have E2 := En.same s2
  let I : Nat → Hp → Prop := fun k H3 => KpO L H2 H3 ∧ Trk X' H3 ∧ Pr H3 ∧ ∃ acc, H3 D = some (.lst acc) ∧ DXs X' H3 acc ((ds.take k).map val)
  have ik : ∀ {k H3}, I k H3 → Kp X' H2 H3 := fun {k H3} p => p.1.kp (.inl xl)
  refine lc_it w1 I ⟨KpO.of (Same.upd hD), t2.one hD, pS _ _ p2 (upd_ne (Ne.symm nDL)), [], upd_same, .nil⟩ (fun k H3 _ p => (w2 X' m2.2 H3 (ik p) p.2.1).1) ?_ ?_
  · rintro k x H3 H4 hk p y
    obtain ⟨s4, d, hdk, dx⟩ := (w2 X' m2.2 H3 (ik p) p.2.1).2 k x H4 y
    obtain ⟨p1, p2', p3, acc, p4, p5⟩ := p
    have hkl := (List.getElem?_eq_some_iff.mp hdk).1
    obtain ⟨o3, ho3⟩ := pL H3 p3
    have p34 : Pr H4 := pS _ _ p3 (by rw [ho3]; exact s4 _ _ ho3)
    have t4 := p2'.mono s4
    have k4 : Kp X' H2 H4 := (p1.kp (.inl xl)).trans (Kp.of s4)
    refine tgt_name (X := X) (i := i) E2 _ H4 m2 k4 t4 x dx _ fun σ2 E3 hw => ⟨hw, ?_⟩
    show te σ2 H4 _
    have etake : ds.take (k + 1) = ds.take k ++ [d] := by rw [List.take_succ, hdk]; rfl
    refine ht _ H4 σ2 d _ (List.mem_of_getElem? hdk) (.inl xl) t4 E3 p34 fun w H5 k5 p5' dw => ?_
    have k45 : KpO L H2 H5 := (p1.trans (KpO.of s4)).trans k5
    have e5 : H5 D = some (.lst acc) := k5 D _ nDL (s4 D _ p4)
    have la : acc.length ≤ 1000 := by
      rw [p5.length, List.length_map]
      exact Nat.le_trans (List.length_take_le _ _) (by omega)
    refine ⟨acc, e5, by rw [sizeLine_eq]; omega, ?_, ?_, ?_, acc ++ [w], upd_same, ?_⟩
    · exact fun b o n e => by
        have := k45 b o n e
        rw [upd_ne (ne_of_none e hD)]
        exact this
    · exact (k5.trk t4 (pL _ p5')).put
    · exact pS _ _ p5' (upd_ne (Ne.symm nDL))
    · rw [etake, List.map_append]
      exact (((p5.mono (Kp.of s4)).mono (k5.kp (.inl xl))).snoc dw).mono (Kp.put (.inr rfl))
  · rintro H3 ⟨p1, p2', p3, acc, p4, p5⟩
    rw [List.take_length] at p5
    exact q (.ref D) H3 ((KpO.of s2).trans p1) p3 (.lst (t2.new hD) p4 (p5.less fun a => .inl))
end
end KD

/-! Words for what draws. -/
namespace K80
open PySem PySem.Spec PyProof.Rows L2 KD
variable {K : PySem.W.Frag}
section
variable {X : Addr → Prop} {H : Hp} {σ : L2.St} {Γ : List Sv} {st cl : Addr} {n : Nat} {ta tb tc te : TE} {E : XK} {d : PyData} {Q : VK} {tz tu : TS} {D : Ends} {tt : TT}
theorem c_mixed {ds : List PyData} {ts tm : TE} (S : Sg X st cl n H) (hv : GV ts σ H (.ref st)) (hm : G X tm σ H (.list ds)) (hn : n + ds.length ≤ 1000000000) (h1 : ds.length < 1000000)
    (k : ∀ w es H', es.Perm ds → Sg X st cl (n + ds.length) H' → KpS st cl H H' → DX X H' w (.list es) → Nw H w → Q w H') : tCall spMixed [] E (tCons ts (tCons tm tNil)) σ H Q :=
  hv H (Same.refl H) _ (hm H (Same.refl H) _ fun v H1 s1 r => ⟨X, st, cl, n, v, ds, rfl, S.same s1, hn, r, h1, fun w es H' hp S2 kk dw nw => k w es H' hp S2 ((KpS.of s1).trans kk) dw (Nw.back s1 nw)⟩)
theorem k_sl {to th : TO} {rs : V → Option Int → Option Int → Hp → VK → Prop} (h : te σ H fun x H1 => to σ H1 fun l H2 => th σ H2 fun u H3 => rs x l u H3 Q) : tSl rs te to th σ H Q := h
theorem k_some {Q' : Option Int → Hp → Prop} (h : te σ H fun v H1 => ∃ i : Int, v = .int i ∧ Q' (some i) H1) : tPart te σ H Q' := h
theorem cutP_to (ds : List PyData) {q : Int} (hq : 0 ≤ q) : cutPD ds none (some q) = ds.take q.toNat := by
  show (ds.drop (HT.sIx ds.length 0 none)).take (HT.sIx ds.length ds.length (some q) - HT.sIx ds.length 0 none) = _
  rw [sIx_nn hq]
  show (ds.drop 0).take (min q.toNat ds.length - 0) = _
  rw [List.drop_zero, Nat.sub_zero]
  by_cases h : q.toNat ≤ ds.length
  · rw [Nat.min_eq_left h]
  · rw [Nat.min_eq_right (by omega), List.take_length, List.take_of_length_le (by omega)]
theorem q_ifJ {b : Bool} (h : GT tt σ H b) (J : L2.St → Hp → Prop) (hJ : ∀ σ H, J σ H → tz D σ H) (h1 : b = true → (∀ σ H, J σ H → tz D σ H) → ∀ H1, Same H H1 → tu { D with nx := tz D } σ H1) (h0 : b = false → ∀ H1, Same H H1 → J σ H1) : tSeq (tIfS tt tu tNext) tz D σ H :=
  q_if h (fun e H1 s => h1 e hJ H1 s) fun e H1 s => hJ σ H1 (h0 e H1 s)
/-- a for over a list that is new -/
def ForL (K : PySem.W.Frag) (g : TG) (tb : TS) (D : Ends) (σ : L2.St) (v : V) (H1 : Hp) : Prop := ∃ a, v = .ref a ∧ (∃ xs, SqL K H1 a xs) ∧ tFor (fun _ H R => R (Itl K a) H) g tb D σ H1
theorem k_forL {g : TG} {tu : TS} (h : te σ H fun v H1 => ForL K g tu D σ v H1) : tFor (iList K te) g tu D σ H := h
theorem k_forQ {g : TG} {tu : TS} (h : te σ H fun v H1 => ForL K g tu { D with nx := tz D } σ v H1) : tSeq (tFor (iList K te) g tu) tz D σ H := h
theorem forL_it {g : TG} {tu : TS} {a : Addr} {xs : List V} (Pv : Nat → L2.St → Hp → Prop) (hH : H a = some (.lst xs)) (h0 : Pv 0 σ H) (hG : ∀ i σ' H', Pv i σ' H' → H' a = some (.lst xs))
    (hs : ∀ i x σ' H', xs[i]? = some x → Pv i σ' H' → g x σ' H' fun σ2 H2 => tu { D with nx := Pv (i + 1), ct := Pv (i + 1), bk := D.nx } σ2 H2) (hd : ∀ σ' H', Pv xs.length σ' H' → D.nx σ' H') : ForL K g tu D σ (.ref a) H := by
  refine ⟨a, rfl, ⟨xs, SqL.of hH⟩, ?_⟩
  refine for_it walk_list Pv h0 (fun i σ' H' _ p => SqL.of (hG i σ' H' p)) (fun i x σ' H' H'' _ p y => ?_) hd
  obtain ⟨rfl, hx⟩ := y
  exact hs i x σ' _ hx p
/-- a for over a tuple that is new -/
def ForT (K : PySem.W.Frag) (g : TG) (tb : TS) (D : Ends) (σ : L2.St) (v : V) (H1 : Hp) : Prop := ∃ a, v = .ref a ∧ (∃ xs, SqT K H1 a xs) ∧ tFor (fun _ H R => R (Itt K a) H) g tb D σ H1
theorem k_forT {g : TG} {tu : TS} (h : te σ H fun v H1 => ForT K g tu D σ v H1) : tFor (iTup K te) g tu D σ H := h
theorem k_forTQ {g : TG} {tu : TS} (h : te σ H fun v H1 => ForT K g tu { D with nx := tz D } σ v H1) : tSeq (tFor (iTup K te) g tu) tz D σ H := h
theorem forT_it {g : TG} {tu : TS} {a : Addr} {xs : List V} (Pv : Nat → L2.St → Hp → Prop) (hH : H a = some (.tup xs)) (h0 : Pv 0 σ H) (hG : ∀ i σ' H', Pv i σ' H' → H' a = some (.tup xs))
    (hs : ∀ i x σ' H', xs[i]? = some x → Pv i σ' H' → g x σ' H' fun σ2 H2 => tu { D with nx := Pv (i + 1), ct := Pv (i + 1), bk := D.nx } σ2 H2) (hd : ∀ σ' H', Pv xs.length σ' H' → D.nx σ' H') : ForT K g tu D σ (.ref a) H := by
  refine ⟨a, rfl, ⟨xs, SqT.of hH⟩, ?_⟩
  refine for_it walk_tup Pv h0 (fun i σ' H' _ p => SqT.of (hG i σ' H' p)) (fun i x σ' H' H'' _ p y => ?_) hd
  obtain ⟨rfl, hx⟩ := y
  exact hs i x σ' _ hx p
/-- a for over range(j), j told -/
def ForR (g : TG) (tb : TS) (D : Ends) (σ : L2.St) (vs : List V) (H1 : Hp) : Prop := ∃ j : Int, vs = [.int j] ∧ -(2 ^ 62) ≤ j ∧ j < 2 ^ 62 ∧ tFor (fun _ H R => R (Itr 0 j.toNat) H) g tb D σ H1
theorem k_forR {tl : TA} {g : TG} (h : tl σ H fun vs H1 => ForR g tu { D with nx := tz D } σ vs H1) : tSeq (tFor (iRng1 tl) g tu) tz D σ H := h
theorem k_lst {tl : TA} (h : tl σ H fun vs H1 => vs.length ≤ sizeLine ∧ ∀ p, H1 p = none → Q (.ref p) (upd H1 p (.lst vs))) : tLst tl σ H Q := h
theorem k_tup {tl : TA} (h : tl σ H fun vs H1 => vs.length ≤ sizeLine ∧ ∀ p, H1 p = none → Q (.ref p) (upd H1 p (.tup vs))) : tTup tl σ H Q := h
theorem k_nil {Qa : List V → Hp → Prop} (h : Qa [] H) : tNil σ H Qa := h
theorem walkD_list {a : Addr} {ds : List PyData} (hd : DX X H (.ref a) (.list ds)) : WalkD X (Itl K a) H ds := by
  obtain ⟨a', xs, ea, n, e, rx⟩ := hd.lst_inv
  cases ea
  refine ⟨_, _, by rw [← rx.length]; exact walk_list, fun X' m H3 k t => ?_⟩
  have n' : ¬ X' a := fun z => (m a z).elim n fun q => by rw [e] at q; cases q
  refine ⟨SqL.of (k a _ n' e), fun i x H4 y => ?_⟩
  obtain ⟨rfl, hx⟩ := y
  obtain ⟨d, h1, h2⟩ := rx.getV hx
  exact ⟨Same.refl _, d, h1, (h2.grow m).mono k⟩
theorem k_lcL {g : TG} {us : List Nat} (h : te σ H fun v H1 => ∃ a, v = .ref a ∧ (∃ zs, SqL K H1 a zs) ∧ tLc (fun _ H2 R => R (Itl K a) H2) g tt tb us σ H1 Q) : tLc (iList K te) g tt tb us σ H Q := h
/-- the things of a list that draws let through -/
theorem lc_drawsF {i c : Nat} {a : Addr} {ds : List PyData} (S : Sg X st cl n H) (En : EnvOk X H σ Γ) (hd : DX X H (.ref a) (.list ds)) (hl : ds.length ≤ 1000) (hi : i < Γ.length)
    (ht : ∀ X' H1 σ2 k d Q1, ds[k]? = some d → EnvOk X' H1 σ2 ((Γ.set i .un).set i (.dat d)) → Sg X' st cl (n + c * k) H1 → (∀ b H', Sg X' st cl (n + c * k + c) H' → KpS st cl H1 H' → Q1 b H') → tt σ2 H1 Q1)
    (q : ∀ w es H', es.Sublist ds → Sg X st cl (n + c * ds.length) H' → KpS st cl H H' → DX X H' w (.list es) → Nw H w → Q w H') : tLc (fun _ H2 R => R (Itl K a) H2) (gName i) tt (tVar i) [i] σ H Q := by
  intro D hD
  have m2 : More X (fun a => X a ∨ a = D) H := More.one hD
  have d1 := S.ne1 hD
  have d2 := S.ne2 hD
  obtain ⟨Gd, Y, w1, w2⟩ := walkD_list (K := K) hd
  let I : Nat → Hp → Prop := fun k H3 => KpS st cl H H3 ∧ Sg (fun a => X a ∨ a = D) st cl (n + c * k) H3 ∧ ∃ acc es, H3 D = some (.lst acc) ∧ DXs (fun a => X a ∨ a = D) H3 acc es ∧ es.Sublist (ds.take k)
  have ik : ∀ {k H3}, I k H3 → Kp (fun a => X a ∨ a = D) H H3 ∧ Trk (fun a => X a ∨ a = D) H3 := fun {k H3} p => ⟨p.1.kp (.inl S.x1) (.inl S.x2), p.2.1.t⟩
  refine lc_it w1 I ?_ (fun i H3 _ p => (w2 _ m2.2 H3 (ik p).1 (ik p).2).1) ?_ ?_
  · exact ⟨KpS.of (Same.upd hD), ⟨(S.ok).same (Same.upd hD), .inl S.x1, .inl S.x2, S.t.one hD⟩, [], [], upd_same, .nil, List.nil_sublist _⟩
  · rintro k x H3 H4 hk p y
    obtain ⟨s4, d, hdk, dx⟩ := (w2 _ m2.2 H3 (ik p).1 (ik p).2).2 k x H4 y
    obtain ⟨p1, p2, acc, es, p3, p4, p5⟩ := p
    have S4 := p2.same s4
    have k4 : Kp (fun a => X a ∨ a = D) H H4 := (p1.kp (.inl S.x1) (.inl S.x2)).trans (Kp.of s4)
    refine tgt_name (X := X) (i := i) En _ H4 m2 k4 S4.t x dx _ fun σ2 E2 hw => ⟨hw, ?_⟩
    have etake : ds.take (k + 1) = ds.take k ++ [d] := by rw [List.take_succ, hdk]; rfl
    refine ht _ H4 σ2 k d _ hdk E2 S4 fun b H5 S5 k5 => ?_
    have k35 : KpS st cl H3 H5 := (KpS.of s4).trans k5
    have p15 : KpS st cl H H5 := p1.trans k35
    have p35 : H5 D = some (.lst acc) := k35 D _ d1 d2 p3
    have p45 := p4.mono (p2.kp k35)
    have lacc : acc.length ≤ 1000 := by
      rw [p4.length]
      exact Nat.le_trans p5.length_le (by rw [List.length_take]; omega)
    cases b with
    | true =>
      refine iteT ?_
      have E5 := E2.kps S4 k5
      have he : ((Γ.set i .un).set i (.dat d))[i]? = some (.dat d) := by rw [List.getElem?_set_self (by rw [List.length_set]; exact hi)]
      refine g_var (i := i) E5 he H5 (Same.refl _) _ fun v H6 s6 r6 => ?_
      refine ⟨acc, s6 D _ p35, by rw [sizeLine_eq]; omega, ?_, ?_, acc ++ [v], es ++ [d], upd_same, ?_, ?_⟩
      · exact fun a o n1 n2 e => by
          have := s6 a _ (p15 a o n1 n2 e)
          rw [upd_ne (ne_of_none e hD)]
          exact this
      · rw [Nat.mul_succ, ← Nat.add_assoc]
        exact (S5.same s6).put d1 d2
      · exact ((p45.mono (Kp.of s6)).snoc r6).mono (Kp.put (.inr rfl))
      · rw [etake]
        exact List.Sublist.append p5 (List.Sublist.refl _)
    | false =>
      refine iteF ?_
      refine ⟨p15, by rw [Nat.mul_succ, ← Nat.add_assoc]; exact S5, acc, es, p35, p45, ?_⟩
      rw [etake]
      exact p5.trans (List.sublist_append_left _ _)
  · rintro H3 ⟨p1, p2, acc, es, p3, p4, p5⟩
    rw [List.take_length] at p5
    have nXD : ¬ X D := S.t.new hD
    exact q (.ref D) es H3 p5 ⟨p2.ok, S.x1, S.x2, fun a h => p2.t a (.inl h)⟩ p1 (.lst nXD p3 (p4.less fun a => .inl)) (Nw.of hD)
/-- some things drawn by c draws each -/
theorem lc_drawsC {i m c : Nat} (pr : PyData → Prop) (S : Sg X st cl n H) (En : EnvOk X H σ Γ) (hm : m ≤ 100000)
    (he : ∀ X' H1 σ2 k Q1, k < m → EnvOk X' H1 σ2 ((Γ.set i .un).set i (.dat (.int (k : Nat)))) → Sg X' st cl (n + c * k) H1 → (∀ w d H', pr d → Sg X' st cl (n + c * k + c) H' → KpS st cl H1 H' → DX X' H' w d → Q1 w H') → te σ2 H1 Q1)
    (q : ∀ w ds H', ds.length = m → (∀ d ∈ ds, pr d) → Sg X st cl (n + c * m) H' → KpS st cl H H' → DX X H' w (.list ds) → Nw H w → Q w H') : tLc (fun σ H R => R (Itr 0 m) H) (gName i) tYes te [i] σ H Q := by
  intro D hD
  have m2 : More X (fun a => X a ∨ a = D) H := More.one hD
  have d1 := S.ne1 hD
  have d2 := S.ne2 hD
  obtain ⟨Gd, Y, w1, w2⟩ := walkD_range (X := X) (H := H) (lo := 0) (n := m)
  rw [rangeD_len] at w1
  have key : ∀ H3, Kp (fun a => X a ∨ a = D) H H3 ∧ Trk (fun a => X a ∨ a = D) H3 → Gd H3 := fun H3 p => (w2 _ m2.2 H3 p.1 p.2).1
  let I : Nat → Hp → Prop := fun k H3 => KpS st cl H H3 ∧ Sg (fun a => X a ∨ a = D) st cl (n + c * k) H3 ∧ ∃ acc ds, H3 D = some (.lst acc) ∧ DXs (fun a => X a ∨ a = D) H3 acc ds ∧ ds.length = k ∧ ∀ d ∈ ds, pr d
  have ik : ∀ {k H3}, I k H3 → Kp (fun a => X a ∨ a = D) H H3 ∧ Trk (fun a => X a ∨ a = D) H3 := fun {k H3} p => ⟨p.1.kp (.inl S.x1) (.inl S.x2), p.2.1.t⟩
  refine lc_it w1 I ?_ (fun i H3 _ p => key H3 (ik p)) ?_ ?_
  · exact ⟨KpS.of (Same.upd hD), ⟨(S.ok).same (Same.upd hD), .inl S.x1, .inl S.x2, S.t.one hD⟩, [], [], upd_same, .nil, rfl, fun d h => by cases h⟩
  · rintro k x H3 H4 hk p y
    obtain ⟨s4, d, hd, dx⟩ := (w2 _ m2.2 H3 (ik p).1 (ik p).2).2 k x H4 y
    obtain ⟨p1, p2, acc, ds, p3, p4, p5, p6⟩ := p
    rw [rangeD_get hk] at hd
    cases hd
    have S4 := p2.same s4
    have k4 : Kp (fun a => X a ∨ a = D) H H4 := (p1.kp (.inl S.x1) (.inl S.x2)).trans (Kp.of s4)
    refine tgt_name (X := X) (i := i) En _ H4 m2 k4 S4.t x dx _ fun σ2 E2 hw => ⟨hw, ?_⟩
    refine k_yes ?_
    rw [show (0 : Int) + (k : Int) = (k : Nat) from by omega] at E2
    refine he _ H4 σ2 k _ hk E2 S4 fun w d H5 hp S5 k5 dw => ?_
    refine ⟨acc, k5 D _ d1 d2 (s4 D _ p3), by rw [p4.length, p5, sizeLine_eq]; omega, ?_, ?_, acc ++ [w], ds ++ [d], upd_same, ?_, by rw [List.length_append, p5]; rfl, fun z hz => ?_⟩
    · exact fun a o n1 n2 e => by
        have := k5 a o n1 n2 (s4 a _ (p1 a o n1 n2 e))
        rw [upd_ne (ne_of_none e hD)]
        exact this
    · rw [Nat.mul_succ, ← Nat.add_assoc]
      exact S5.put d1 d2
    · exact (((p4.mono (Kp.of s4)).mono (S4.kp k5)).snoc dw).mono (Kp.put (.inr rfl))
    · rcases List.mem_append.mp hz with h | h
      · exact p6 z h
      · rw [List.mem_singleton.mp h]
        exact hp
  · rintro H3 ⟨p1, p2, acc, ds, p3, p4, p5, p6⟩
    have nXD : ¬ X D := S.t.new hD
    exact q (.ref D) ds H3 p5 p6 ⟨p2.ok, S.x1, S.x2, fun a h => p2.t a (.inl h)⟩ p1 (.lst nXD p3 (p4.less fun a => .inl)) (Nw.of hD)
end
end K80

/-! Suspects and askings, drawn. -/
namespace K80
open PySem PySem.Spec PyProof.Rows L2 KD
variable {P : Program} {w : World} {K : PySem.W.Frag} {mg : Str → Option Value} {base : Heap}
theorem sl_listK {X : Cx} (h : X.K = K) : SlR X (rSlL K) := h ▸ sl_list
def bNames : List Str := ["a", "b", "c1", "d", "zed", "m9", "k"]
theorem base_ok : ∀ z ∈ bNames, z ∈ sNames ∧ z ≠ "stranger" := by decide +kernel
theorem base_nd : bNames.Nodup := by decide +kernel
/-- some of the suspects -/
structure Row (ns a : List Str) : Prop where
  nd : a.Nodup
  ok : ∀ z ∈ a, z ∈ ns
theorem strs_perm {es : List PyData} {ns : List Str} (h : es.Perm (ns.map PyData.str)) : ∃ ms : List Str, es = ms.map PyData.str ∧ ms.Perm ns := by
  refine ⟨es.map strOf, ?_, ?_⟩
  · rw [List.map_map]
    conv => lhs; rw [← List.map_id es]
    refine List.map_congr_left fun d hd => ?_
    obtain ⟨s, _, rfl⟩ := List.mem_map.mp (h.mem_iff.mp hd)
    rfl
  · have := h.map strOf
    rw [List.map_map] at this
    exact this.trans (by rw [show strOf ∘ PyData.str = id from rfl, List.map_id])
theorem strs_sub {es : List PyData} {ns : List Str} (h : es.Sublist (ns.map PyData.str)) : ∃ ms : List Str, es = ms.map PyData.str ∧ ms.Sublist ns := by
  refine ⟨es.map strOf, ?_, ?_⟩
  · rw [List.map_map]
    conv => lhs; rw [← List.map_id es]
    refine List.map_congr_left fun d hd => ?_
    obtain ⟨s, _, rfl⟩ := List.mem_map.mp (h.subset hd)
    rfl
  · have := h.map strOf
    rw [List.map_map, show strOf ∘ PyData.str = id from rfl, List.map_id] at this
    exact this
section
variable {X : Addr → Prop} {H : Hp} {σ : L2.St} {Γ : List Sv} {st cl : Addr} {n : Nat} {ta te : TE} {Q : VK} {g : TG} {tt : TT}
theorem g_neg1 : G X (tUn (rU fun i => .int (-i)) (tC (.int 1))) σ H (.int (-1)) := fun H1 s Q q => ⟨1, rfl, q _ H1 (Same.refl H1) (.int _)⟩
theorem k_lcR2 {tl : TA} {us : List Nat} (h : tl σ H fun vs H1 => ∃ i j : Int, vs = [.int i, .int j] ∧ (-(2 ^ 62) ≤ i ∧ i < 2 ^ 62 ∧ -(2 ^ 62) ≤ j ∧ j < 2 ^ 62) ∧ tLc (fun _ H2 R => R (Itr i (j - i).toNat) H2) g tt te us σ H1 Q) : tLc (iRng2 tl) g tt te us σ H Q := h
theorem k_c {v : V} (h : Q v H) : tC v σ H Q := h
theorem k_test {Q' : Bool → Hp → Prop} (h : te σ H fun v H1 => ∃ k, v = .bl k ∧ Q' k H1) : tTest te σ H Q' := h
theorem k_asg1 {D : Ends} (h : te σ H fun v H1 => g v σ H1 fun σ2 H2 => D.nx σ2 H2) : tAsg te g D σ H := h
theorem kps_none {H' : Hp} {l : Addr} (k : KpS st cl H H') (n1 : l ≠ st) (n2 : l ≠ cl) (h : H' l = none) : H l = none := by
  cases e : H l with
  | none => rfl
  | some o => rw [k l o n1 n2 e] at h; cases h
/-- new things, one for each number -/
theorem lc_new {i m : Nat} {lo : Int} (f : Nat → PyData) (S : Sg X st cl n H) (En : EnvOk X H σ Γ) (hm : m ≤ 100000)
    (he : ∀ X' H1 σ2 k, k < m → EnvOk X' H1 σ2 ((Γ.set i .un).set i (.dat (.int (lo + (k : Nat))))) → Sg X' st cl n H1 → G X' te σ2 H1 (f k))
    (q : ∀ w H', Sg X st cl n H' → Same H H' → DX X H' w (.list ((List.range m).map f)) → Nw H w → Q w H') : tLc (fun σ H R => R (Itr lo m) H) (gName i) tYes te [i] σ H Q := by
  intro D hD
  have m2 : More X (fun a => X a ∨ a = D) H := More.one hD
  have d1 := S.ne1 hD
  have d2 := S.ne2 hD
  obtain ⟨Gd, Y, w1, w2⟩ := walkD_range (X := X) (H := H) (lo := lo) (n := m)
  rw [rangeD_len] at w1
  let I : Nat → Hp → Prop := fun k H3 => Same H H3 ∧ Sg (fun a => X a ∨ a = D) st cl n H3 ∧ ∃ acc, H3 D = some (.lst acc) ∧ DXs (fun a => X a ∨ a = D) H3 acc ((List.range k).map f)
  have ik : ∀ {k H3}, I k H3 → Kp (fun a => X a ∨ a = D) H H3 ∧ Trk (fun a => X a ∨ a = D) H3 := fun {k H3} p => ⟨Kp.of p.1, p.2.1.t⟩
  refine lc_it w1 I ?_ (fun i H3 _ p => (w2 _ m2.2 H3 (ik p).1 (ik p).2).1) ?_ ?_
  · exact ⟨Same.upd hD, ⟨(S.ok).same (Same.upd hD), .inl S.x1, .inl S.x2, S.t.one hD⟩, [], upd_same, .nil⟩
  · rintro k x H3 H4 hk p y
    obtain ⟨s4, d, hd, dx⟩ := (w2 _ m2.2 H3 (ik p).1 (ik p).2).2 k x H4 y
    obtain ⟨p1, p2, acc, p3, p4⟩ := p
    rw [rangeD_get hk] at hd
    cases hd
    have S4 := p2.same s4
    refine tgt_name (X := X) (i := i) En _ H4 m2 (Kp.of (p1.trans s4)) S4.t x dx _ fun σ2 E2 hw => ⟨hw, ?_⟩
    refine k_yes ?_
    refine he _ H4 σ2 k hk E2 S4 H4 (Same.refl _) _ fun w H5 s5 dw => ?_
    refine ⟨acc, s5 D _ (s4 D _ p3), by rw [p4.length, List.length_map, List.length_range, sizeLine_eq]; omega, Same.mut ((p1.trans s4).trans s5) hD, ((S4.same s5).put d1 d2), acc ++ [w], upd_same, ?_⟩
    rw [List.range_succ, List.map_append]
    exact (((p4.mono (Kp.of s4)).mono (Kp.of s5)).snoc dw).mono (Kp.put (.inr rfl))
  · rintro H3 ⟨p1, p2, acc, p3, p4⟩
    have nXD : ¬ X D := S.t.new hD
    exact q (.ref D) H3 ⟨p2.ok, S.x1, S.x2, fun a h => p2.t a (.inl h)⟩ p1 (.lst nXD p3 (p4.less fun a => .inl)) (Nw.of hD)
end
theorem DXs.set {X : Addr → Prop} {H : Hp} : ∀ {vs : List V} {ds : List PyData} (j : Nat) {v : V} {d : PyData}, DXs X H vs ds → DX X H v d → DXs X H (vs.set j v) (ds.set j d)
  | _, _, _, _, _, .nil, _ => .nil
  | _, _, 0, _, _, .cons _ r, k => .cons k r
  | _, _, j + 1, _, _, .cons h r, k => .cons h (DXs.set j r k)
theorem ixN_m1 {n : Nat} (h : 0 < n) : ixN n (-1) = some (n - 1) := by
  unfold ixN
  rw [if_neg (by decide), if_pos (by omega)]
  congr 1
  omega
theorem atI_m1 {α : Type} {xs : List α} (h : 0 < xs.length) : atI xs (-1) = xs[xs.length - 1]? := by
  unfold atI
  rw [ixN_m1 h]
  rfl
structure Row' (a : List Str) : Prop where
  nd : a.Nodup
  ok : ∀ z ∈ a, z ∈ sNames
def spMSus : Sp := fun vs H Q _ => ∃ (X : Addr → Prop) (st cl : Addr) (n m : Nat), vs = [.ref st, .int (m : Int)] ∧ Sg X st cl n H ∧ n + 200 ≤ 1000000000 ∧ 1 ≤ m ∧ m ≤ 7 ∧ ∀ w ns as H', Sus (wsD ns) ns → Ask (.list (as.map wsD)) as → as.length ≤ 5 → Sg X st cl (n + 100) H' → KpS st cl H H' → DX X H' w (.tuple [wsD ns, .list (as.map wsD)]) → Q w H'
-- HINT _law_m_suspects lctt#2 tTest (tOp (rEqD K) (tCall spDraw [] E0 (tCons (tVar 0) (tCons (tC (.int 2)) tNil))) (tC (.int 0)))
-- HINT _law_m_suspects slice (sl_listK (K := K) rfl)
abbrev s__law_m_suspects : Stmt := topS 36
abbrev n__law_m_suspects : List Str := ["_law_stream", "_law_most", "_law_names", "_law_askings", "_law_way", "_law_k", "_law_at", "_law_name"]
theorem sc__law_m_suspects : FnScope n__law_m_suspects ["_law_stream", "_law_most"] (defScope s__law_m_suspects) := ⟨rfl, rfl, rfl, by decide +kernel, rfl, by decide +kernel, by decide +kernel⟩
theorem ok_m_suspects {f : Addr} {fd : FuncData} (F : Fun K "_law_m_suspects" "_law_m_suspects" s__law_m_suspects f fd) (T : Bl mg) (O__law_draw : Own P w K mg base CX0 1 "_law_draw" ["_law_stream", "_law_many"] spDraw) (O__law_mixed : Own P w K mg base CX0 2 "_law_mixed" ["_law_stream", "_law_some"] spMixed) :
    FnOk P w K mg base CX0 3 f fd ["_law_stream", "_law_most"] spMSus := by
  refine F.ok sc__law_m_suspects (fun vs H Q E h => ?_) (fun cdv A outer s H vs Q E hr h => ?_)
  · obtain ⟨X, st, cl, n, m, rfl, _⟩ := h
    rfl
  · obtain ⟨X, st, cl, n, m, rfl, S, hn, m1, m7, k⟩ := h
    refine ⟨_, (pss_cons (ps_set (i := 2) sc__law_m_suspects.nd rfl (by first | exact Or.inl rfl | exact Or.inr rfl) (pe_slice (sl_listK (K := K) rfl) (pe_own O__law_mixed hr (by decide) (by rfl) (pa_cons (pv 0) (pa_cons (pe_lst (pa_cons pe_str (pa_cons pe_str (pa_cons pe_str (pa_cons pe_str (pa_cons pe_str (pa_cons pe_str (pa_cons pe_str pa_nil)))))))) pa_nil))) po_none (po_some (pe_op op_addA pe_int (pe_own O__law_draw hr (by decide) (by rfl) (pa_cons (pv 0) (pa_cons (pv 1) pa_nil)))))))
    (pss_cons (ps_par (i := 3) (j := 4) (by rfl) sc__law_m_suspects.nd rfl rfl (by decide) rfl rfl (pa_cons (pe_lst pa_nil) (pa_cons (pe_own O__law_draw hr (by decide) (by rfl) (pa_cons (pv 0) (pa_cons pe_int pa_nil))) pa_nil)) (by rfl))
    (pss_cons (ps_if (pt_cmpR (op_eqD hr.units) (pv 4) pe_int (nomark _))
    (pss_one (ps_setLc (i := 3) (own := [("_law_at", 6)]) (g := (gName 6)) (tt := tYes) rfl sc__law_m_suspects.nd rfl rfl (sw_true rfl rfl rfl (by decide +kernel)) (pi_range2 (by rfl) T.b_range (pa_cons pe_int (pa_cons (pe_callB call_len (by rfl) T.b_len boot_len (pa_cons (pv 2) pa_nil)) pa_nil))) (blkOk_by (N := n__law_m_suspects) (sc := defScope s__law_m_suspects) (by decide +kernel)) (fun _ _ _ _ _ => (pg_name (i := 6) sc__law_m_suspects.nd rfl (by first | exact Or.inl rfl | exact Or.inr rfl))) (fun _ _ _ _ _ => pts_nil) (fun _ _ _ _ _ => (pe_slice (sl_listK (K := K) rfl) (pv 2) po_none (po_some (pv 6)))))) pss_nil)
    (pss_cons (ps_for PassesOwn.never rfl (pi_range1 (by rfl) T.b_range (pa_cons (pe_op op_addA pe_int (pe_own O__law_draw hr (by decide) (by rfl) (pa_cons (pv 0) (pa_cons pe_int pa_nil)))) pa_nil)) (pg_name (i := 5) sc__law_m_suspects.nd rfl (by first | exact Or.inl rfl | exact Or.inr rfl))
    (pss_one (ps_expr (pe_bm PySem.F.plainAttrs_list PySem.F.slot_list_append PySem.F.type_list_append mt_append (pv 3) (pa_cons (pe_lc (own := [("_law_name", 7)]) (g := (gName 7)) (tt := tTest (tOp (rEqD K) (tCall spDraw [] E0 (tCons (tVar 0) (tCons (tC (.int 2)) tNil))) (tC (.int 0)))) rfl sc__law_m_suspects.nd (pi_list (pe_own O__law_mixed hr (by decide) (by rfl) (pa_cons (pv 0) (pa_cons (pv 2) pa_nil)))) (blkOk_by (N := n__law_m_suspects) (sc := defScope s__law_m_suspects) (by decide +kernel)) (fun _ _ _ _ _ => (pg_name (i := 7) sc__law_m_suspects.nd rfl (by first | exact Or.inl rfl | exact Or.inr rfl))) (fun _ _ _ _ _ => (pts_one (pt_cmpR (op_eqD hr.units) (pe_own O__law_draw hr (by decide) (by rfl) (pa_cons (pv 0) (pa_cons pe_int pa_nil))) pe_int (nomark _)))) (fun _ _ _ _ _ => (pv 7))) pa_nil)))))
    (pss_cons (ps_if (pt_cmpR (op_eqD hr.units) (pv 4) pe_int (nomark _))
    (pss_one (ps_asg (pe_op op_addA (pe_ix ix_seq (pv 3) (pe_un un_neg pe_int) (fun _ _ => rfl)) (pe_lst (pa_cons pe_str pa_nil))) (pg_sub (pv 3) (pe_un un_neg pe_int) set_list))) pss_nil)
    (pss_one (ps_ret (pe_tup (pa_cons (pv 2) (pa_cons (pe_slice (sl_listK (K := K) rfl) (pe_own O__law_mixed hr (by decide) (by rfl) (pa_cons (pv 0) (pa_cons (pv 3) pa_nil))) po_none (po_some pe_int)) pa_nil)))))))))), ?_⟩
    have En : EnvOk X H (L2.start n__law_m_suspects [.ref st, .int (m : Int)]) [.val (.ref st), .dat (.int (m : Int)), .un, .un, .un, .un, .un, .un] := env_s1 (N := n__law_m_suspects) (s := .dat (.int (m : Int))) ⟨_, rfl, .int _⟩ (by decide)
    -- names
    refine k_set (k_sl (c_mixed (ds := bNames.map PyData.str) S (gv_var (i := 0) En rfl) (g_lst S.t (ga_strs bNames) (by decide)) (by show n + 7 ≤ _; omega) (by decide) fun w1 es H1 hp S1 k1 d1 _ => ?_))
    obtain ⟨ms, rfl, hms⟩ := strs_perm hp
    have lms : ms.length = 7 := hms.length_eq
    have E1 := En.kps S k1
    refine k_op (c_draw (m := (m : Int)) S1 (gv_var (i := 0) E1 rfl) (g_var (i := 1) E1 rfl) (by show n + 7 ≤ _; omega) (by omega) (by omega) fun j H2 j0 j1 S2 k2 => ?_)
    have E2 := E1.kps S1 k2
    refine .inl ⟨1, j, rfl, rfl, ?_⟩
    obtain ⟨a, us, rfl, na, ea, ra⟩ := (d1.mono (S1.kp k2)).lst_inv
    refine ⟨1 + j, rfl, a, us, rfl, SqL.of ea, fun p hp2 => ?_⟩
    have sp : Same H2 (upd H2 p (.lst (cutV us none (some (1 + j))))) := Same.upd hp2
    have dn := DX.newL S2.t (ra.cut none (some (1 + j))) hp2
    rw [cutP_to _ (by omega), ← List.map_take] at dn
    obtain ⟨ns, hns⟩ : ∃ ns, ns = ms.take (1 + j).toNat := ⟨_, rfl⟩
    rw [← hns] at dn
    have lns : 0 < ns.length ∧ ns.length ≤ 7 := by rw [hns, List.length_take]; omega
    have nnd : ns.Nodup := by rw [hns]; exact ((List.Perm.nodup_iff hms).mpr base_nd).sublist (List.take_sublist _ _)
    have nbase : ∀ z ∈ ns, z ∈ bNames := fun z hz => hms.mem_iff.mp (List.mem_of_mem_take (by rw [hns] at hz; exact hz))
    have SU : Sus (wsD ns) ns := ⟨rfl, rfl, nnd, fun z hz => (base_ok z (nbase z hz)).1, lns.1⟩
    have S3 := S2.same sp
    have E3 := (E2.same sp).set (i := 2) (d := wsD ns) dn
    have k3 := (k1.trans k2).trans (KpS.of sp)
    clear hns E1 E2 S1 S2 k1 k2 sp dn d1 ea ra
    -- askings, way
    refine k_par ?_
    refine ⟨by show 0 ≤ sizeLine; omega, fun L hL => ?_⟩
    have s4 : Same _ (upd _ L (.lst [])) := Same.upd hL
    have nX : ¬ X L := S3.t.new hL
    have nL1 := S3.ne1 hL
    have nL2 := S3.ne2 hL
    have S4 : Sg (fun b => X b ∨ b = L) st cl (n + 7 + 1) _ := ⟨S3.ok.same s4, .inl S3.x1, .inl S3.x2, S3.t.one hL⟩
    have E4 := (E3.more (More.one hL)).same s4
    refine c_draw (m := 4) S4 (gv_var (i := 0) E4 rfl) g_int (by omega) (by decide) (by decide) fun way H5 y0 y1 S5 k5 => ⟨_, _, rfl, ?_⟩
    have hL5 : H5 L = some (.lst []) := k5 _ _ nL1 nL2 upd_same
    have k35 : KpS st cl H H5 := (k3.trans (KpS.of s4)).trans k5
    let Γ (l : Addr) : List Sv := [.val (.ref st), .dat (.int (m : Int)), .dat (wsD ns), .val (.ref l), .dat (.int way), .un, .un, .un]
    let J (a b : Nat) : L2.St → Hp → Prop := fun σ H' => ∃ (l : Addr) (xs : List V) (as : List (List Str)), H l = none ∧ ¬ X l ∧ l ≠ st ∧ l ≠ cl ∧ Sg (fun b => X b ∨ b = l) st cl (n + a) H' ∧ KpS st cl H H' ∧ H' l = some (.lst xs) ∧ DXs (fun b => X b ∨ b = l) H' xs (as.map wsD) ∧ b ≤ as.length ∧ as.length ≤ b + 6 ∧ (∀ a ∈ as, Row ns a) ∧ EnvOk (fun b => X b ∨ b = l) H' σ (Γ l)
    have E5 : EnvOk (fun b => X b ∨ b = L) H5 _ (Γ L) := ((E4.kps S4 k5).setV (i := 3) (v := .ref L)).set (i := 4) (v := .int way) (d := .int way) (.int _)
    have Hl : H L = none := kps_none k3 nL1 nL2 hL
    -- way 0
    refine q_ifJ (b := PyData.eqv (.int way) (.int 0)) (gt_eqD S5.t (g_var (i := 4) E5 rfl) g_int rfl rfl (shaped_int _) (shaped_int _)) (J 9 0) (fun σ6 H6 pJ => ?_) (fun _ hJ H6 s6 => ?_) fun _ H6 s6 => ⟨L, [], [], Hl, nX, nL1, nL2, (S5.same s6).le (by omega), k35.trans (KpS.of s6), s6 _ _ hL5, .nil, by simp, by simp, (fun a h => by cases h), E5.same s6⟩
    rotate_left
    · have S6 := S5.same s6
      have E6 := E5.same s6
      -- without L
      have S6' : Sg X st cl (n + 7 + 1 + 1) H6 := ⟨S6.ok, S3.x1, S3.x2, fun a h => S6.t a (.inl h)⟩
      have E6' : EnvOk X H6 _ [.val (.ref st), .dat (.int (m : Int)), .dat (wsD ns), .un, .dat (.int way), .un, .un, .un] := envUn' (E6.less fun _ => .inl) 3
      refine k_set1 (k_lcR2 (k_cons (k_c (k_cons (g_len S6'.t (g_var (i := 2) (d := wsD ns) E6' rfl) rfl H6 (Same.refl _) _ fun v H7 s7 r7 => k_nil ?_)))))
      have r7' := r7.int_inv
      subst r7'
      refine ⟨1, _, rfl, by have : lenD (wsD ns) = ns.length := by (show (ns.map PyData.str).length = _; rw [List.length_map])
                            omega, ?_⟩
      have lw : lenD (wsD ns) = ns.length := by show (ns.map PyData.str).length = _; rw [List.length_map]
      rw [lw]
      refine lc_new (lo := 1) (i := 6) (fun kk => wsD (ns.take (kk + 1))) (S6'.same s7) (E6'.same s7) (by omega) (fun X' H1 σ2 kk hk E S => ?_) fun w8 H8 S8 s8 d8 nw8 => ?_
      · refine g_is (g_sl (K := K) (lo := none) (hi := some (1 + (kk : Int))) S.t (g_var (i := 2) (d := wsD ns) E rfl) go_none (go_some (g_var (i := 6) E rfl))) ?_
        rw [cutP_to _ (by omega), show (1 + (kk : Int)).toNat = kk + 1 by omega, ← List.map_take]
        rfl
      · obtain ⟨l, xs, rfl, nl, el, xl⟩ := d8.inner
        have l7 : H7 l = none := nw8 l rfl
        have l6 : H6 l = none := s7.free l7
        refine hJ _ _ ⟨l, xs, (List.range (((ns.length : Nat) : Int) - 1).toNat).map fun kk => ns.take (kk + 1), kps_none (k35.trans (KpS.of s6)) (S6'.ne1 l6) (S6'.ne2 l6) l6, nl, S6'.ne1 l6, S6'.ne2 l6, ?_, ((k35.trans (KpS.of s6)).trans (KpS.of s7)).trans (KpS.of s8), el, by rw [List.map_map]; exact xl, by simp, by rw [List.length_map, List.length_range]; omega, fun a ha => ?_, ?_⟩
        · exact ⟨S8.ok.le (by omega), .inl S8.x1, .inl S8.x2, fun a h => h.elim (fun h => S8.t a h) fun h => ⟨_, h ▸ el⟩⟩
        · obtain ⟨kk, _, rfl⟩ := List.mem_map.mp ha
          exact ⟨nnd.sublist (List.take_sublist _ _), fun z hz => List.mem_of_mem_take hz⟩
        · exact ((E6'.more (More.one l6)).same (s7.trans s8)).setV (i := 3) (v := .ref l)
    -- the loop
    obtain ⟨l, xs, as, l0, nl, l1, l2, S7, k7, h7, x7, a0, a1, ra, E7⟩ := pJ
    clear E5 E4 E3 S3 S4 S5 k3 k5 k35 hL5 s4 hL nX nL1 nL2 Hl
    refine k_forR (k_cons (k_op (g_int (X := X) (i := 1) H6 (Same.refl _) _ fun v4 H8 s8 r8 => ?_)))
    have r8' := r8.int_inv
    subst r8'
    refine c_draw (m := 4) (S7.same s8) (gv_var (i := 0) (E7.same s8) rfl) g_int (by omega) (by decide) (by decide) fun cnt H9 c0 c1 S9 k9 => ?_
    refine .inl ⟨1, cnt, rfl, rfl, k_nil ⟨1 + cnt, rfl, by omega, by omega, ?_⟩⟩
    have k89 := (KpS.of s8).trans k9
    refine for_it walk_range (fun i σ' H' => ∃ (xs : List V) (as : List (List Str)), Sg (fun b => X b ∨ b = l) st cl (n + 10 + 14 * i) H' ∧ KpS st cl H H' ∧ H' l = some (.lst xs) ∧ DXs (fun b => X b ∨ b = l) H' xs (as.map wsD) ∧ i ≤ as.length ∧ as.length ≤ i + 6 ∧ (∀ a ∈ as, Row ns a) ∧ EnvOk (fun b => X b ∨ b = l) H' σ' (Γ l)) ⟨xs, as, S9, k7.trans k89, k89 _ _ l1 l2 h7, x7.mono (S7.kp k89), a0, by omega, ra, E7.kps S7 k89⟩ (fun _ _ _ _ _ => trivial) (fun i x σ' HA HB hi p y => ?_) (fun σ' HA p => ?_)
    · obtain ⟨rfl, rfl⟩ := y
      obtain ⟨xs, as, SA, kA, hA, xA, b0, b1, rA, EA⟩ := p
      have hi4 : i < 4 := by omega
      refine k_name ?_
      have EB := EA.setV (i := 5) (v := .int (0 + (i : Int)))
      -- append
      refine ⟨.ref l, EB.get 3 _ rfl, .inl ⟨rfl, _, SqL.of hA⟩, ?_⟩
      refine k_cons (k_lcL (c_mixed (ds := ns.map PyData.str) SA (gv_var (i := 0) EB rfl) (g_var (i := 2) (d := wsD ns) EB rfl) (by rw [List.length_map]; omega) (by rw [List.length_map]; omega) fun w1 es HC hp SC kC dC _ => ?_))
      obtain ⟨qs, rfl, hqs⟩ := strs_perm hp
      rw [List.length_map] at SC
      have lq : qs.length = ns.length := hqs.length_eq
      have EC := EB.kps SA kC
      obtain ⟨ac, uc, rfl, nc, ec, rc⟩ := dC.lst_inv
      refine ⟨ac, rfl, ⟨_, SqL.of ec⟩, ?_⟩
      refine lc_drawsF (c := 1) SC EC dC (by rw [List.length_map]; omega) (by show 7 < 8; decide) (fun X' H1 σ2 kk d Q1 hd E S q1 => ?_) fun w2 es HD hs SD kD dD _ => ?_
      · refine k_test (k_op (c_draw (m := 2) S (gv_var (i := 0) E rfl) g_int (by have := (List.getElem?_eq_some_iff.mp hd).1; rw [List.length_map] at this; omega) (by decide) (by decide) fun jj H2 z0 z1 S2 k2 => ?_))
        refine g_int (X := X') (i := 0) H2 (Same.refl _) _ fun v3 H3 s3 r3 => ?_
        have r3' := r3.int_inv
        subst r3'
        exact rb_eqD (X := X') (x := .int jj) (y := .int 0) rfl rfl (shaped_int _) (shaped_int _) H3 _ _ (S2.t.mono s3) (.int _) (.int _) _ ⟨_, rfl, q1 _ H3 (S2.same s3) (k2.trans (KpS.of s3))⟩
      · obtain ⟨rs, rfl, hrs⟩ := strs_sub hs
        have kCD := kC.trans kD
        have hD := kCD _ _ l1 l2 hA
        have xD := xA.mono (SA.kp kCD)
        have lx : xs.length = as.length := by rw [xA.length, List.length_map]
        refine k_nil ⟨l, xs, w2, rfl, rfl, hD, by rw [sizeLine_eq]; omega, ?_⟩
        have kp : Kp (fun b => X b ∨ b = l) HD (upd HD l (.lst (xs ++ [w2]))) := Kp.put (.inr rfl)
        refine ⟨xs ++ [w2], as ++ [rs], ?_, fun a o n1 n2 e => ?_, upd_same, ?_, by rw [List.length_append]; simp; omega, by rw [List.length_append]; simp; omega, fun a ha => ?_, ?_⟩
        · rw [List.length_map] at SD
          exact (SD.put l1 l2).le (by omega)
        · have h1 := (kA.trans kCD) a o n1 n2 e
          by_cases c : a = l
          · rw [c, l0] at e
            cases e
          · rw [upd_ne c]
            exact h1
        · rw [List.map_append]
          exact (xD.append (.cons dD .nil)).mono kp
        · rcases List.mem_append.mp ha with h | h
          · exact rA a h
          · rw [List.mem_singleton.mp h]
            exact ⟨((List.Perm.nodup_iff hqs).mpr nnd).sublist hrs, fun z hz => hqs.mem_iff.mp (hrs.subset hz)⟩
        · exact envUn' ((EB.kps SA kCD).mono kp) 5
    · obtain ⟨xs, as, SA, kA, hA, xA, b0, b1, rA, EA⟩ := p
      have lx : xs.length = as.length := by rw [xA.length, List.length_map]
      have hpos : 0 < as.length := by omega
      have hi5 : (1 + cnt).toNat ≤ 4 := by omega
      refine q_ifJ (b := PyData.eqv (.int way) (.int 1)) (gt_eqD SA.t (g_var (i := 4) EA rfl) g_int rfl rfl (shaped_int _) (shaped_int _)) (fun σ' H' => ∃ (xs : List V) (as : List (List Str)), Sg (fun b => X b ∨ b = l) st cl (n + 70) H' ∧ KpS st cl H H' ∧ H' l = some (.lst xs) ∧ DXs (fun b => X b ∨ b = l) H' xs (as.map wsD) ∧ 0 < as.length ∧ as.length ≤ 10 ∧ (∀ a ∈ as, Row' a) ∧ EnvOk (fun b => X b ∨ b = l) H' σ' (Γ l)) (fun σB HB pJ => ?_) (fun _ hJ HB sB => ?_) fun _ HB sB => ⟨xs, as, (SA.same sB).le (by omega), kA.trans (KpS.of sB), sB _ _ hA, xA.mono (Kp.of sB), hpos, by omega, fun a ha => ⟨(rA a ha).nd, fun z hz => SU.ok z ((rA a ha).ok z hz)⟩, EA.same sB⟩
      · obtain ⟨ys, bs, SB, kB, hB, xB, c0, c1, rB, EB⟩ := pJ
        have EG := EnvOk.give (i := 3) EB rfl nl hB xB
        have SG : Sg X st cl (n + 70) HB := ⟨SB.ok, (Or.elim SB.x1 id fun e => absurd e.symm l1), (Or.elim SB.x2 id fun e => absurd e.symm l2), fun a h => SB.t a (.inl h)⟩
        refine k_ret (k_tup (k_cons (g_var (i := 2) (d := wsD ns) EG rfl HB (Same.refl _) _ fun v1 HC sC rC => ?_)))
        have SC := SG.same sC
        have EC := EG.same sC
        refine k_cons (k_sl (c_mixed (ds := bs.map wsD) SC (gv_var (i := 0) EC rfl) (g_var (i := 3) EC rfl) (by rw [List.length_map]; omega) (by rw [List.length_map]; omega) fun w2 es HD hp SD kD dD _ => ?_))
        refine ⟨5, rfl, ?_⟩
        obtain ⟨ac, uc, rfl, nc, ec, rc⟩ := dD.lst_inv
        refine ⟨ac, uc, rfl, SqL.of ec, fun q1 hq => k_nil ⟨by show 2 ≤ sizeLine; decide, fun q2 hq2 => ?_⟩⟩
        have sq : Same HD (upd HD q1 (.lst (cutV uc none (some 5)))) := Same.upd hq
        have sq2 := Same.upd (o := .tup [v1, .ref q1]) hq2
        have dq := DX.newL SD.t (rc.cut none (some 5)) hq
        rw [cutP_to _ (by omega)] at dq
        have ees : ∃ cs : List (List Str), es = cs.map wsD ∧ cs.Perm bs := by
          refine ⟨es.map nsOf, ?_, ?_⟩
          · rw [List.map_map]
            conv => lhs; rw [← List.map_id es]
            refine List.map_congr_left fun d hd => ?_
            obtain ⟨s, _, rfl⟩ := List.mem_map.mp (hp.mem_iff.mp hd)
            show wsD s = wsD (nsOf (wsD s))
            rw [nsOf_ws]
          · have := hp.map nsOf
            rw [List.map_map] at this
            refine this.trans ?_
            rw [show nsOf ∘ wsD = id from funext nsOf_ws, List.map_id]
        obtain ⟨cs, rfl, hcs⟩ := ees
        have lcs := hcs.length_eq
        have rt : DX X (upd (upd HD q1 (.lst (cutV uc none (some 5)))) q2 (.tup [v1, .ref q1])) (.ref q2) (.tuple [wsD ns, .list ((cs.take 5).map wsD)]) := by
          refine DX.newT (SD.t.mono sq) (.cons ((rC.mono (SC.kp kD)).mono (Kp.of sq)) (.cons ?_ .nil)) hq2
          rw [List.map_take]
          exact dq
        refine k (.ref q2) ns (cs.take 5) _ SU (Ask.wsL (by rw [List.length_take]; omega) (by rw [List.length_take]; omega) (fun a ha => (rB a (hcs.mem_iff.mp (List.mem_of_mem_take ha))).nd) (fun a ha => (rB a (hcs.mem_iff.mp (List.mem_of_mem_take ha))).ok)) (by rw [List.length_take]; omega) (((SD.same sq).same sq2).le (by rw [List.length_map]; omega)) ((((kB.trans (KpS.of sC)).trans kD).trans (KpS.of sq)).trans (KpS.of sq2)) rt
      · have hB := sB _ _ hA
        have xB := xA.mono (Kp.of sB)
        have SB := SA.same sB
        have EB := EA.same sB
        have hlast : (as.map wsD)[as.length - 1]? = some (wsD as[as.length - 1]) := by rw [List.getElem?_map, List.getElem?_eq_getElem (by omega)]; rfl
        obtain ⟨u, hu, ru⟩ := xB.get hlast
        refine k_asg1 (k_op (k_op ?_))
        refine ⟨_, EB.get 3 _ rfl, g_neg1 (X := X) HB (Same.refl _) _ fun v3 HC sC r3 => ?_⟩
        have r3' := r3.int_inv
        subst r3'
        refine .inl ⟨l, xs, -1, u, rfl, rfl, SqL.of (sC _ _ hB), by rw [atI_m1 (by omega), lx]; exact hu, ?_⟩
        have SC := SB.same sC
        have EC := EB.same sC
        refine g_lst (X := fun b => X b ∨ b = l) (ds := [.str "stranger"]) SC.t (ga_cons g_str ga_nil) (by simp) HC (Same.refl _) _ fun v4 HD sD r4 => ?_
        have lal : as[as.length - 1].length ≤ 8 := nodup_le (rA _ (List.getElem_mem _)).nd fun z hz => SU.ok z ((rA _ (List.getElem_mem _)).ok z hz)
        refine (RD.or2 (RD.or1 (rd_cat (xs := as[as.length - 1].map PyData.str) (ys := [.str "stranger"]) (by rw [List.length_map]; simp; omega))) : RD (fun b => X b ∨ b = l) rAddA _ _ _) HD u v4 (SC.t.mono sD) (ru.mono (Kp.of (sC.trans sD))) r4 _ fun w5 HE sE r5 => ?_
        have sBE := (sC.trans sD).trans sE
        have hE := sBE _ _ hB
        refine ⟨_, (EB.same sBE).get 3 _ rfl, g_neg1 (X := X) HE (Same.refl _) _ fun v6 HF sF r6 => ?_⟩
        have r6' := r6.int_inv
        subst r6'
        have sBF := sBE.trans sF
        refine ⟨l, xs, -1, as.length - 1, rfl, rfl, sBF _ _ hB, by rw [← lx]; exact ixN_m1 (by omega), ?_⟩
        have kp : Kp (fun b => X b ∨ b = l) HF (upd HF l (.lst (xs.set (as.length - 1) w5))) := Kp.put (.inr rfl)
        refine hJ _ _ ⟨xs.set (as.length - 1) w5, as.set (as.length - 1) (as[as.length - 1] ++ [("stranger" : Str)]), (((SB.same sBF).put l1 l2).le (by omega)), fun a o n1 n2 e => ?_, upd_same, ?_, by rw [List.length_set]; omega, by rw [List.length_set]; omega, fun a ha => ?_, ((EB.same sBF).mono kp)⟩
        · have h1 := (kA.trans (KpS.of (sB.trans sBF))) a o n1 n2 e
          by_cases c : a = l
          · rw [c, l0] at e
            cases e
          · rw [upd_ne c]
            exact h1
        · rw [List.map_set]
          refine (DXs.set _ (xB.mono (Kp.of sBF)) ?_).mono kp
          have e7 : wsD (as[as.length - 1] ++ [("stranger" : Str)]) = .list (as[as.length - 1].map PyData.str ++ [.str "stranger"]) := by
            show PyData.list ((as[as.length - 1] ++ [("stranger" : Str)]).map PyData.str) = _
            rw [List.map_append]
            rfl
          rw [e7]
          exact r5.mono (Kp.of sF)
        · rcases List.mem_or_eq_of_mem_set ha with h | h
          · exact ⟨(rA a h).nd, fun z hz => SU.ok z ((rA a h).ok z hz)⟩
          · subst h
            have R := rA _ (List.getElem_mem (show as.length - 1 < as.length by omega))
            refine ⟨List.nodup_append.mpr ⟨R.nd, List.pairwise_singleton _ _, fun a ha b hb e => ?_⟩, fun z hz => ?_⟩
            · rw [List.mem_singleton.mp hb] at e
              exact (base_ok a (nbase a (R.ok a ha))).2 e
            · rcases List.mem_append.mp hz with h | h
              · exact SU.ok z (R.ok z h)
              · rw [List.mem_singleton.mp h]
                decide +kernel
end K80

/-! Trees are told. -/
namespace K80
open PySem PySem.Spec PyProof.Rows L2 KD KS
variable {P : Program} {w : World} {K : PySem.W.Frag} {mg : Str → Option Value} {base : Heap}
theorem eqv_hD (o : Option Nat) (h : Nat) : PyData.eqv (hD o) (.int (h : Int)) = decide (o = some h) := by
  cases o with
  | none => simp [hD, PyData.eqv]
  | some n =>
    show PyData.eqv (.int (n : Int)) (.int (h : Int)) = _
    rw [eqv_int]
    exact decide_eq_decide.mpr ⟨fun z => by rw [show n = h by omega], fun z => by cases z; rfl⟩
theorem hD_one (o : Option Nat) : noDict (hD o) = true ∧ SeqAt.shaped (hD o) = true := by
  cases o <;> exact ⟨rfl, by simp [hD, SeqAt.shaped, PyData.canLay0, PyData.depth]⟩
theorem q_incA {X : Addr → Prop} {H : Hp} {σ : L2.St} {Γ : List Sv} {s : Nat} {a : Int} {D : Ends} (En : EnvOk X H σ Γ) (hi : Γ[s]? = some (.dat (.int a))) (k : D.nx (σ.set s (some (.int (a + 1)))) H) : tAug s (tC (.int 1)) (ipI fun i j => i + j) D σ H := by
  obtain ⟨v, g, x⟩ := En.get s _ hi
  rw [x.int_inv] at g
  exact ⟨_, g, a, 1, rfl, rfl, k⟩
/-- heights, at every depth -/
theorem ok_heights {fo fw_ : Addr} {fdo fdw : FuncData} (Fo : Fun K "height_of" "height_of" s_height_of fo fdo) (Fw : Fun K "height_with" "height_with" s_height_with fw_ fdw) (T : Bl mg) (b_max : mg "max" = none) (m1 : mg "height_of" = some (.ref fo)) (m2 : PySem.W.keepIn K (.ref fo) = true) (m3 : Binds K fdo ["masks", "lies", "state", "known"] [])
    (w1 : mg "height_with" = some (.ref fw_)) (w2 : PySem.W.keepIn K (.ref fw_) = true) (w3 : Binds K fdw ["masks", "lies", "state", "mask", "known"] []) (O_answered : Own P w K mg base CX0 1 "answered" ["state", "mask", "answer", "lies"] spAns) (O_is_found : Own P w K mg base CX0 1 "is_found" ["state"] spFound) :
    ∀ d : Nat, FnOk P w K mg base CX0 (2 * d + 1) fw_ fdw ["masks", "lies", "state", "mask", "known"] (spHwP d) ∧ FnOk P w K mg base CX0 (2 * d + 2) fo fdo ["masks", "lies", "state", "known"] (spHt d)
  | 0 => by
    have h : FnOk P w K mg base CX0 1 fw_ fdw ["masks", "lies", "state", "mask", "known"] (spHwP 0) := Fw.ok (k := 0) sc_height_with (fun _ _ _ _ h => h.elim) (fun _ _ _ _ _ _ _ _ _ h => h.elim)
    exact ⟨h, ok_height_of Fo T (Nat.le_refl 1) O_is_found ⟨fw_, fdw, w1, w2, w3, h⟩⟩
  | d + 1 => by
    have ih := ok_heights Fo Fw T b_max m1 m2 m3 w1 w2 w3 O_answered O_is_found d
    have h : FnOk P w K mg base CX0 (2 * d + 2 + 1) fw_ fdw ["masks", "lies", "state", "mask", "known"] (spHwP (d + 1)) := ok_height_with Fw T b_max (by omega) O_answered ⟨fo, fdo, m1, m2, m3, ih.2⟩
    exact ⟨h, ok_height_of Fo T (by omega) O_is_found ⟨fw_, fdw, w1, w2, w3, h⟩⟩
def spNx (d : Nat) : Sp := fun us H Q _ => ∃ (X : Addr → Prop) (v1 v2 v3 : V) (D : Addr) (l : Int) (n : Nat) (M : List (List Bool)) (cs : List Nat) (C : List (IP × Option Nat)), us = [v1, v2, v3, .ref D] ∧ Kc X D l n M C H ∧ DX X H v1 (mskD M) ∧ DX X H v2 (.int l) ∧ DX X H v3 (stC l cs) ∧ cs.length = n ∧ mu l.toNat cs ≤ d ∧
  ∀ H' C', KpO D H H' → H' D = some (.dT (C'.map celH)) → Kn M l n C' → Q (hV (nxt M l.toNat cs)) H'
-- HINT next_asking le (by omega)
-- HINT next_asking ix (ix_seqK (K := K) rfl)
def trD (M : List (List Bool)) (ns : List Str) (l : Int) : Nat → List Nat → PyData
  | 0, cs => .str ((leftL ns cs l).headD "")
  | h + 1, cs => match nxt M l.toNat cs with
    | none => .str ((leftL ns cs l).headD "")
    | some i => .tuple [.int (i : Int), trD M ns l h (an true cs (M.getD i [])), trD M ns l h (an false cs (M.getD i []))]
theorem left_len {l : Int} (lie : lieI (.int l)) : ∀ (ns : List Str) (cs : List Nat), cs.length = ns.length → (leftL ns cs l).length = fw l.toNat cs
  | [], [], _ => rfl
  | n :: ns, c :: cs, h => by
    have ih := left_len lie ns cs (by simpa using h)
    unfold leftL fw at ih ⊢
    rw [List.length_map] at ih ⊢
    rw [List.zip_cons_cons, List.filter_cons, List.filter_cons]
    have e : decide ((c : Int) ≤ l) = decide (c ≤ l.toNat) := decide_eq_decide.mpr (by rcases lie_nat lie with rfl | rfl <;> omega)
    show (if decide ((c : Int) ≤ l) = true then _ else _ : List (Str × Nat)).length = _
    rw [e]
    split
    · rw [List.length_cons, List.length_cons, ih]
    · exact ih
  | [], _ :: _, h => by cases h
  | _ :: _, [], h => by cases h
theorem hw_some {f : List Nat → Option Nat} {l : Nat} {cs : List Nat} {ms : List Bool} {h : Nat} (e : hw f l cs ms = some h) : (∀ b, cp l cs ≠ cp l (an b cs ms)) ∧ ∀ b, ∃ a, f (an b cs ms) = some a ∧ a ≤ h := by
  unfold hw at e
  split at e
  · cases e
  · rename_i c
    refine ⟨fun b z => c (by cases b; exact .inr z; exact .inl z), fun b => ?_⟩
    cases e1 : f (an true cs ms) with
    | none => rw [e1] at e; simp at e
    | some a1 =>
      cases e2 : f (an false cs ms) with
      | none => rw [e1, e2] at e; simp at e
      | some a2 =>
        rw [e1, e2] at e
        have e : max a1 a2 = h := by simpa using e
        cases b
        · exact ⟨a2, e2, by omega⟩
        · exact ⟨a1, e1, by omega⟩
theorem g_left {X : Addr → Prop} {H : Hp} {σ : L2.St} {ta tb : TE} {E : XK} {d : PyData} {ns : List Str} {cs : List Nat} {l : Int} (t : Trk X H) (h1 : G X ta σ H d) (h2 : G X tb σ H (stC l cs)) (S : Sus d ns) (hl : cs.length = ns.length) (lie : lieI (.int l)) :
    G X (tCall spLeft [] E (tCons ta (tCons tb tNil))) σ H (wsD (leftL ns cs l)) :=
  g_call (ga_cons h1 (ga_cons h2 ga_nil)) fun vs H2 s2 rs Q2 q2 => by
    cases rs with
    | cons u1 rs =>
      cases rs with
      | cons u2 rs =>
        cases rs
        exact ⟨X, _, _, d, ns, l, cs, rfl, t.mono s2, u1, u2, S, hl, lie, fun w H3 s3 dw => q2 w H3 s3 dw⟩
theorem k_asgQ {te : TE} {g : TG} {tz : TS} {D : Ends} {σ : L2.St} {H : Hp} (h : te σ H fun v H1 => g v σ H1 fun σ2 H2 => tz D σ2 H2) : tSeq (tAsg te g) tz D σ H := h
def spTr (d m : Nat) : Sp := fun us H Q _ => ∃ (X : Addr → Prop) (v0 v1 v2 v3 : V) (D : Addr) (ds : PyData) (ns : List Str) (l : Int) (M : List (List Bool)) (cs : List Nat) (C : List (IP × Option Nat)), us = [v0, v1, v2, v3, .ref D] ∧ Kc X D l ns.length M C H ∧ Sus ds ns ∧ DX X H v0 ds ∧ DX X H v1 (mskD M) ∧ DX X H v2 (.int l) ∧ DX X H v3 (stC l cs) ∧ cs.length = ns.length ∧ mu l.toNat cs ≤ d ∧ 0 < fw l.toNat cs ∧ (∃ h, hh M l.toNat cs = some h ∧ h ≤ m) ∧
  ∀ w H' C', KpO D H H' → H' D = some (.dT (C'.map celH)) → Kn M l ns.length C' → DX X H' w (trD M ns l m cs) → Q w H'
def spTrP (d : Nat) : Nat → Sp
  | 0 => fun _ _ _ _ => False
  | m + 1 => spTr d m
-- HINT tree_from le (by omega)
-- HINT tree_from ix (ix_seqK (K := K) rfl)
end K80

/-! Trees looked at. -/
namespace K80
open PySem PySem.Spec PyProof.Rows L2 KD KS
variable {P : Program} {w : World} {K : PySem.W.Frag} {mg : Str → Option Value} {base : Heap}
/-! ### search -/
theorem hF_le {M : List (List Bool)} {l : Nat} : ∀ (k : Nat) (cs : List Nat) (h : Nat), hF M l k cs = some h → h ≤ k
  | 0, cs, h, e => by
    unfold hF at e
    split at e
    · cases e; exact Nat.le_refl _
    · cases e
  | k + 1, cs, h, e => by
    unfold hF at e
    split at e
    · cases e; exact Nat.zero_le _
    · obtain ⟨x, hx, rfl⟩ := Option.map_eq_some_iff.mp e
      obtain ⟨ms, _, e3⟩ := List.mem_filterMap.mp (List.min?_mem hx)
      unfold hw at e3
      split at e3
      · cases e3
      · cases e1 : hF M l k (an true cs ms) with
        | none => rw [e1] at e3; simp at e3
        | some a =>
          cases e2 : hF M l k (an false cs ms) with
          | none => rw [e1, e2] at e3; simp at e3
          | some b =>
            rw [e1, e2] at e3
            have e3 : max a b = x := by simpa using e3
            have := hF_le k _ _ e1
            have := hF_le k _ _ e2
            omega
theorem hh_le {M : List (List Bool)} {l : Nat} {cs : List Nat} {h : Nat} (e : hh M l cs = some h) : h ≤ mu l cs := hF_le _ _ _ e
def msk (ns : List Str) (as : List (List Str)) : List (List Bool) := as.map (bitsOf ns)
theorem mskD_is (ns : List Str) (as : List (List Str)) : maskD ns as = mskD (msk ns as) := by
  unfold maskD mskD msk
  rw [List.map_map]
  rfl
theorem msk_len (ns : List Str) (as : List (List Str)) : ∀ ms ∈ msk ns as, ms.length = ns.length := fun ms h => by
  obtain ⟨a, _, rfl⟩ := List.mem_map.mp h
  unfold bitsOf
  rw [List.length_map]
def zs (n : Nat) : List Nat := List.replicate n 0
theorem zs_len (n : Nat) : (zs n).length = n := by unfold zs; simp
theorem mu_zs {n l : Nat} (hn : n ≤ 8) (hl : l ≤ 1) : mu l (zs n) ≤ 16 := by
  have := mu_le l (zs n)
  rw [zs_len] at this
  have h2 : n * (l + 1) ≤ 8 * 2 := Nat.mul_le_mul hn (by omega)
  omega
theorem fw_zs (n l : Nat) : fw l (zs n) = n := by
  unfold fw zs
  rw [List.filter_replicate_of_pos (by simp), List.length_replicate]
theorem lie_one {l : Int} (h : lieI (.int l)) : l.toNat ≤ 1 := by
  rcases lie_nat h with rfl | rfl <;> decide
/-- the tree that is told -/
def searchD (ns : List Str) (as : List (List Str)) (l : Int) : PyData := match hh (msk ns as) l.toNat (zs ns.length) with
  | none => .none
  | some _ => trD (msk ns as) ns l 16 (zs ns.length)
def spSearch : Sp := fun vs H Q _ => ∃ (X : Addr → Prop) (v1 v2 v3 : V) (s a : PyData) (l : Int) (ns : List Str) (as : List (List Str)), vs = [v1, v2, v3] ∧ Trk X H ∧ DX X H v1 s ∧ DX X H v2 a ∧ DX X H v3 (.int l) ∧ Sus s ns ∧ Ask a as ∧ lieI (.int l) ∧
  ∀ w H', Same H H' → DX X H' w (searchD ns as l) → Q w H'
theorem k_ifEk {tt : TT} {tu tz : TS} {D : Ends} {σ : L2.St} {H : Hp} (h : tt σ H fun b H1 => if b = true then tu { D with nx := tz D } σ H1 else tz D σ H1) : tSeq (tIfS tt tu tNext) tz D σ H := h
-- HINT search le (by omega)
-- HINT search dnew pe_dnewT
end K80

/-! Is it a search. -/
namespace K80
open PySem PySem.Spec PyProof.Rows L2 KD KS
variable {P : Program} {w : World} {K : PySem.W.Frag} {mg : Str → Option Value} {base : Heap}
def leafB (ns : List Str) (cs : List Nat) (l : Int) : PyData → Bool
  | .none => decide ((leftL ns cs l).length = 0)
  | .str s => decide (leftL ns cs l = [s])
  | _ => false
def badB (n : Nat) (d : PyData) : Bool := !decide (lenD d = 3) || !(isNumD (it d 0) && decide (intOf (it d 0) < (n : Int)))
def isTr (M : List (List Bool)) (ns : List Str) (l : Int) : Nat → List Nat → PyData → Bool
  | 0, _, _ => false
  | k + 1, cs, d => if isSeq d = true then !badB M.length d && (isTr M ns l k (an true cs (M.getD (intOf (it d 0)).toNat [])) (it d 1) && isTr M ns l k (an false cs (M.getD (intOf (it d 0)).toNat [])) (it d 2)) else leafB ns cs l d
/-! ### things looked at -/
def tNames : List Str := sNames ++ (["ab","nobody", "0", ""] : List Str)
theorem tNames_ok : ∀ z ∈ tNames, PyData.strOk z = true ∧ (PyData.shown (.str z)).length ≤ 14 := by decide +kernel
mutual
def gdD : PyData → Bool
  | .none => true
  | .bool _ => true
  | .int i => decide (-1 ≤ i) && decide (i ≤ 100)
  | .str s => decide (s ∈ tNames)
  | .list ds => gdAll ds
  | .tuple ds => gdAll ds
  | .dict kvs => kvs.isEmpty
def gdAll : List PyData → Bool
  | [] => true
  | d :: ds => gdD d && gdAll ds
end
theorem gd_mem {z : PyData} : ∀ {ds : List PyData}, gdAll ds = true → z ∈ ds → gdD z = true
  | [], _, h => by cases h
  | d :: ds, g, h => by
    rw [gdAll, Bool.and_eq_true] at g
    rcases List.mem_cons.mp h with rfl | h
    · exact g.1
    · exact gd_mem g.2 h
theorem gd_all : ∀ {ds : List PyData}, (∀ z ∈ ds, gdD z = true) → gdAll ds = true
  | [], _ => by rw [gdAll]
  | d :: ds, h => by
    rw [gdAll, h d List.mem_cons_self, gd_all fun z hz => h z (List.mem_cons_of_mem _ hz)]
    rfl
theorem gd_items {d z : PyData} (g : gdD d = true) (hs : isSeq d = true) (h : z ∈ itemsD d) : gdD z = true := by
  cases d with
  | list ds => rw [gdD] at g; exact gd_mem g h
  | tuple ds => rw [gdD] at g; exact gd_mem g h
  | _ => cases hs
theorem gd_str {z : Str} (g : gdD (.str z) = true) : PyData.strOk z = true := by
  rw [gdD] at g
  exact (tNames_ok z (of_decide_eq_true g)).1
def spLeaf : Sp := fun vs H Q _ => ∃ (X : Addr → Prop) (v1 v2 v3 : V) (s d : PyData) (ns : List Str) (l : Int) (cs : List Nat), vs = [v1, v2, v3] ∧ Trk X H ∧ DX X H v1 s ∧ DX X H v2 (stC l cs) ∧ DX X H v3 d ∧ Sus s ns ∧ cs.length = ns.length ∧ lieI (.int l) ∧ isSeq d = false ∧ gdD d = true ∧ ∀ H', Same H H' → Q (.bl (leafB ns cs l d)) H'
-- HINT is_leaf le (by omega)
/-! ### the walk -/
theorem depth_mem {z : PyData} : ∀ {ds : List PyData}, z ∈ ds → z.depth ≤ PyData.depthAll ds
  | [], h => by cases h
  | d :: ds, h => by
    rw [PyData.depthAll]
    rcases List.mem_cons.mp h with rfl | h
    · omega
    · have := depth_mem h
      omega
theorem it_depth {d : PyData} (hs : isSeq d = true) {i : Nat} (h : i < (itemsD d).length) : (it d i).depth + 1 ≤ d.depth := by
  have hm := it_mem h
  cases d with
  | list ds => have := depth_mem (ds := ds) hm; rw [PyData.depth]; omega
  | tuple ds => have := depth_mem (ds := ds) hm; rw [PyData.depth]; omega
  | _ => cases hs
theorem it_size {d : PyData} (hs : isSeq d = true) (hl : lenD d = 3) : sizeOf (it d 1) + sizeOf (it d 2) < sizeOf d := by
  have key : ∀ ds : List PyData, ds.length = 3 → sizeOf (ds.getD 1 .none) + sizeOf (ds.getD 2 .none) < sizeOf ds := fun ds h => by
    match ds, h with
    | [a, b, c], _ =>
      show sizeOf b + sizeOf c < _
      simp
      omega
  cases d with
  | list ds => have := key ds hl; show sizeOf (ds.getD 1 .none) + sizeOf (ds.getD 2 .none) < _; simp at this ⊢; omega
  | tuple ds => have := key ds hl; show sizeOf (ds.getD 1 .none) + sizeOf (ds.getD 2 .none) < _; simp at this ⊢; omega
  | _ => cases hs
theorem size_pos (d : PyData) : 0 < sizeOf d := by cases d <;> simp <;> omega
abbrev Itm := List Nat × Nat × PyData
def itD (l : Int) (t : Itm) : PyData := .tuple [stC l t.1, t.2.2]
structure Stk (n k0 : Nat) (items : List Itm) : Prop where
  ok : ∀ t ∈ items, t.1.length = n ∧ t.2.2.depth < t.2.1 ∧ gdD t.2.2 = true
  low : ∀ i t, items[i]? = some t → i + t.2.1 ≤ k0 + 1
theorem Stk.init {n k0 : Nat} {items : List Itm} {t : Itm} (s : Stk n k0 (items ++ [t])) : Stk n k0 items := ⟨fun x hx => s.ok x (List.mem_append_left _ hx), fun i x hx => s.low i x (by rw [List.getElem?_append_left (List.getElem?_eq_some_iff.mp hx).1]; exact hx)⟩
theorem Stk.top {n k0 : Nat} {items : List Itm} {t : Itm} (s : Stk n k0 (items ++ [t])) : t.1.length = n ∧ t.2.2.depth < t.2.1 ∧ gdD t.2.2 = true ∧ items.length + t.2.1 ≤ k0 + 1 := ⟨(s.ok t (by simp)).1, (s.ok t (by simp)).2.1, (s.ok t (by simp)).2.2, s.low items.length t (by simp)⟩
theorem Stk.two {n k0 : Nat} {items : List Itm} {a b : Itm} (s : Stk n k0 items) (ha : a.1.length = n ∧ a.2.2.depth < a.2.1 ∧ gdD a.2.2 = true) (hb : b.1.length = n ∧ b.2.2.depth < b.2.1 ∧ gdD b.2.2 = true) (la : items.length + a.2.1 ≤ k0) (lb : items.length + b.2.1 ≤ k0) : Stk n k0 (items ++ [a, b]) := ⟨fun x hx => by
  simp only [List.mem_append, List.mem_cons, List.not_mem_nil, or_false] at hx
  rcases hx with hx | rfl | rfl
  · exact s.ok x hx
  · exact ha
  · exact hb, fun i x hx => by
  rcases Nat.lt_or_ge i items.length with lt | ge
  · rw [List.getElem?_append_left lt] at hx
    exact s.low i x hx
  · rw [List.getElem?_append_right ge] at hx
    match e : i - items.length, hx with
    | 0, hx => cases hx; omega
    | 1, hx => cases hx; omega
    | _ + 2, hx => cases hx⟩
def spIsSearch (k : Nat) : Sp := fun vs H Q _ => ∃ (X : Addr → Prop) (v1 v2 v3 v4 : V) (s a d : PyData) (l : Int) (ns : List Str) (as : List (List Str)), vs = [v1, v2, v3, v4] ∧ Trk X H ∧ DX X H v1 s ∧ DX X H v2 a ∧ DX X H v3 d ∧ DX X H v4 (.int l) ∧ Sus s ns ∧ Ask a as ∧ lieI (.int l) ∧ d.depth < k ∧ gdD d = true ∧
  ∀ H', Same H H' → Q (.bl (isTr (msk ns as) ns l k (zs ns.length) d)) H'
section
variable {X : Addr → Prop} {σ : L2.St} {H : Hp} {te : TE} {tz : TS} {D : Ends}
theorem k_dropQ (h : te σ H fun v H1 => tz D σ H1) : tSeq (tDrop te) tz D σ H := h
theorem k_dropE (h : te σ H fun v H1 => D.nx σ H1) : tDrop te D σ H := h
/-- something is put behind a list -/
theorem k_push {ta : TE} {i : Nat} {R : Addr} {ys : List V} {d : PyData} {Q : VK} (g : σ[i]? = some (some (.ref R))) (hR : H R = some (.lst ys)) (hl : ys.length < 1000000) (ha : G X ta σ H d) (q : ∀ v H1, Same H H1 → DX X H1 v d → Q .non (upd H1 R (.lst (ys ++ [v])))) : tBM K "list" rAppend (tVar i) (tCons ta tNil) σ H Q :=
  ⟨.ref R, g, .inl ⟨rfl, ys, SqL.of hR⟩, ha H (Same.refl H) _ fun v H1 s r => ⟨R, ys, v, rfl, rfl, s _ _ hR, by rw [sizeLine_eq]; omega, q v H1 s r⟩⟩
end
-- HINT is_search le (by omega)
-- HINT is_search ix (ix_seqK (K := K) rfl)
end K80

/-! zip of a list and a tuple. Each of the two is told by how it gives its next. -/
namespace KZ
open PySem PySem.Spec PyProof.Rows L2
open PySem.Sem (wp)
/-- i gives the items xs of l, by I -/
structure Nx (I : Heap → Nat → Prop) (i l : Addr) (xs : Array Value) : Prop where
  item : ∀ (prog : Program) (w : World) (A : Around) (E : Value → Shared → Prop) (s : Shared) (k : Nat) (x : Value) (Q : Value → Shared → Prop), I s.heap k → xs[k]? = some x →
    (∀ h', I h' (k + 1) → Heap.SameBut i s.heap h' → Q x { s with heap := h' }) → wpAny (model prog w) A (Builtin.SmallTypes.nextOf (.ref i)) Q E s
  stop : ∀ (prog : Program) (w : World) (A : Around) (E : Value → Shared → Prop) (s : Shared) (k : Nat) (Q : Value → Shared → Prop), A.handled = none → I s.heap k → xs[k]? = none →
    (∀ h' e, Heap.ExtBut i s.heap h' → (∃ o, h'.get? e = some o ∧ o.cls = .type "StopIteration") → E (.ref e) { s with heap := h' }) → wpAny (model prog w) A (Builtin.SmallTypes.nextOf (.ref i)) Q E s
  keep : ∀ {h h' : Heap} {k : Nat}, I h k → (∀ c o, (c = i ∨ c = l) → h.get? c = some o → h'.get? c = some o) → I h' k
  here : ∀ {h : Heap} {k : Nat}, I h k → ∃ o, h.get? i = some o
theorem nx_list {i l : Addr} {xs : Array Value} (n : l ≠ i) : Nx (fun h k => h.IsListIter i l k ∧ h.IsList l xs) i l xs where
  item := fun prog w A E s k x Q h hx q => wpAny_nextOf_list_item h.1 h.2 hx fun h' a b => q h' ⟨a, h.2.extBut b.extBut n⟩ b
  stop := fun prog w A E s k Q hh h hx q => wpAny_nextOf_list_end hh h.1 h.2 hx q
  keep := fun h k => ⟨h.1.at fun o e => k _ o (.inl rfl) e, let ⟨o, e, r⟩ := h.2; ⟨o, k _ o (.inr rfl) e, r⟩⟩
  here := fun h => let ⟨o, e, _⟩ := h.1; ⟨o, e⟩
theorem nx_tuple {i l : Addr} {xs : Array Value} (n : l ≠ i) : Nx (fun h k => h.IsTupleIter i l k ∧ h.IsTuple l xs) i l xs where
  item := fun prog w A E s k x Q h hx q => RZ.nextOf_tuple_item h.1 h.2 hx fun h' a b => q h' ⟨a, h.2.extBut b.extBut n⟩ b
  stop := fun prog w A E s k Q hh h hx q => RZ.nextOf_tuple_end hh h.1 h.2 hx q
  keep := fun h k => ⟨h.1.at fun o e => k _ o (.inl rfl) e, let ⟨o, e, r⟩ := h.2; ⟨o, k _ o (.inr rfl) e, r⟩⟩
  here := fun h => let ⟨o, e, _⟩ := h.1; ⟨o, e⟩
section
variable {prog : Program} {w : World} {A : Around} {E : Value → Shared → Prop} {s : Shared} {z TI TO i1 i2 l1 l2 : Addr} {k1 k2 : Nat} {xs ys : Array Value} {x y a b : Value} {I J : Heap → Nat → Prop}
theorem Nx.but {i l c : Addr} (n : Nx I i l xs) {h h' : Heap} {k : Nat} (p : I h k) (s : Heap.ExtBut c h h') (h1 : i ≠ c) (h2 : l ≠ c) : I h' k := n.keep p fun d o hd e => by
  rcases hd with rfl | rfl
  · exact s _ _ h1 e
  · exact s _ _ h2 e
/-- the first half of a turn: the owned pair is taken -/
theorem zip_item {Q : Value → Shared → Prop} (D : ZipApart z TI TO i1 i2 l1 l2) (N1 : Nx I i1 l1 xs) (N2 : Nx J i2 l2 ys) (hz : IsZip s.heap z TI TO .none) (hTI : IsPair s.heap TI (.ref i1) (.ref i2)) (hTO : IsPair s.heap TO a b) (p1 : I s.heap k1) (p2 : J s.heap k2) (hx : xs[k1]? = some x) (hy : ys[k2]? = some y)
    (hQ : ∀ h', IsZip h' z TI TO (rawInt s.heap.objs.size) → IsPair h' TO x y → I h' (k1 + 1) → J h' (k2 + 1) → IsPair h' s.heap.objs.size x y → h'.objs.size = s.heap.objs.size + 1 →
      (∀ c o, c ≠ z → c ≠ TO → c ≠ i1 → c ≠ i2 → s.heap.get? c = some o → h'.get? c = some o) → Q (.ref s.heap.objs.size) { s with heap := h' }) :
    wpAny (model prog w) A (Builtin.«zip.__next__» ⟨[.ref z], []⟩) (fun fin s' => ∃ v, fin = .done (.ret v) ∧ Q v s') E s := by
  show wpAny _ _ (field (.ref z) 2 >>= _) _ _ _
  refine wpAny_bind (wpAny_field hz rfl (x := .bool false) rfl ?_)
  show wpAny _ _ (field (.ref z) 3 >>= _) _ _ _
  refine wpAny_bind (wpAny_field hz rfl (x := .ref TI) rfl (wpAny_bind (wpAny_seqItems hTI rfl ?_)))
  show wpAny _ _ (Builtin.SmallTypes.ownedTupleIsFree (.ref z) >>= _) _ _ _
  refine wpAny_bind ?_
  unfold Builtin.SmallTypes.ownedTupleIsFree
  refine wpAny_bind (wpAny_field hz rfl (x := .none) rfl (wpAny_pure ?_))
  simp only [if_true]
  refine wpAny_bind (wpAny_rule (wpAny_bind (wpAny_field hz rfl (x := .ref TO) rfl (wpAny_bind (wpAny_setField_rec hz (by simp) fun g1 u1 e1 => ?_)))))
  replace u1 : IsZip g1 z TI TO .ellipsis := u1
  refine wpAny_bind ?_
  simp only [List.zipIdx_cons, List.zipIdx_nil, List.forIn_cons, List.forIn_nil]
  refine wpAny_bind (wpAny_bind (wpAny_onRaise ?_))
  show wpAny _ _ (Builtin.SmallTypes.nextOf (.ref i1) >>= _) _ _ _
  refine wpAny_bind (N1.item _ _ _ _ _ _ _ _ (N1.but p1 e1.extBut D.i1z D.l1z) hx fun g2 q1 e2 => wpAny_pure ?_)
  have t2 : IsPair g2 TO a b := e2.extBut _ _ D.TOi1 (e1.extBut _ _ D.TOz hTO)
  refine wpAny_bind (wpAny_seqItems t2 rfl (wpAny_bind (wpAny_updateSeq_pair t2 fun g3 t3 e3 => ?_)))
  replace t3 : IsPair g3 TO x b := t3
  refine wpAny_bind (wpAny_letGo (wpAny_pure (wpAny_bind (wpAny_bind (wpAny_onRaise ?_)))))
  show wpAny _ _ (Builtin.SmallTypes.nextOf (.ref i2) >>= _) _ _ _
  have p2' : J g3 k2 := N2.but (N2.but (N2.but p2 e1.extBut D.i2z D.l2z) e2.extBut D.i12.symm D.l2i1) e3.extBut D.TOi2.symm D.l2TO
  refine wpAny_bind (N2.item _ _ _ _ _ _ _ _ p2' hy fun g4 q2 e4 => wpAny_pure ?_)
  have t4 : IsPair g4 TO x b := e4.extBut _ _ D.TOi2 t3
  refine wpAny_bind (wpAny_seqItems t4 rfl (wpAny_bind (wpAny_updateSeq_pair t4 fun g5 t5 e5 => ?_)))
  replace t5 : IsPair g5 TO x y := t5
  refine wpAny_bind (wpAny_letGo (wpAny_pure (wpAny_pure (wpAny_bind (wpAny_seqItems t5 rfl (wpAny_bind (wpAny_newTuple ?_)))))))
  have sz : g5.objs.size = s.heap.objs.size := by rw [e5.1, e4.1, e3.1, e2.1, e1.1]
  have u5 : IsZip g5 z TI TO .ellipsis := e5.extBut _ _ D.TOz.symm (e4.extBut _ _ D.i2z.symm (e3.extBut _ _ D.TOz.symm (e2.extBut _ _ D.i1z.symm u1)))
  have old : ∀ c o, c ≠ z → c ≠ TO → c ≠ i1 → c ≠ i2 → s.heap.get? c = some o → g5.get? c = some o := fun c o c1 c2 c3 c4 e =>
    e5.extBut _ _ c2 (e4.extBut _ _ c4 (e3.extBut _ _ c2 (e2.extBut _ _ c3 (e1.extBut _ _ c1 e))))
  have q1' : I g5 (k1 + 1) := N1.but (N1.but (N1.but q1 e3.extBut D.TOi1.symm D.l1TO) e4.extBut D.i12 D.l1i2) e5.extBut D.TOi1.symm D.l1TO
  have q2' : J g5 (k2 + 1) := N2.but q2 e5.extBut D.TOi2.symm D.l2TO
  have lz : z < g5.objs.size := Heap.lt_size u5
  show wpAny _ _ (Builtin.SmallTypes.ownedTupleHandOut (.ref z) (.ref g5.objs.size) >>= _) _ _ _
  refine wpAny_bind ?_
  unfold Builtin.SmallTypes.ownedTupleHandOut
  have u6 : IsZip (g5.push { cls := .type "tuple", data := .seq #[x, y] }) z TI TO .ellipsis := Heap.get?_push_of_some _ u5
  refine wpAny_bind (wpAny_setField_rec u6 (by simp) fun g7 u7 e7 => ?_)
  replace u7 : IsZip g7 z TI TO (rawInt g5.objs.size) := u7
  refine wpAny_setField_rec u7 (by simp) fun g8 u8 e8 => ?_
  replace u8 : IsZip g8 z TI TO (rawInt g5.objs.size) := u8
  have up : ∀ c o, c ≠ z → g5.get? c = some o → g8.get? c = some o := fun c o c1 e => e8.extBut _ _ c1 (e7.extBut _ _ c1 (Heap.get?_push_of_some _ e))
  have t8 : IsPair g8 g5.objs.size x y := e8.extBut _ _ (Nat.ne_of_gt lz) (e7.extBut _ _ (Nat.ne_of_gt lz) (Heap.get?_push_size _ rfl))
  have z8 : g8.objs.size = g5.objs.size + 1 := by rw [e8.1, e7.1, Heap.size_push]
  rw [sz] at u8 t8 z8
  refine wpAny_pure ⟨_, rfl, ?_⟩
  show Q (.ref g5.objs.size) _
  rw [sz]
  exact hQ g8 u8 (up _ _ D.TOz t5) (N1.keep q1' fun c o hc e => up c o (by rcases hc with rfl | rfl; exact D.i1z; exact D.l1z) e) (N2.keep q2' fun c o hc e => up c o (by rcases hc with rfl | rfl; exact D.i2z; exact D.l2z) e) t8 z8 fun c o c1 c2 c3 c4 e => up c o c1 (old c o c1 c2 c3 c4 e)
theorem zip_stop {Q : Fin → Shared → Prop} (hh : A.handled = none) (D : ZipApart z TI TO i1 i2 l1 l2) (N1 : Nx I i1 l1 xs) (N2 : Nx J i2 l2 ys) (hz : IsZip s.heap z TI TO .none) (hTI : IsPair s.heap TI (.ref i1) (.ref i2)) (hTO : IsPair s.heap TO a b) (p1 : I s.heap k1) (p2 : J s.heap k2) (hend : xs[k1]? = none ∨ ys[k2]? = none)
    (hE : ∀ h' e, (∀ c o, c ≠ z → c ≠ TO → c ≠ i1 → c ≠ i2 → s.heap.get? c = some o → h'.get? c = some o) → (∃ o, h'.get? e = some o ∧ o.cls = .type "StopIteration") → E (.ref e) { s with heap := h' }) :
    wpAny (model prog w) A (Builtin.«zip.__next__» ⟨[.ref z], []⟩) Q E s := by
  show wpAny _ _ (field (.ref z) 2 >>= _) _ _ _
  refine wpAny_bind (wpAny_field hz rfl (x := .bool false) rfl ?_)
  show wpAny _ _ (field (.ref z) 3 >>= _) _ _ _
  refine wpAny_bind (wpAny_field hz rfl (x := .ref TI) rfl (wpAny_bind (wpAny_seqItems hTI rfl ?_)))
  show wpAny _ _ (Builtin.SmallTypes.ownedTupleIsFree (.ref z) >>= _) _ _ _
  refine wpAny_bind ?_
  unfold Builtin.SmallTypes.ownedTupleIsFree
  refine wpAny_bind (wpAny_field hz rfl (x := .none) rfl (wpAny_pure ?_))
  simp only [if_true]
  refine wpAny_bind (wpAny_rule (wpAny_bind (wpAny_field hz rfl (x := .ref TO) rfl (wpAny_bind (wpAny_setField_rec hz (by simp) fun g1 u1 e1 => ?_)))))
  replace u1 : IsZip g1 z TI TO .ellipsis := u1
  have raised : ∀ {g g2 : Heap} {e : Addr} {R : Unit → Shared → Prop}, (∀ c o, c ≠ z → c ≠ TO → c ≠ i1 → c ≠ i2 → s.heap.get? c = some o → g2.get? c = some o) → IsZip g2 z TI TO .ellipsis → (∃ o, g2.get? e = some o ∧ o.cls = .type "StopIteration") → ∀ g3, Heap.SameBut z g2 g3 → E (.ref e) { s with heap := g3 } := fun {g g2 e R} k u he g3 e3 => by
    obtain ⟨oe, h1, h2⟩ := he
    have ne : e ≠ z := fun q => by subst q; rw [u] at h1; cases h1; simp at h2
    exact hE g3 e (fun c o c1 c2 c3 c4 q => e3.extBut _ _ c1 (k c o c1 c2 c3 c4 q)) ⟨oe, e3.extBut _ _ ne h1, h2⟩
  refine wpAny_bind ?_
  simp only [List.zipIdx_cons, List.zipIdx_nil, List.forIn_cons, List.forIn_nil]
  refine wpAny_bind (wpAny_bind (wpAny_onRaise ?_))
  show wpAny _ _ (Builtin.SmallTypes.nextOf (.ref i1) >>= _) _ _ _
  have p1' : I g1 k1 := N1.but p1 e1.extBut D.i1z D.l1z
  cases hx : xs[k1]? with
  | none =>
    refine wpAny_bind (N1.stop _ _ _ _ _ _ _ hh p1' hx fun g2 e e2 he => ?_)
    have u2 : IsZip g2 z TI TO .ellipsis := e2 _ _ D.i1z.symm u1
    exact wpAny_setField_rec u2 (by simp) fun g3 _ e3 => raised (g := g2) (R := fun _ _ => True) (fun c o c1 _ c3 _ q => e2 _ _ c3 (e1.extBut _ _ c1 q)) u2 he g3 e3
  | some x =>
    have hy : ys[k2]? = none := hend.resolve_left (by rw [hx]; simp)
    refine wpAny_bind (N1.item _ _ _ _ _ _ _ _ p1' hx fun g2 q1 e2 => wpAny_pure ?_)
    have t2 : IsPair g2 TO a b := e2.extBut _ _ D.TOi1 (e1.extBut _ _ D.TOz hTO)
    refine wpAny_bind (wpAny_seqItems t2 rfl (wpAny_bind (wpAny_updateSeq_pair t2 fun g3 t3 e3 => ?_)))
    refine wpAny_bind (wpAny_letGo (wpAny_pure (wpAny_bind (wpAny_bind (wpAny_onRaise ?_)))))
    show wpAny _ _ (Builtin.SmallTypes.nextOf (.ref i2) >>= _) _ _ _
    have p2' : J g3 k2 := N2.but (N2.but (N2.but p2 e1.extBut D.i2z D.l2z) e2.extBut D.i12.symm D.l2i1) e3.extBut D.TOi2.symm D.l2TO
    refine wpAny_bind (N2.stop _ _ _ _ _ _ _ hh p2' hy fun g4 e e4 he => ?_)
    have u4 : IsZip g4 z TI TO .ellipsis := e4 _ _ D.i2z.symm (e3.extBut _ _ D.TOz.symm (e2.extBut _ _ D.i1z.symm u1))
    exact wpAny_setField_rec u4 (by simp) fun g5 _ e5 => raised (g := g4) (R := fun _ _ => True) (fun c o c1 c2 c3 c4 q => e4 _ _ c4 (e3.extBut _ _ c2 (e2.extBut _ _ c3 (e1.extBut _ _ c1 q)))) u4 he g5 e5
theorem py_item {Q : Option Value → Shared → Prop} (D : ZipApart z TI TO i1 i2 l1 l2) (N1 : Nx I i1 l1 xs) (N2 : Nx J i2 l2 ys) (hz : IsZip s.heap z TI TO .none) (hTI : IsPair s.heap TI (.ref i1) (.ref i2)) (hTO : IsPair s.heap TO a b) (p1 : I s.heap k1) (p2 : J s.heap k2) (hx : xs[k1]? = some x) (hy : ys[k2]? = some y)
    (hQ : ∀ h', IsZip h' z TI TO (rawInt s.heap.objs.size) → IsPair h' TO x y → I h' (k1 + 1) → J h' (k2 + 1) → IsPair h' s.heap.objs.size x y → h'.objs.size = s.heap.objs.size + 1 →
      (∀ c o, c ≠ z → c ≠ TO → c ≠ i1 → c ≠ i2 → s.heap.get? c = some o → h'.get? c = some o) → Q (some (.ref s.heap.objs.size)) { s with heap := h' }) : wpAny (model prog w) A (pyNext (.ref z)) Q E s := by
  have hT : s.TypeIs (.ref z) "zip" := ⟨_, hz, rfl⟩
  unfold pyNext
  exact wpAny_bind (wpAny_attempt (wpAny_callSpecial?_slot (name := Str.ofString "__next__") hT F.slot_zip_next (wpAny_call_entry F.slot_zip_next hT F.entry_zip_next
    (zip_item D N1 N2 hz hTI hTO p1 p2 hx hy fun h' a1 a2 a3 a4 a5 a6 a7 => wpAny_pure (hQ h' a1 a2 a3 a4 a5 a6 a7)) (F.args_zip_next_1 _))))
theorem py_stop {Q : Option Value → Shared → Prop} (hh : A.handled = none) (D : ZipApart z TI TO i1 i2 l1 l2) (N1 : Nx I i1 l1 xs) (N2 : Nx J i2 l2 ys) (hz : IsZip s.heap z TI TO .none) (hTI : IsPair s.heap TI (.ref i1) (.ref i2)) (hTO : IsPair s.heap TO a b) (p1 : I s.heap k1) (p2 : J s.heap k2) (hend : xs[k1]? = none ∨ ys[k2]? = none)
    (hQ : ∀ h', (∀ c o, c ≠ z → c ≠ TO → c ≠ i1 → c ≠ i2 → s.heap.get? c = some o → h'.get? c = some o) → Q none { s with heap := h' }) : wpAny (model prog w) A (pyNext (.ref z)) Q E s := by
  have hT : s.TypeIs (.ref z) "zip" := ⟨_, hz, rfl⟩
  unfold pyNext
  refine wpAny_bind (wpAny_attempt (wpAny_callSpecial?_slot (name := Str.ofString "__next__") hT F.slot_zip_next (wpAny_call_entry F.slot_zip_next hT F.entry_zip_next
    (zip_stop hh D N1 N2 hz hTI hTO p1 p2 hend fun h' e k he => ?_) (F.args_zip_next_1 _))))
  obtain ⟨o, ho, hc⟩ := he
  exact wpAny_bind (wpAny_isInstance (T := "StopIteration") (b := true) ⟨o, ho, hc⟩ isSubtype_stop (wpAny_pure (hQ _ k)))
end
/-! ### zip(list, tuple) -/
abbrev g1 (h : Heap) (l1 : Addr) : Heap := h.push { cls := .type "list_iterator", data := .fields #[.ref l1, .int 0 0] }
abbrev g2 (h : Heap) (l1 l2 : Addr) : Heap := (g1 h l1).push { cls := .type "tuple_iterator", data := .fields #[.ref l2, .int 0 0] }
abbrev g3 (h : Heap) (l1 l2 : Addr) : Heap := (g2 h l1 l2).push { cls := .type "tuple", data := .seq #[.ref h.objs.size, .ref (g1 h l1).objs.size] }
abbrev g4 (h : Heap) (l1 l2 : Addr) : Heap := (g3 h l1 l2).push { cls := .type "tuple", data := .seq #[.none, .none] }
abbrev g5 (h : Heap) (l1 l2 : Addr) : Heap := (g4 h l1 l2).push { cls := .type "zip", data := .fields #[.none, .bool false, .bool false, .ref (g2 h l1 l2).objs.size, .ref (g3 h l1 l2).objs.size] }
theorem made (l1 l2 : Addr) (xs ys : Array Value) :
    Meets (Builtin.«zip.__new__» ⟨[.type "zip", .ref l1, .ref l2], []⟩) (fun _ R s => s.heap.IsList l1 xs ∧ s.heap.IsTuple l2 ys ∧ R (.ok (.ret (.ref (g4 s.heap l1 l2).objs.size))) { s with heap := g5 s.heap l1 l2 }) :=
  .of_wp fun prog w A R s h => by
    obtain ⟨hp, g, d, tk, os⟩ := s
    obtain ⟨a1, a2, h⟩ := h
    have hsub := PySem.sub_zip
    have b1 : Heap.IsList (Shared.heap ⟨hp, g, d, tk, os⟩) l1 xs := a1
    have b2 : Heap.IsTuple (Shared.heap ⟨hp.push { cls := .type "list_iterator", data := .fields #[.ref l1, .int 0 0] }, g, d, tk, os⟩) l2 ys := Heap.IsTuple.push a2 _
    wp_walk using wpAny_pyIter_list b1, wpAny_pyIter_tuple b2
    exact ⟨_, rfl, h⟩
theorem called {prog : Program} {w : World} {A : Around} {E : Value → Shared → Prop} {s : Shared} {l1 l2 : Addr} {xs ys : Array Value} {Q : Value → Shared → Prop} (a1 : s.heap.IsList l1 xs) (a2 : s.heap.IsTuple l2 ys)
    (h : ∀ h', IsZip h' (s.heap.objs.size + 4) (s.heap.objs.size + 2) (s.heap.objs.size + 3) .none → IsPair h' (s.heap.objs.size + 2) (.ref s.heap.objs.size) (.ref (s.heap.objs.size + 1)) → IsPair h' (s.heap.objs.size + 3) .none .none →
      h'.IsListIter s.heap.objs.size l1 0 → h'.IsTupleIter (s.heap.objs.size + 1) l2 0 → (∀ c o, s.heap.get? c = some o → h'.get? c = some o) → Q (.ref (s.heap.objs.size + 4)) { s with heap := h' }) :
    wpAny (model prog w) A (call (.type "zip") [.ref l1, .ref l2]) Q E s := by
  refine callType_new F.called_zip (by decide) (F.typeCall_zip_2 _ _) (F.newCall_zip_2 _ _) (fun obj => F.args_object_init_3 obj _ _) F.entry_zip_new (made l1 l2 xs ys) ⟨a1, a2, ?_⟩
  have z1 : (g1 s.heap l1).objs.size = s.heap.objs.size + 1 := Heap.size_push ..
  have z2 : (g2 s.heap l1 l2).objs.size = s.heap.objs.size + 2 := by rw [Heap.size_push, z1]
  have z3 : (g3 s.heap l1 l2).objs.size = s.heap.objs.size + 3 := by rw [Heap.size_push, z2]
  have z4 : (g4 s.heap l1 l2).objs.size = s.heap.objs.size + 4 := by rw [Heap.size_push, z3]
  have up : ∀ {h : Heap} {c : Addr} {o p : Obj}, h.get? c = some o → (h.push p).get? c = some o := fun e => Heap.get?_push_of_some _ e
  have y5 : (g5 s.heap l1 l2).get? (g4 s.heap l1 l2).objs.size = some _ := Heap.get?_push_size _ rfl
  have y4 : (g5 s.heap l1 l2).get? (g3 s.heap l1 l2).objs.size = some _ := up (Heap.get?_push_size _ rfl)
  have y3 : (g5 s.heap l1 l2).get? (g2 s.heap l1 l2).objs.size = some _ := up (up (Heap.get?_push_size _ rfl))
  have y2 : (g5 s.heap l1 l2).get? (g1 s.heap l1).objs.size = some _ := up (up (up (Heap.get?_push_size _ rfl)))
  have y1 : (g5 s.heap l1 l2).get? s.heap.objs.size = some _ := up (up (up (up (Heap.get?_push_size _ rfl))))
  show _ ∧ _
  rw [z2, z3, z4] at y5
  rw [z1, z2] at y3
  rw [z3] at y4
  rw [z1] at y2
  rw [z4]
  exact ⟨⟨_, y5, rfl⟩, h _ y5 y3 y4 ⟨_, y1, rfl, rfl⟩ ⟨_, y2, rfl, rfl⟩ fun c o e => up (up (up (up (up e))))⟩
/-- the list at a, the tuple at b, as they stand at each turn -/
def Itm (K : PySem.W.Frag) (a b : Addr) : It :=
  ⟨fun i H => ∃ (xs ys : List V) (x y : V), SqL K H a xs ∧ SqT K H b ys ∧ xs[i]? = some x ∧ ys[i]? = some y,
    fun i H v H' => ∃ T x y, v = .ref T ∧ H T = none ∧ H' = upd H T (.tup [x, y]) ∧ (∀ xs, SqL K H a xs → xs[i]? = some x) ∧ ∀ ys, SqT K H b ys → ys[i]? = some y,
    fun i H => ∃ xs ys : List V, SqL K H a xs ∧ SqT K H b ys ∧ (xs.length ≤ i ∨ ys.length ≤ i)⟩
theorem turn_m {P : Program} {w : World} {K : PySem.W.Frag} {elts : List Expr} {kk : Nat} {tpos : Pos} {a b z TI TO i1 i2 : Addr} (D : ZipApart z TI TO i1 i2 a b) :
    Turn P w K (.Tuple elts kk tpos) (Itm K a b) [z, TI, TO, i1, i2] z (fun i h => IsZip h z TI TO .none ∧ IsPair h TI (.ref i1) (.ref i2) ∧ (∃ x y, IsPair h TO x y) ∧ h.IsListIter i1 a i ∧ h.IsTupleIter i2 b i) where
  mem := by simp
  obj := fun i h st c hc => by
    obtain ⟨hz, hTI, ⟨x, y, hTO⟩, ⟨o1, e1, _, d1⟩, ⟨o2, e2, _, d2⟩⟩ := st
    simp only [List.mem_cons, List.not_mem_nil, or_false] at hc
    rcases hc with rfl | rfl | rfl | rfl | rfl
    · exact ⟨_, hz, fun v q => nomatch q⟩
    · exact ⟨_, hTI, fun v q => nomatch q⟩
    · exact ⟨_, hTO, fun v q => nomatch q⟩
    · exact ⟨o1, e1, fun v q => by rw [d1] at q; cases q⟩
    · exact ⟨o2, e2, fun v q => by rw [d2] at q; cases q⟩
  keep := fun i h h' st k => by
    obtain ⟨hz, hTI, ⟨x, y, hTO⟩, h1, h2⟩ := st
    exact ⟨k z (by simp) _ hz, k TI (by simp) _ hTI, ⟨x, y, k TO (by simp) _ hTO⟩, h1.at fun o q => k i1 (by simp) o q, h2.at fun o q => k i2 (by simp) o q⟩
  item := by
    intro X hP hw hK hc i pins s σ H E I hf st hg
    subst hP hw hK
    obtain ⟨hz, hTI, ⟨x0, y0, hTO⟩, h1, h2⟩ := st
    obtain ⟨xs, ys, x, y, hqx, hqy, hx, hy⟩ := hg
    obtain ⟨its, rv, p, _⟩ := I.list hqx
    obtain ⟨its2, rv2, p2, _⟩ := I.tuple hqy
    obtain ⟨u, hu, ru⟩ := rv.get hx
    obtain ⟨u2, hu2, ru2⟩ := rv2.get hy
    have hzl : z < s.heap.objs.size := Heap.lt_size hz
    refine py_item D (nx_list D.l1i1) (nx_tuple D.l2i2) hz hTI hTO ⟨h1, p.isList⟩ ⟨h2, p2⟩ (x := u) (y := u2) (by simpa using hu) (by simpa using hu2) fun h' z' TO' h1' h2' hT hsz hk => ?_
    refine ⟨_, rfl, wpAny_letOwnedTupleGo_zip (s := { s with heap := h' }) z' fun h'' z'' sb => ?_⟩
    have hT2 : h''.get? s.heap.objs.size = some { cls := .type "tuple", data := .seq #[u, u2] } := (sb.2 _ (Nat.ne_of_gt hzl)).trans hT
    have new : ObjOk X.prog X.w (upd H s.heap.objs.size (.tup [x, y])) h'' s.heap.objs.size (.tup [x, y]) :=
      ⟨by show 2 ≤ sizeLine; decide, [u, u2], .cons ru (.cons ru2 .nil), ⟨_, hT2, rfl, _, rfl⟩⟩
    have I1 : Inv X pins σ (upd H s.heap.objs.size (.tup [x, y])) { s with heap := h'' } :=
      I.turnedNew (t' := s.toks) (ch := [z, TI, TO, i1, i2]) (fun c o hb q => (sb.2 c (fun q' => hb (by simp [q']))).trans (hk c o (fun q' => hb (by simp [q'])) (fun q' => hb (by simp [q'])) (fun q' => hb (by simp [q'])) (fun q' => hb (by simp [q'])) q)) hf (Nat.le_refl _) new
    refine ⟨.ref s.heap.objs.size, _, I1, rfl, ⟨_, x, y, rfl, I.hok.fresh (Nat.le_refl _), rfl, fun l hl => by rw [I.list_inj hl hqx]; exact hx, fun l hl => by rw [I.tuple_inj hl hqy]; exact hy⟩, ⟨z'', ?_, ⟨u, u2, ?_⟩, ?_, ?_⟩, fun c hcm => ?_⟩
    · exact (sb.2 _ D.TIz).trans (hk _ _ D.TIz D.TITO D.TIi1 D.TIi2 hTI)
    · exact (sb.2 _ D.TOz).trans TO'
    · exact h1'.1.at fun o q => (sb.2 _ D.i1z).trans q
    · exact h2'.1.at fun o q => (sb.2 _ D.i2z).trans q
    · have hlt : c < s.heap.objs.size := by
        simp only [List.mem_cons, List.not_mem_nil, or_false] at hcm
        rcases hcm with rfl | rfl | rfl | rfl | rfl
        · exact hzl
        · exact Heap.lt_size hTI
        · exact Heap.lt_size hTO
        · obtain ⟨_, e1, _⟩ := h1; exact Heap.lt_size e1
        · obtain ⟨_, e2, _⟩ := h2; exact Heap.lt_size e2
      rw [upd_ne (Nat.ne_of_lt hlt)]
      exact (hf c hcm).1
  done := by
    intro X hP hw hK hc i pins s σ H E I hf st hg
    subst hP hw hK
    obtain ⟨hz, hTI, ⟨x0, y0, hTO⟩, h1, h2⟩ := st
    obtain ⟨xs, ys, hqx, hqy, hend⟩ := hg
    obtain ⟨its, rv, p, _⟩ := I.list hqx
    obtain ⟨its2, rv2, p2, _⟩ := I.tuple hqy
    have l1 := rv.length
    have l2 := rv2.length
    have he : its.toArray[i]? = none ∨ its2.toArray[i]? = none := by
      rcases hend with q | q
      · exact .inl (by simp; omega)
      · exact .inr (by simp; omega)
    exact py_stop (I.ok.hd hc) D (nx_list D.l1i1) (nx_tuple D.l2i2) hz hTI hTO ⟨h1, p.isList⟩ ⟨h2, p2⟩ he fun h' hk => ⟨rfl, I.turnedL (t' := s.toks) (ch := [z, TI, TO, i1, i2]) (fun c o hb q =>
      hk c o (fun q' => hb (by simp [q'])) (fun q' => hb (by simp [q'])) (fun q' => hb (by simp [q'])) (fun q' => hb (by simp [q'])) q) hf⟩
  self := fun A i s Q E st h => wpAny_pyIter_zip st.1 h
def iZipM (K : PySem.W.Frag) (ta : TA) : TI := fun σ H R => ta σ H fun vs H1 => ∃ a b xs ys, vs = [.ref a, .ref b] ∧ SqL K H1 a xs ∧ SqT K H1 b ys ∧ R (Itm K a b) H1
theorem pi_zipM {X : Cx} {e e2 : Expr} {ta : TA} {p pos tpos : Pos} {elts : List Expr} {kk : Nat} (hg : Gl X "zip") (hm : X.mg "zip" = none) (ha : PA X [e, e2] ta)
    (hs : starEach [e, e2] X.env = (false, eval e X.env) :: starEach [e2] X.env := by rfl) (hpl : (backTo pos (starEach [e2] X.env)).any (·.1) = false := by rfl) :
    PI X (.Tuple elts kk tpos) (.Call (.Name "zip" p) [e, e2] [] pos) (iZipM X.K ta) := by
  refine ⟨fun pins s σ H R I h => ?_⟩
  refine Call_ (ld_blt I hg hm PyProof.Rows.boot_zip (PyProof.Rows.callWith_type1 (thn (ha.run pos pins s σ H _ I h) fun us s1 ⟨vs, H1, I1, r1, q1⟩ => ?_) hs hpl))
  obtain ⟨a, b, xs, ys, ex, hqx, hqy, q⟩ := q1
  subst ex
  cases r1 with
  | cons r rr =>
    cases rr with
    | cons r' rr =>
      cases rr
      cases r
      cases r'
      let n := s1.heap.objs.size
      have fresh5 : ∀ c, c ∈ [n + 4, n + 2, n + 3, n, n + 1] → FpOk X pins H1 c := fun c hcm => by
        have hle : n ≤ c := by
          simp only [List.mem_cons, List.not_mem_nil, or_false] at hcm
          rcases hcm with z | z | z | z | z <;> rw [z] <;> first | exact Nat.le_add_right _ _ | exact Nat.le_refl _
        exact I1.fpOk hle (I1.hok.fresh hle)
      obtain ⟨its, rv, p1, _⟩ := I1.list hqx
      obtain ⟨its2, rv2, p2, _⟩ := I1.tuple hqy
      obtain ⟨o2, ho2, _⟩ := id p2
      refine called p1.isList (show s1.heap.IsTuple b its2.toArray from p2) fun h' hz hTI hTO h1 h2 hk => wpAny_pyIter_zip hz ?_
      have I2 : Inv X pins σ H1 { s1 with heap := h' } := I1.kept (t' := s1.toks) hk
      exact ⟨n + 4, [n + 4, n + 2, n + 3, n, n + 1], _, _, H1, rfl, I2, turn_m (PySem.W.ktu_apart n a b p1.lt (Heap.lt_size ho2)), ⟨hz, hTI, ⟨_, _, hTO⟩, h1, h2⟩, fresh5, q⟩
open KD
theorem walk_m {K : PySem.W.Frag} {a b : Addr} {xs ys : List V} {n : Nat} (hn : n = min xs.length ys.length) : Walk (Itm K a b) n (fun H => SqL K H a xs ∧ SqT K H b ys) (YPair (fun i => xs[i]?) (fun i => ys[i]?)) := by
  subst hn
  refine ⟨fun i _ hi q => ?_, fun _ q => ⟨xs, ys, q.1, q.2, by omega⟩, fun i H v H' _ q y => ?_⟩
  · have h1 : i < xs.length := by omega
    have h2 : i < ys.length := by omega
    exact ⟨xs, ys, xs[i], ys[i], q.1, q.2, by simp [h1], by simp [h2]⟩
  · obtain ⟨T, x, z, h1, h2, h3, h4, h5⟩ := y
    exact ⟨T, x, z, h1, h2, h3, h4 xs q.1, h5 ys q.2⟩
theorem gi_zipM {X : Addr → Prop} {H : Hp} {σ : L2.St} {K : PySem.W.Frag} {te tb : TE} {ds es : List PyData} (h : G X te σ H (.list ds)) (h' : G X tb σ H (.tuple es)) : GI X (iZipM K (tCons te (tCons tb tNil))) σ H (zipD ds es) := fun H1 s R r => h H1 s _ fun v H2 s2 rv => h' H2 (s.trans s2) _ fun w H3 s3 rw_ => by
  obtain ⟨a, xs, rfl, n, e, rx⟩ := (rv.mono (Kp.of s3)).lst_inv
  obtain ⟨b, ys, rfl, n2, e2, ry⟩ := rw_.tup_inv
  refine ⟨a, b, xs, ys, rfl, SqL.of e, SqT.of e2, r _ H3 (s2.trans s3) ⟨_, _, walk_m (xs := xs) (ys := ys) (by simp [zipD, rx.length, ry.length]), fun X' m H4 k t => ?_⟩⟩
  have n' : ¬ X' a := fun z => (m a z).elim n fun q => by rw [e] at q; cases q
  have n2' : ¬ X' b := fun z => (m b z).elim n2 fun q => by rw [e2] at q; cases q
  refine ⟨⟨SqL.of (k a _ n' e), SqT.of (k b _ n2' e2)⟩, fun i x H5 y => ?_⟩
  obtain ⟨T, u, w, rfl, hT, rfl, hu, hw⟩ := y
  obtain ⟨d, h1, h2⟩ := rx.getV hu
  obtain ⟨d', h3, h4⟩ := ry.getV hw
  refine ⟨Same.upd hT, .tuple [d, d'], ?_, DX.newT t (.cons ((h2.grow m).mono k) (.cons ((h4.grow m).mono k) .nil)) hT⟩
  unfold zipD
  rw [List.getElem?_zipWith, h1, h3]
end KZ

/-! A tuple, once. -/
namespace KT1
open PySem PySem.Spec PyProof.Rows L2
theorem mul1 (l : Addr) (items : Array Value) (n : Nat) (dd : Option Addr) (sl : Array (Option Value)) (u : Tok) :
    Meets (Builtin.«tuple.__mul__» ⟨[.ref l, .int 1 u], []⟩) (fun _ R s => s.heap.get? l = some { cls := .type "tuple", dict := dd, data := .seq items n, slots := sl } ∧ R (.ok (.ret (.ref l))) s) :=
  .of_wp fun prog w A R s h => by
    obtain ⟨hp, g, d, tk, os⟩ := s
    obtain ⟨hl, h⟩ := h
    have f1 := AutoSeq1.idx_int
    have c1 : (items.isEmpty || (1 : Int) == 1) = true := by simp
    wp_walk using wpAny_loadPart' hl
    repeat (first
      | (refine wpAny_ite_true (decide_eq_true c1) ?_; wp_walk using wpAny_loadPart' hl)
      | (refine wpAny_ite_true c1 ?_; wp_walk using wpAny_loadPart' hl)
      | (refine wpAny_ite_false (decide_eq_false (by decide)) ?_; wp_walk using wpAny_loadPart' hl))
    exact ⟨_, rfl, h⟩
def rRep1 (K : PySem.W.Frag) : R2 := fun x y H Q => ∃ l xs, x = .ref l ∧ y = .int 1 ∧ SqT K H l xs ∧ Q (.ref l) H
theorem op_rep1 {X : Cx} : OpR X (binaryOp .Mult) (rRep1 X.K) := by
  intro pins s σ H x y v u Q I rx ry h
  obtain ⟨l, xs, rfl, rfl, hT, q⟩ := h
  cases rx
  obtain ⟨t, rfl⟩ := ry
  obtain ⟨its, r, ⟨⟨cls, dd, data, sl⟩, ho, hc, n, hd⟩, hs⟩ := I.tuple hT
  simp only at hc hd
  subst hc hd
  refine wpAny_binaryOp_repeat_ref (T := "tuple") (U := "int") (by decide) ⟨_, ho, rfl⟩ (fun s' => typeIs_int s' 1 t) noFill_tuple_mul F.fills_int_mul F.slot_int_rmul repeat_tuple F.slot_int_index.lookup
    (call_meets F.slot_int_rmul (typeIs_int s 1 t) F.entry_int_rmul (F.args_int_rmul_2 _ _) (int_rmul_tuple 1 t l its.toArray n dd sl)
      ⟨ho, rfl, ⟨_, ho, rfl⟩, call_meets F.slot_tuple_mul ⟨_, ho, rfl⟩ F.entry_tuple_mul (F.args_tuple_mul_2 _ _) (mul1 l its.toArray n dd sl t) ⟨ho, ?_⟩⟩)
  exact ⟨.ref l, H, I, rfl, q⟩
def rRepA (K : PySem.W.Frag) : R2 := fun x y H Q => rRepT K x y H Q ∨ rRep1 K x y H Q
theorem op_repA {X : Cx} {K : PySem.W.Frag} (h : X.K = K) : OpR X (binaryOp .Mult) (rRepA K) := h ▸ op_repT.or op_rep1
open KD
theorem DXs.flat {X : Addr → Prop} {H : Hp} {v : V} {d : PyData} (h : DX X H v d) : ∀ n : Nat, DXs X H (List.replicate n [v]).flatten (List.replicate n d)
  | 0 => .nil
  | n + 1 => by
    rw [List.replicate_succ, List.flatten_cons, List.replicate_succ]
    exact .cons h (DXs.flat h n)
/-- one thing, n times -/
theorem g_times {X : Addr → Prop} {σ : L2.St} {H : Hp} {K : PySem.W.Frag} {ta tb : TE} {d : PyData} {n : Nat} (t : Trk X H) (ha : G X ta σ H (.tuple [d])) (hb : G X tb σ H (.int (n : Int))) (h1 : 1 ≤ n) (h2 : n ≤ 1000) : G X (tOp (rRepA K) ta tb) σ H (.tuple (List.replicate n d)) := g_op t ha hb fun H1 u v t1 ru rv Q q => by
  obtain ⟨a, xs, rfl, na, ea, rx⟩ := ru.tup_inv
  cases rx with
  | cons r1 rx =>
    cases rx
    rw [rv.int_inv]
    rcases Nat.lt_or_ge n 2 with lt | ge
    · have e : n = 1 := by omega
      subst e
      exact .inr ⟨a, _, rfl, rfl, SqT.of ea, q _ H1 (Same.refl H1) (.tup na ea (.cons r1 .nil))⟩
    · refine .inl ⟨a, (n : Int), _, rfl, rfl, SqT.of ea, by simp, by omega, by omega, by simp, fun p hp => q _ _ (Same.upd hp) ?_⟩
      rw [show ((n : Int)).toNat = n by omega]
      exact DX.newT t1 (DXs.flat r1 n) hp
end KT1

/-! Searches, by the law. -/
namespace K80
open PySem PySem.Spec PyProof.Rows L2 KD KS
variable {P : Program} {w : World} {K : PySem.W.Frag} {mg : Str → Option Value} {base : Heap}
def cD (cs : List Nat) : PyData := .tuple (cs.map fun c : Nat => .int (c : Int))
def asD (as : List (List Str)) : PyData := .list (as.map wsD)
theorem zipD_is (ns : List Str) (cs : List Nat) : zipD (ns.map PyData.str) (cs.map fun c : Nat => .int (c : Int)) = (ns.zip cs).map fun p => .tuple [.str p.1, .int (p.2 : Int)] := by
  unfold zipD
  induction ns generalizing cs with
  | nil => rfl
  | cons n ns ih =>
    cases cs with
    | nil => rfl
    | cons c cs => rw [List.map_cons, List.map_cons, List.zipWith_cons_cons, ih, List.zip_cons_cons, List.map_cons]
theorem eqv_bools (a b : Bool) : PyData.eqv (.bool a) (.bool b) = (a == b) := by simp [PyData.eqv]
theorem shaped_boo (b : Bool) : SeqAt.shaped (.bool b) = true := by simp [SeqAt.shaped, PyData.canLay0, PyData.depth]
theorem g_boolI {X : Addr → Prop} {te : TE} {σ : L2.St} {H : Hp} {b : Bool} (h : G X te σ H (.bool b)) : G X (tCB (fun xs H Q => (∃ i, xs = [V.int i] ∧ Q (.int i) H) ∨ ∃ k, xs = [V.bl k] ∧ Q (.int (if k then 1 else 0)) H) (tCons te tNil)) σ H (.int (if b then 1 else 0)) := fun H1 s Q q =>
  h H1 s _ fun v H2 s2 r => .inr ⟨b, by rw [r.bl_inv], q _ H2 s2 (.int _)⟩
def spAfter : Sp := fun vs H Q _ => ∃ (X : Addr → Prop) (v1 v2 v3 v4 v5 : V) (ns : List Str) (as : List (List Str)) (cs : List Nat) (j : Nat) (b : Bool), vs = [v1, v2, v3, v4, v5] ∧ Trk X H ∧ DX X H v1 (wsD ns) ∧ DX X H v2 (asD as) ∧ DX X H v3 (cD cs) ∧ DX X H v4 (.int (j : Int)) ∧ DX X H v5 (.bool b) ∧ ns.length ≤ 1000 ∧ j < as.length ∧
  ∀ w H', Same H H' → DX X H' w (cD (an b cs (bitsOf ns (as.getD j [])))) → Q w H'
theorem an_zip (b : Bool) (row : List Str) : ∀ (ns : List Str) (cs : List Nat), ((ns.zip cs).map fun p => PyData.int ((p.2 : Int) + (if (decide (p.1 ∈ row) != b) = true then 1 else 0))) = (an b cs (bitsOf ns row)).map fun c : Nat => .int (c : Int)
  | [], cs => by cases cs <;> rfl
  | n :: ns, [] => rfl
  | n :: ns, c :: cs => by
    have ih := an_zip b row ns cs
    unfold an bitsOf at ih ⊢
    rw [List.zip_cons_cons, List.map_cons, List.map_cons, List.zipWith_cons_cons, List.map_cons, ih]
    congr 1
    by_cases h : decide (n ∈ row) = b
    · rw [if_pos h, if_neg (by simpa using h)]
      simp
    · rw [if_neg h, if_pos (by simpa using h)]
      simp
theorem op_neDK {X : Cx} (h : X.K = K) (hu : X.A.units + 64 < cLine) : OpR X (compareOp .NotEq) (rNeD K) := h ▸ op_neD hu
-- HINT _law_m_after ne (op_neDK (K := K) rfl hr.units)
-- HINT _law_m_after in (op_inK (K := K) rfl)
-- HINT _law_m_after zip KZ.pi_zipM
-- HINT _law_m_after ix (ix_seqK (K := K) rfl)
abbrev s__law_m_after : Stmt := topS 37
abbrev n__law_m_after : List Str := ["_law_names", "_law_askings", "_law_state", "_law_index", "_law_answer", "_law_name", "_law_many"]
theorem sc__law_m_after : FnScope n__law_m_after ["_law_names", "_law_askings", "_law_state", "_law_index", "_law_answer"] (defScope s__law_m_after) := ⟨rfl, rfl, rfl, by decide +kernel, rfl, by decide +kernel, by decide +kernel⟩
theorem ok_m_after {f : Addr} {fd : FuncData} (F : Fun K "_law_m_after" "_law_m_after" s__law_m_after f fd) (T : Bl mg) : FnOk P w K mg base CX0 1 f fd ["_law_names", "_law_askings", "_law_state", "_law_index", "_law_answer"] spAfter := by
  refine F.ok sc__law_m_after (fun vs H Q E h => ?_) (fun cdv A outer s H vs Q E hr h => ?_)
  · obtain ⟨X, v1, v2, v3, v4, v5, ns, as, cs, j, b, rfl, _⟩ := h
    rfl
  · obtain ⟨X, v1, v2, v3, v4, v5, ns, as, cs, j, b, rfl, t, r1, r2, r3, r4, r5, hl, hj, q⟩ := h
    refine ⟨_, (pss_one (ps_ret (pe_callTy call_tuple_of (by rfl) T.b_tuple boot_tuple (pa_cons (pe_lc (own := [("_law_name", 5), ("_law_many", 6)]) (g := (gTup K 2 (gCons (gName 5) (gCons (gName 6) gNil)))) (tt := tYes) rfl sc__law_m_after.nd (KZ.pi_zipM (by rfl) T.b_zip (pa_cons (pv 0) (pa_cons (pv 2) pa_nil))) (blkOk_by (N := n__law_m_after) (sc := defScope s__law_m_after) (by decide +kernel)) (fun _ _ _ _ _ => (pg_tup (n := 2) rfl (pgs_cons (pg_name (i := 5) sc__law_m_after.nd rfl (by first | exact Or.inl rfl | exact Or.inr rfl)) (pgs_cons (pg_name (i := 6) sc__law_m_after.nd rfl (by first | exact Or.inl rfl | exact Or.inr rfl)) pgs_nil)))) (fun _ _ _ _ _ => pts_nil) (fun _ _ _ _ _ => (pe_op op_addA (pv 6) (pe_callTy call_int1 (by rfl) T.b_int boot_int (pa_cons (pe_cmpR (op_neDK (K := K) rfl hr.units) (pe_cmpR (op_inK (K := K) rfl) (pv 5) (pe_ix (ix_seqK (K := K) rfl) (pv 1) (pv 3) (fun _ _ => rfl)) (by rfl)) (pv 4) (nomark _)) pa_nil))))) pa_nil)))), ?_⟩
    have En : EnvOk X H (L2.start n__law_m_after [v1, v2, v3, v4, v5]) [.dat (wsD ns), .dat (asD as), .dat (cD cs), .dat (.int (j : Int)), .dat (.bool b), .un, .un] := ⟨rfl, fun i s e => by
      match i, e with
      | 0, e => cases e; exact ⟨_, rfl, r1⟩
      | 1, e => cases e; exact ⟨_, rfl, r2⟩
      | 2, e => cases e; exact ⟨_, rfl, r3⟩
      | 3, e => cases e; exact ⟨_, rfl, r4⟩
      | 4, e => cases e; exact ⟨_, rfl, r5⟩
      | 5, e => cases e; trivial
      | 6, e => cases e; trivial
      | _ + 7, e => cases e⟩
    let row := as.getD j []
    have hrow : as[j]? = some row := by
      show _ = some (as.getD j [])
      rw [List.getD_eq_getElem?_getD, List.getElem?_eq_getElem hj]
      rfl
    refine s_ret (X := X) (g_is (g_cb t (ga_cons (g_is (g_lc1 (ds := (ns.zip cs).map fun p => .tuple [.str p.1, .int (p.2 : Int)]) (Γ2 := fun z => [.dat (wsD ns), .dat (asD as), .dat (cD cs), .dat (.int (j : Int)), .dat (.bool b), .dat (it z 0), .dat (it z 1)]) (fun z => .int (intOf (it z 1) + (if (decide (strOf (it z 0) ∈ row) != b) = true then 1 else 0))) t ?_ (by rw [List.length_map, List.length_zip]; omega) (fun H3 s3 z hz => ?_) (fun X2 H3 σ2 z hz t3 E3 => ?_)) rfl) ga_nil) (rf_tuple (K := K) rfl)) ?_) q
    · rw [← zipD_is]
      exact KZ.gi_zipM (g_var (i := 0) (d := wsD ns) En rfl) (g_var (i := 2) (d := cD cs) En rfl)
    · obtain ⟨p, _, rfl⟩ := List.mem_map.mp hz
      exact tgt_pair (En.same s3) (by decide)
    · obtain ⟨p, _, rfl⟩ := List.mem_map.mp hz
      have E3 : EnvOk X2 H3 σ2 [.dat (wsD ns), .dat (asD as), .dat (cD cs), .dat (.int (j : Int)), .dat (.bool b), .dat (.str p.1), .dat (.int (p.2 : Int))] := E3
      refine g_addI t3 (g_var (i := 6) (d := .int (p.2 : Int)) E3 rfl) (g_boolI (b := decide (p.1 ∈ row) != b) (g_is (g_op t3 (g_op t3 (g_var (i := 5) (d := .str p.1) E3 rfl) (g_ixL t3 (g_var (i := 1) (d := asD as) E3 rfl) (g_var (i := 3) (d := .int (j : Int)) E3 rfl) (z := wsD row) (atI_nat (by rw [List.getElem?_map, hrow]; rfl))) (rb_inL (K := K) (neg := false) (d := wsD row) (ns := row) rfl rfl).rd) (g_var (i := 4) (d := .bool b) E3 rfl) (rb_neD (K := K) rfl rfl (shaped_boo _) (shaped_boo _)).rd) ?_))
      rw [eqv_bools]
      rfl
    · rw [List.map_map]
      show PyData.tuple _ = cD _
      unfold cD
      rw [← an_zip]
      rfl
def spMLeft : Sp := fun vs H Q _ => ∃ (X : Addr → Prop) (v1 v2 v3 : V) (ns : List Str) (cs : List Nat) (l : Int), vs = [v1, v2, v3] ∧ Trk X H ∧ DX X H v1 (wsD ns) ∧ DX X H v2 (cD cs) ∧ DX X H v3 (.int l) ∧ ns.length ≤ 1000 ∧
  ∀ w H', Same H H' → DX X H' w (wsD (leftL ns cs l)) → Q w H'
-- HINT _law_m_left zip KZ.pi_zipM
abbrev s__law_m_left : Stmt := topS 38
abbrev n__law_m_left : List Str := ["_law_names", "_law_state", "_law_lies", "_law_name", "_law_many"]
theorem sc__law_m_left : FnScope n__law_m_left ["_law_names", "_law_state", "_law_lies"] (defScope s__law_m_left) := ⟨rfl, rfl, rfl, by decide +kernel, rfl, by decide +kernel, by decide +kernel⟩
theorem ok_m_left {f : Addr} {fd : FuncData} (F : Fun K "_law_m_left" "_law_m_left" s__law_m_left f fd) (T : Bl mg) : FnOk P w K mg base CX0 1 f fd ["_law_names", "_law_state", "_law_lies"] spMLeft := by
  refine F.ok sc__law_m_left (fun vs H Q E h => ?_) (fun cdv A outer s H vs Q E hr h => ?_)
  · obtain ⟨X, v1, v2, v3, ns, cs, l, rfl, _⟩ := h
    rfl
  · obtain ⟨X, v1, v2, v3, ns, cs, l, rfl, t, r1, r2, r3, hl, q⟩ := h
    refine ⟨_, (pss_one (ps_ret (pe_lc (own := [("_law_name", 3), ("_law_many", 4)]) (g := (gTup K 2 (gCons (gName 3) (gCons (gName 4) gNil)))) rfl sc__law_m_left.nd (KZ.pi_zipM (by rfl) T.b_zip (pa_cons (pv 0) (pa_cons (pv 1) pa_nil))) (blkOk_by (N := n__law_m_left) (sc := defScope s__law_m_left) (by decide +kernel)) (fun _ _ _ _ _ => (pg_tup (n := 2) rfl (pgs_cons (pg_name (i := 3) sc__law_m_left.nd rfl (by first | exact Or.inl rfl | exact Or.inr rfl)) (pgs_cons (pg_name (i := 4) sc__law_m_left.nd rfl (by first | exact Or.inl rfl | exact Or.inr rfl)) pgs_nil)))) (fun _ _ _ _ _ => (pts_one (pt_cmpR op_le (pv 4) (pv 2) (nomark _)))) (fun _ _ _ _ _ => (pv 3))))), ?_⟩
    have En : EnvOk X H (L2.start n__law_m_left [v1, v2, v3]) [.dat (wsD ns), .dat (cD cs), .dat (.int l), .un, .un] := env3 (N := n__law_m_left) r1 r2 r3 (by decide)
    refine s_ret (X := X) (g_is (g_lc (ds := (ns.zip cs).map fun p => .tuple [.str p.1, .int (p.2 : Int)]) (Γ2 := fun z => [.dat (wsD ns), .dat (cD cs), .dat (.int l), .dat (it z 0), .dat (it z 1)]) (fun z => decide (intOf (it z 1) ≤ l)) (fun z => it z 0) t ?_ (by rw [List.length_map, List.length_zip]; omega) (fun H3 s3 z hz => ?_) (fun X2 H3 σ2 z hz t3 E3 => ?_) (fun X2 H3 σ2 z hz _ t3 E3 => g_var (i := 3) (d := it z 0) E3 rfl)) ?_) q
    · rw [← zipD_is]
      exact KZ.gi_zipM (g_var (i := 0) (d := wsD ns) En rfl) (g_var (i := 1) (d := cD cs) En rfl)
    · obtain ⟨p, _, rfl⟩ := List.mem_map.mp hz
      exact tgt_pair (En.same s3) (by decide)
    · obtain ⟨p, _, rfl⟩ := List.mem_map.mp hz
      have E3 : EnvOk X2 H3 σ2 [.dat (wsD ns), .dat (cD cs), .dat (.int l), .dat (.str p.1), .dat (.int (p.2 : Int))] := E3
      exact gt_cmpI t3 (g := fun i j => decide (i ≤ j)) (g_var (i := 4) (d := .int (p.2 : Int)) E3 rfl) (g_var (i := 2) (d := .int l) E3 rfl)
    · rw [List.filter_map, List.map_map]
      unfold leftL wsD
      rw [List.map_map]
      rfl
theorem left_zs {ns : List Str} {cs : List Nat} {l : Int} (x : Str) (hx : x ∈ leftL ns cs l) : x ∈ ns := by
  obtain ⟨p, hp, rfl⟩ := List.mem_map.mp hx
  exact (List.of_mem_zip (List.mem_filter.mp hp).1).1
def spIsTree (k : Nat) : Sp := fun vs H Q _ => ∃ (X : Addr → Prop) (v1 v2 v3 v4 v5 : V) (ns : List Str) (as : List (List Str)) (l : Int) (cs : List Nat) (d : PyData), vs = [v1, v2, v3, v4, v5] ∧ Trk X H ∧ DX X H v1 (wsD ns) ∧ DX X H v2 (asD as) ∧ DX X H v3 (.int l) ∧ DX X H v4 (cD cs) ∧ DX X H v5 d ∧ (∀ z ∈ ns, z ∈ sNames) ∧ ns.length ≤ 1000 ∧ as.length ≤ 1000 ∧ cs.length = ns.length ∧ gdD d = true ∧ d.depth < k ∧
  ∀ H', Same H H' → Q (.bl (isTr (msk ns as) ns l k cs d)) H'
-- HINT _law_m_is_tree le (by omega)
end K80

/-! Searches: what is enough, who is never parted. -/
namespace KS
def enB (M : List (List Bool)) (l : Nat) : Nat → List Nat → Bool
  | 0, cs => fnd l cs
  | m + 1, cs => fnd l cs || M.any fun ms => enB M l m (an true cs ms) && enB M l m (an false cs ms)
theorem fnd_cp {l : Nat} {a b : List Nat} (e : cp l a = cp l b) : fnd l a = fnd l b := by unfold fnd; rw [← fw_cp l a, ← fw_cp l b, e]
theorem cp_an2 {l : Nat} {a b : List Nat} (e : cp l a = cp l b) (c : Bool) (ms : List Bool) : cp l (an c a ms) = cp l (an c b ms) := by rw [cp_an, e, ← cp_an]
theorem enB_cp {M : List (List Bool)} {l : Nat} : ∀ (m : Nat) {a b : List Nat}, cp l a = cp l b → enB M l m a = enB M l m b
  | 0, a, b, e => fnd_cp e
  | m + 1, a, b, e => by
    unfold enB
    rw [fnd_cp e]
    congr 1
    congr 1
    funext ms
    rw [enB_cp m (cp_an2 e true ms), enB_cp m (cp_an2 e false ms)]
theorem min_le : ∀ {xs : List Nat} {x : Nat}, x ∈ xs → ∃ y, xs.min? = some y ∧ y ≤ x
  | a :: r, x, h => by
    have key : ∀ (r : List Nat) (a x : Nat), x ∈ a :: r → r.foldl min a ≤ x := fun r => by
      induction r with
      | nil => intro a x h; simp at h; show a ≤ x; omega
      | cons b r ih =>
        intro a x h
        rw [List.foldl_cons]
        rcases List.mem_cons.mp h with rfl | h
        · exact Nat.le_trans (ih (min x b) (min x b) List.mem_cons_self) (Nat.min_le_left _ _)
        · rcases List.mem_cons.mp h with rfl | h
          · exact Nat.le_trans (ih (min a x) (min a x) List.mem_cons_self) (Nat.min_le_right _ _)
          · exact ih (min a b) x (List.mem_cons_of_mem _ h)
    exact ⟨_, rfl, key r a x h⟩
section
variable {M : List (List Bool)} {l n : Nat}
theorem hw_same {f : List Nat → Option Nat} {cs : List Nat} {ms : List Bool} {a b : Nat} (h : ¬ (cp l cs = cp l (an true cs ms) ∨ cp l cs = cp l (an false cs ms))) (ha : f (an true cs ms) = some a) (hb : f (an false cs ms) = some b) : hw f l cs ms = some (max a b) := by
  unfold hw
  rw [if_neg h, ha, hb]
theorem hw_both {f : List Nat → Option Nat} {cs : List Nat} {ms : List Bool} {h : Nat} (e : hw f l cs ms = some h) : ¬ (cp l cs = cp l (an true cs ms) ∨ cp l cs = cp l (an false cs ms)) ∧ ∃ a b, f (an true cs ms) = some a ∧ f (an false cs ms) = some b ∧ max a b = h := by
  unfold hw at e
  split at e
  · cases e
  · rename_i c
    refine ⟨c, ?_⟩
    cases e1 : f (an true cs ms) with
    | none => rw [e1] at e; simp at e
    | some a =>
      cases e2 : f (an false cs ms) with
      | none => rw [e1, e2] at e; simp at e
      | some b =>
        rw [e1, e2] at e
        exact ⟨a, b, rfl, rfl, by simpa using e⟩
/-- both ways lead to an end so soon: so does this asking -/
theorem hh_by (hM : ∀ ms ∈ M, ms.length = n) {cs : List Nat} (hn : cs.length = n) {ms : List Bool} (hms : ms ∈ M) {a b : Nat} (ha : hh M l (an true cs ms) = some a) (hb : hh M l (an false cs ms) = some b) : ∃ h, hh M l cs = some h ∧ h ≤ max a b + 1 := by
  by_cases c : cp l cs = cp l (an true cs ms) ∨ cp l cs = cp l (an false cs ms)
  · rcases c with c | c
    · exact ⟨a, by rw [hh_cp c, ha], by omega⟩
    · exact ⟨b, by rw [hh_cp c, hb], by omega⟩
  · have e := hw_same (f := hh M l) c ha hb
    rw [hh_eq hM hn]
    split
    · exact ⟨0, rfl, Nat.zero_le _⟩
    · obtain ⟨y, h1, h2⟩ := min_le (List.mem_filterMap.mpr ⟨ms, hms, e⟩)
      exact ⟨y + 1, by rw [h1]; rfl, by omega⟩
theorem en_iff (hM : ∀ ms ∈ M, ms.length = n) : ∀ (m : Nat) {cs : List Nat}, cs.length = n → (enB M l m cs = true ↔ ∃ h, hh M l cs = some h ∧ h ≤ m)
  | 0, cs, hn => by
    unfold enB
    rw [hh_eq hM hn]
    constructor
    · intro h
      exact ⟨0, by rw [if_pos h], Nat.le_refl _⟩
    · rintro ⟨h, e, hz⟩
      split at e
      · assumption
      · obtain ⟨x, _, e2⟩ := Option.map_eq_some_iff.mp e
        omega
  | m + 1, cs, hn => by
    have la : ∀ ms ∈ M, ∀ b, (an b cs ms).length = n := fun ms h b => by rw [an_len (by rw [hM ms h, hn]), hn]
    unfold enB
    rw [Bool.or_eq_true, List.any_eq_true]
    constructor
    · rintro (h | ⟨ms, hms, h⟩)
      · exact ⟨0, by rw [hh_eq hM hn, if_pos h], Nat.zero_le _⟩
      · rw [Bool.and_eq_true] at h
        obtain ⟨a, ha, ha2⟩ := (en_iff hM m (la ms hms true)).mp h.1
        obtain ⟨b, hb, hb2⟩ := (en_iff hM m (la ms hms false)).mp h.2
        obtain ⟨h, e1, e2⟩ := hh_by hM hn hms ha hb
        exact ⟨h, e1, by omega⟩
    · rintro ⟨h, e, hle⟩
      rw [hh_eq hM hn] at e
      split at e
      · exact .inl (by assumption)
      · obtain ⟨x, hx, rfl⟩ := Option.map_eq_some_iff.mp e
        obtain ⟨ms, hms, e3⟩ := List.mem_filterMap.mp (List.min?_mem hx)
        obtain ⟨_, a, b, ha, hb, hab⟩ := hw_both e3
        refine .inr ⟨ms, hms, ?_⟩
        rw [Bool.and_eq_true]
        exact ⟨(en_iff hM m (la ms hms true)).mpr ⟨a, ha, by omega⟩, (en_iff hM m (la ms hms false)).mpr ⟨b, hb, by omega⟩⟩
/-! ### never parted -/
/-- two who can be the one, and no asking parts them -/
def Twin (M : List (List Bool)) (l : Nat) (cs : List Nat) : Prop := ∃ i j : Nat, i < j ∧ (∃ c : Nat, cs[i]? = some c ∧ c ≤ l) ∧ (∃ c : Nat, cs[j]? = some c ∧ c ≤ l) ∧ ∀ ms ∈ M, ms[i]? = ms[j]?
theorem an_get {b : Bool} {cs : List Nat} {ms : List Bool} {i c : Nat} {m : Bool} (h1 : cs[i]? = some c) (h2 : ms[i]? = some m) : (an b cs ms)[i]? = some (if m = b then c else c + 1) := by
  unfold an
  rw [List.getElem?_zipWith, h1, h2]
theorem fw_two {cs : List Nat} {i j ci cj : Nat} (hij : i < j) (h1 : cs[i]? = some ci) (l1 : ci ≤ l) (h2 : cs[j]? = some cj) (l2 : cj ≤ l) : 2 ≤ fw l cs := by
  induction cs generalizing i j with
  | nil => cases h1
  | cons c cs ih =>
    unfold fw at ih ⊢
    obtain ⟨j', rfl⟩ : ∃ j', j = j' + 1 := ⟨j - 1, by omega⟩
    rw [List.getElem?_cons_succ] at h2
    cases i with
    | zero =>
      rw [List.getElem?_cons_zero] at h1
      cases h1
      rw [List.filter_cons_of_pos (by simpa using l1), List.length_cons]
      have hm : cj ∈ cs.filter fun c => decide (c ≤ l) := List.mem_filter.mpr ⟨List.mem_of_getElem? h2, by simpa using l2⟩
      have := List.length_pos_of_mem hm
      omega
    | succ i' =>
      rw [List.getElem?_cons_succ] at h1
      have := ih (by omega) h1 h2
      rw [List.filter_cons]
      split
      · rw [List.length_cons]
        omega
      · exact this
theorem twin_none (hM : ∀ ms ∈ M, ms.length = n) : ∀ (k : Nat) {cs : List Nat}, cs.length = n → Twin M l cs → hF M l k cs = none
  | k, cs, hn, ⟨i, j, hij, ⟨ci, h1, l1⟩, ⟨cj, h2, l2⟩, hs⟩ => by
    have nf : fnd l cs = false := by
      unfold fnd
      have := fw_two hij h1 l1 h2 l2
      exact decide_eq_false (by omega)
    cases k with
    | zero => unfold hF; rw [nf]; rfl
    | succ k =>
      unfold hF
      rw [nf]
      have e : M.filterMap (hw (hF M l k) l cs) = [] := by
        refine List.filterMap_eq_nil_iff.mpr fun ms hms => ?_
        have lms := hM ms hms
        have hi : i < ms.length := by rw [lms, ← hn]; exact (List.getElem?_eq_some_iff.mp h1).1
        have hj : j < ms.length := by rw [lms, ← hn]; exact (List.getElem?_eq_some_iff.mp h2).1
        have e1 : ms[i]? = some ms[i] := List.getElem?_eq_getElem hi
        have e2 : ms[j]? = some ms[i] := by rw [← hs ms hms, e1]
        have tw : Twin M l (an ms[i] cs ms) := ⟨i, j, hij, ⟨ci, by rw [an_get h1 e1, if_pos rfl], l1⟩, ⟨cj, by rw [an_get h2 e2, if_pos rfl], l2⟩, hs⟩
        have ih := twin_none hM k (by rw [an_len (by rw [lms, hn]), hn]) tw
        unfold hw
        split
        · rfl
        · cases hb : ms[i] with
          | true => rw [hb] at ih; rw [ih]
          | false =>
            rw [hb] at ih
            rw [ih]
            cases hF M l k (an true cs ms) <;> rfl
      rw [e]
      rfl
theorem two_of {cs : List Nat} (h : 2 ≤ fw l cs) : ∃ i j : Nat, i < j ∧ (∃ c : Nat, cs[i]? = some c ∧ c ≤ l) ∧ ∃ c : Nat, cs[j]? = some c ∧ c ≤ l := by
  induction cs with
  | nil => simp [fw] at h
  | cons c cs ih =>
    unfold fw at ih h
    rw [List.filter_cons] at h
    by_cases hc : c ≤ l
    · rw [if_pos (by simpa using hc), List.length_cons] at h
      have hp : 0 < (cs.filter fun c => decide (c ≤ l)).length := by omega
      obtain ⟨d, hd⟩ := List.exists_mem_of_length_pos hp
      obtain ⟨h1, h2⟩ := List.mem_filter.mp hd
      obtain ⟨j, hj⟩ := List.mem_iff_getElem?.mp h1
      exact ⟨0, j + 1, by omega, ⟨c, rfl, hc⟩, ⟨d, by rw [List.getElem?_cons_succ]; exact hj, by simpa using h2⟩⟩
    · rw [if_neg (by simpa using hc)] at h
      obtain ⟨i, j, hij, ⟨a, ha, la⟩, ⟨b, hb, lb⟩⟩ := ih h
      exact ⟨i + 1, j + 1, by omega, ⟨a, by rw [List.getElem?_cons_succ]; exact ha, la⟩, ⟨b, by rw [List.getElem?_cons_succ]; exact hb, lb⟩⟩
theorem cp_moves {b : Bool} {cs : List Nat} {ms : List Bool} {i c : Nat} {m : Bool} (h1 : cs[i]? = some c) (lc : c ≤ l) (h2 : ms[i]? = some m) (hm : m ≠ b) : cp l cs ≠ cp l (an b cs ms) := fun e => by
  have e1 : (cp l cs)[i]? = some (min c (l + 1)) := by unfold cp; rw [List.getElem?_map, h1]; rfl
  have e2 : (cp l (an b cs ms))[i]? = some (min (c + 1) (l + 1)) := by unfold cp; rw [List.getElem?_map, an_get h1 h2, if_neg hm]; rfl
  rw [e, e2] at e1
  have e1 : min (c + 1) (l + 1) = min c (l + 1) := by simpa using e1
  omega
theorem hh_some (hM : ∀ ms ∈ M, ms.length = n) : ∀ (k : Nat) {cs : List Nat}, cs.length = n → mu l cs ≤ k → ¬ Twin M l cs → ∃ h, hh M l cs = some h
  | k, cs, hn, hk, ht => by
    by_cases hf : fnd l cs = true
    · exact ⟨0, by rw [hh_eq hM hn, if_pos hf]⟩
    · have h2 : 2 ≤ fw l cs := by
        unfold fnd at hf
        have := of_decide_eq_false (Bool.eq_false_iff.mpr hf)
        omega
      obtain ⟨i, j, hij, ⟨ci, h1, l1⟩, ⟨cj, hj, l2⟩⟩ := two_of h2
      have hne : ¬ ∀ ms ∈ M, ms[i]? = ms[j]? := fun z => ht ⟨i, j, hij, ⟨ci, h1, l1⟩, ⟨cj, hj, l2⟩, z⟩
      obtain ⟨ms, hms⟩ := Classical.not_forall.mp hne
      obtain ⟨hms, hp⟩ := Classical.not_imp.mp hms
      have lms : ms.length = cs.length := by rw [hM ms hms, hn]
      have ii : i < ms.length := by rw [lms]; exact (List.getElem?_eq_some_iff.mp h1).1
      have jj : j < ms.length := by rw [lms]; exact (List.getElem?_eq_some_iff.mp hj).1
      have e1 : ms[i]? = some ms[i] := List.getElem?_eq_getElem ii
      have e2 : ms[j]? = some ms[j] := List.getElem?_eq_getElem jj
      have nb : ms[i] ≠ ms[j] := fun z => hp (by rw [e1, e2, z])
      have mv : ∀ b, cp l cs ≠ cp l (an b cs ms) := fun b => by
        by_cases hb : ms[i] = b
        · exact cp_moves hj l2 e2 (fun z => nb (hb.trans z.symm))
        · exact cp_moves h1 l1 e1 hb
      have sub : ∀ b, ¬ Twin M l (an b cs ms) := fun b ⟨p, q, hpq, ⟨c1, x1, y1⟩, ⟨c2, x2, y2⟩, z⟩ => by
        have dn : ∀ {p c : Nat}, (an b cs ms)[p]? = some c → c ≤ l → ∃ c', cs[p]? = some c' ∧ c' ≤ l := fun {p c} x y => by
          unfold an at x
          rw [List.getElem?_zipWith] at x
          cases u : cs[p]? with
          | none => rw [u] at x; simp at x
          | some c' =>
            cases v : ms[p]? with
            | none => rw [u, v] at x; simp at x
            | some m =>
              rw [u, v] at x
              have x : (if m = b then c' else c' + 1) = c := by simpa using x
              refine ⟨c', rfl, ?_⟩
              split at x <;> omega
        exact ht ⟨p, q, hpq, dn x1 y1, dn x2 y2, z⟩
      have key : ∀ b, ∃ h, hh M l (an b cs ms) = some h := fun b => by
        have lt := mu_lt lms (mv b)
        cases k with
        | zero => omega
        | succ k => exact hh_some hM k (by rw [an_len lms, hn]) (by omega) (sub b)
      obtain ⟨a, ha⟩ := key true
      obtain ⟨b, hb⟩ := key false
      obtain ⟨h, e, _⟩ := hh_by hM hn hms ha hb
      exact ⟨h, e⟩
/-- the height is none just where two are never parted -/
theorem hh_none (hM : ∀ ms ∈ M, ms.length = n) {cs : List Nat} (hn : cs.length = n) : hh M l cs = none ↔ Twin M l cs := by
  constructor
  · intro h
    refine Classical.byContradiction fun z => ?_
    obtain ⟨a, e⟩ := hh_some hM (mu l cs) hn (Nat.le_refl _) z
    rw [h] at e
    cases e
  · exact fun h => twin_none hM _ hn h
/-- the first asking whose two ways both end in time is the one that is next -/
theorem nxt_by (hM : ∀ ms ∈ M, ms.length = n) {cs : List Nat} (hn : cs.length = n) {h : Nat} (e : hh M l cs = some (h + 1)) {i : Nat} {ms : List Bool} (hi : M[i]? = some ms) : hw (hh M l) l cs ms = some h ↔ (enB M l h (an true cs ms) = true ∧ enB M l h (an false cs ms) = true) := by
  have hms : ms ∈ M := List.mem_of_getElem? hi
  have lms : ms.length = cs.length := by rw [hM ms hms, hn]
  have la : ∀ b, (an b cs ms).length = n := fun b => by rw [an_len lms, hn]
  constructor
  · intro q
    obtain ⟨_, a, b, ha, hb, hab⟩ := hw_both q
    exact ⟨(en_iff hM h (la true)).mpr ⟨a, ha, by omega⟩, (en_iff hM h (la false)).mpr ⟨b, hb, by omega⟩⟩
  · rintro ⟨q1, q2⟩
    obtain ⟨a, ha, a2⟩ := (en_iff hM h (la true)).mp q1
    obtain ⟨b, hb, b2⟩ := (en_iff hM h (la false)).mp q2
    by_cases c : cp l cs = cp l (an true cs ms) ∨ cp l cs = cp l (an false cs ms)
    · rcases c with c | c
      · rw [hh_cp c, ha] at e
        have : a = h + 1 := by simpa using e
        omega
      · rw [hh_cp c, hb] at e
        have : b = h + 1 := by simpa using e
        omega
    · have e2 := hw_same (f := hh M l) c ha hb
      obtain ⟨h', e3, _⟩ := hh_by hM hn hms ha hb
      rw [e] at e3
      have e3 : h + 1 = h' := by simpa using e3
      have : max a b = h := by omega
      rw [e2, this]
end
end KS

/-! A dict whose keys are tuples, with tuples in them. -/
namespace KDN
open PySem PySem.W PySem.Spec PyProof.Rows L2 KD
abbrev Ent := NestedKey × Addr × V
def lookN (kvs : List Ent) (k : NestedKey) : Option V := (kvs.find? fun x => decide (x.1 = k)).map (·.2.2)
def putN (kvs : List Ent) (k : NestedKey) (b : Addr) (v : V) : List Ent := if (lookN kvs k).isSome = true then kvs.map (fun x => if x.1 = k then (x.1, x.2.1, v) else x) else kvs ++ [(k, b, v)]
abbrev KN : List Ent → List (NestedKey × Addr × Value) → Prop := Paired fun p q => p.1 = q.1 ∧ p.2.1 = q.2.1 ∧ RelV p.2.2 q.2.2
theorem lookN_pos {p : Ent} {r : List Ent} {k : NestedKey} (e : p.1 = k) : lookN (p :: r) k = some p.2.2 := by simp [lookN, List.find?_cons, e]
theorem lookN_neg {p : Ent} {r : List Ent} {k : NestedKey} (e : ¬ p.1 = k) : lookN (p :: r) k = lookN r k := by simp [lookN, List.find?_cons, e]
theorem KN.val {kvs : List Ent} {xs : List (NestedKey × Addr × Value)} (r : KN kvs xs) (k : NestedKey) : RelO (lookN kvs k) ((atKey xs k).map (·.2)) := by
  induction r with
  | nil => exact True.intro
  | @cons p q ps qs h t ih =>
    obtain ⟨h1, _, h2⟩ := h
    by_cases e : p.1 = k
    · have e' : q.1 = k := h1.symm.trans e
      have b : atKey (q :: qs) k = some q.2 := by simp [atKey, List.find?_cons, e']
      rw [lookN_pos e, b]
      exact h2
    · have e' : ¬ q.1 = k := fun z => e (h1.trans z)
      have b : atKey (q :: qs) k = atKey qs k := by simp [atKey, List.find?_cons, e']
      rw [lookN_neg e, b]
      exact ih
theorem KN.some {kvs : List Ent} {xs : List (NestedKey × Addr × Value)} (r : KN kvs xs) (k : NestedKey) : (lookN kvs k).isSome = (atKey xs k).isSome := by
  rw [(r.val k).isSome_eq, Option.isSome_map]
theorem KN.repl {kvs : List Ent} {xs : List (NestedKey × Addr × Value)} (r : KN kvs xs) (k : NestedKey) {y : V} {u : Value} (ry : RelV y u) : KN (kvs.map fun x => if x.1 = k then (x.1, x.2.1, y) else x) (xs.map (putAt k u)) := by
  induction r with
  | nil => exact .nil
  | @cons p q ps qs h t ih =>
    rw [List.map_cons, List.map_cons]
    refine .cons ?_ ih
    obtain ⟨h1, h2, h3⟩ := h
    unfold putAt
    by_cases e : p.1 = k
    · rw [if_pos e, if_pos (h1.symm.trans e)]
      exact ⟨h1, h2, ry⟩
    · rw [if_neg e, if_neg (fun z => e (h1.trans z))]
      exact ⟨h1, h2, h3⟩
theorem KN.put {kvs : List Ent} {xs : List (NestedKey × Addr × Value)} (r : KN kvs xs) (k : NestedKey) (b : Addr) {y : V} {u : Value} (ry : RelV y u) : KN (putN kvs k b y) (storedH xs k b u) := by
  unfold putN storedH
  rw [r.some k]
  by_cases q : (atKey xs k).isSome = true
  · rw [if_pos q, if_pos q]
    exact r.repl k ry
  · rw [if_neg q, if_neg q]
    exact Paired.snoc r ⟨rfl, rfl, ry⟩
theorem putN_len (kvs : List Ent) (k : NestedKey) (b : Addr) (v : V) : (putN kvs k b v).length ≤ kvs.length + 1 := by
  unfold putN
  split
  · rw [List.length_map]
    omega
  · simp
/-- the dict's object -/
def DN (P : Program) (w : World) (a : Addr) (kvs : List Ent) : HO := .ext fun h => (a == sysModules) = false ∧ kvs.length ≤ sizeLine ∧ ∃ xs, KN kvs xs ∧ ∃ o es ep, h.get? a = some o ∧ o.ExactDict ∧ o.data = .dict es ep ∧ es.toList = xs.map (entryOfKey (nestedKind P w)) ∧ (xs.map (·.1)).Nodup
section
variable {P : Program} {w : World} {H : Hp} {h : Heap} {a : Addr} {kvs : List Ent}
theorem dn_ok {P' : Program} {w' : World} (hd : (a == sysModules) = false) (hl : kvs.length ≤ sizeLine) {xs : List (NestedKey × Addr × Value)} (r : KN kvs xs) (q : ∃ o es ep, h.get? a = some o ∧ o.ExactDict ∧ o.data = .dict es ep ∧ es.toList = xs.map (entryOfKey (nestedKind P w)) ∧ (xs.map (·.1)).Nodup) : ObjOk P' w' H h a (DN P w a kvs) := by
  obtain ⟨o, es, ep, e, q⟩ := q
  refine ⟨⟨hd, hl, xs, r, o, es, ep, e, q⟩, ⟨o, e⟩, fun h1 h2 p k => ?_⟩
  obtain ⟨p1, p2, ys, p3, o', es', ep', p4, p5⟩ := p
  exact ⟨p1, p2, ys, p3, o', es', ep', k _ p4, p5⟩
mutual
/-- data that is a key -/
theorem nk_is {X : Addr → Prop} (ok : HOk P w H h) : ∀ (k : NestedKey) {v : V} {u : Value}, DX X H v k.data → RelV v u → NestedIs h k u
  | .none, v, u, d, r => by
    rw [NestedKey.data] at d
    cases d
    rw [show u = Value.none from r]
    exact .none
  | .num i, v, u, d, r => by
    rw [NestedKey.data] at d
    cases d
    obtain ⟨t, rfl⟩ := (show ∃ t, u = Value.int i t from r)
    exact .int i t
  | .text x, v, u, d, r => by
    rw [NestedKey.data] at d
    cases d
    obtain ⟨t, rfl⟩ := (show ∃ t, u = Value.str x t from r)
    exact .text x t
  | .tup ks, v, u, d, r => by
    rw [NestedKey.data] at d
    obtain ⟨a, xs, rfl, na, ea, rx⟩ := d.tup_inv
    rw [show u = Value.ref a from r]
    obtain ⟨_, its, rv, o, h1, h2, n, h3⟩ := (show ObjOk P w H h a (.tup xs) from ok a _ ea)
    exact .tup h1 h2 h3 (by simpa using nk_all ok ks rx rv)
theorem nk_all {X : Addr → Prop} (ok : HOk P w H h) : ∀ (ks : List NestedKey) {vs : List V} {us : List Value}, DXs X H vs (NestedKey.datas ks) → Vals vs us → NestedAll h ks us
  | [], vs, us, d, r => by
    rw [NestedKey.datas] at d
    cases d
    cases r
    exact .nil
  | k :: ks, vs, us, d, r => by
    rw [NestedKey.datas] at d
    cases d with
    | cons d1 d2 =>
      cases r with
      | cons r1 r2 => exact .cons (nk_is ok k d1 r1) (nk_all ok ks d2 r2)
end
/-- the tuple at b is the key k -/
def KeyAt (H : Hp) (k : NestedKey) (b : Addr) : Prop := (∃ X : Addr → Prop, DX X H (.ref b) k.data) ∧ k.depth ≤ 8
theorem KeyAt.is (q : KeyAt H k b) (ok : HOk P w H h) : (nestedKind P w).is h k b := by
  obtain ⟨⟨X, d⟩, l⟩ := q
  exact ⟨nk_is ok k d rfl, l⟩
def Keys (H : Hp) (kvs : List Ent) : Prop := ∀ x ∈ kvs, KeyAt H x.1 x.2.1
theorem dn_at (ok : HOk P w H h) (e : H a = some (DN P w a kvs)) (K : Keys H kvs) : (a == sysModules) = false ∧ kvs.length ≤ sizeLine ∧ ∃ xs, KN kvs xs ∧ h.DictOfH (nestedKind P w) a xs := by
  obtain ⟨⟨p1, p2, xs, r, o, es, ep, h1, h2, h3, h4, h5⟩, _⟩ := (show ObjOk P w H h a (DN P w a kvs) from ok a _ e)
  refine ⟨p1, p2, xs, r, o, es, ep, h1, h2, h3, h4, fun x hx => ?_, h5⟩
  have all : ∀ {l : List Ent} {m : List (NestedKey × Addr × Value)}, KN l m → (∀ x ∈ l, KeyAt H x.1 x.2.1) → ∀ x ∈ m, (nestedKind P w).is h x.1 x.2.1 := by
    intro l m q
    induction q with
    | nil => intro _ x hx; exact nomatch hx
    | @cons p q ps qs hq t ih =>
      intro K x hx
      rcases List.mem_cons.mp hx with e | hx
      · subst e
        have := K p List.mem_cons_self
        rw [← hq.1, ← hq.2.1]
        exact this.is ok
      · exact ih (fun y hy => K y (List.mem_cons_of_mem _ hy)) x hx
  exact all r K x hx
end
/-- what the dict at a holds at the key y -/
def NGet (P : Program) (w : World) (H : Hp) (a : Addr) (y : V) (r : Option V) : Prop := ∃ kvs k b, H a = some (DN P w a kvs) ∧ Keys H kvs ∧ y = .ref b ∧ KeyAt H k b ∧ r = lookN kvs k
def NPut (P : Program) (w : World) (H : Hp) (a : Addr) (y v : V) (H' : Hp) : Prop := ∃ kvs k b, H a = some (DN P w a kvs) ∧ Keys H kvs ∧ y = .ref b ∧ KeyAt H k b ∧ kvs.length < sizeLine ∧ H' = upd H a (DN P w a (putN kvs k b v))
section
variable {X : Cx} {pins : List (Addr × Obj)} {σ : L2.St} {H : Hp} {s : Shared} {a : Addr} {y v : V} {u r : Value} {o : Option V} {A : Around} {E : Value → Shared → Prop}
theorem n_room (hu : A.units + 9 < cLine) : (nestedKind X.prog X.w).room A.in1 := by
  show A.in1.units + 8 < cLine
  show A.units + 1 + 8 < cLine
  omega
theorem n_getItem {Q : Value → Shared → Prop} (hu : A.units + 9 < cLine) (I : Inv X pins σ H s) (g : NGet X.prog X.w H a y (some v)) (ry : RelV y u) (h : ∀ w' s', Inv X pins σ H s' → RelV v w' → Q w' s') : wpAny (model X.prog X.w) A (getItem (.ref a) u) Q E s := by
  obtain ⟨kvs, k, b, e, K, rfl, kb, l⟩ := g
  cases (show u = Value.ref b from ry)
  obtain ⟨_, _, xs, rel, dd⟩ := dn_at I.hok e K
  obtain ⟨w', hw, rw'⟩ := RelO.some_of (v := v) (o := (atKey xs k).map (·.2)) (by rw [l]; exact rel.val k)
  obtain ⟨p, hp, hp2⟩ := Option.map_eq_some_iff.mp hw
  refine wpAny_getItem_heap (n_room hu) (kb.is I.hok) dd hp ?_
  rw [hp2]
  exact h w' _ (I.tok _) rw'
theorem n_in {Q : Value → Shared → Prop} (hu : A.units + 9 < cLine) (I : Inv X pins σ H s) (g : NGet X.prog X.w H a y o) (ry : RelV y u) (h : ∀ s', Inv X pins σ H s' → Q (.bool o.isSome) s') : wpAny (model X.prog X.w) A (compareOp .In u (.ref a)) Q E s := by
  obtain ⟨kvs, k, b, e, K, rfl, kb, l⟩ := g
  cases (show u = Value.ref b from ry)
  obtain ⟨hd, _, xs, rel, dd⟩ := dn_at I.hok e K
  refine wpAny_in_heap (n_room hu) (kb.is I.hok) hd dd ?_
  rw [← rel.some k, ← l]
  exact h _ (I.tok _)
theorem n_notIn {Q : Value → Shared → Prop} (hu : A.units + 9 < cLine) (I : Inv X pins σ H s) (g : NGet X.prog X.w H a y o) (ry : RelV y u) (h : ∀ s', Inv X pins σ H s' → Q (.bool (!o.isSome)) s') : wpAny (model X.prog X.w) A (compareOp .NotIn u (.ref a)) Q E s := by
  obtain ⟨kvs, k, b, e, K, rfl, kb, l⟩ := g
  cases (show u = Value.ref b from ry)
  obtain ⟨hd, _, xs, rel, dd⟩ := dn_at I.hok e K
  refine wpAny_notIn_heap (n_room hu) (kb.is I.hok) hd dd ?_
  rw [← rel.some k, ← l]
  exact h _ (I.tok _)
theorem n_setItem {H' : Hp} {Q : Unit → Shared → Prop} (hu : A.units + 9 < cLine) (I : Inv X pins σ H s) (g : NPut X.prog X.w H a y v H') (ry : RelV y u) (rv : RelV v r) (h : ∀ s', Inv X pins σ H' s' → Q () s') : wpAny (model X.prog X.w) A (setItem (.ref a) u r) Q E s := by
  obtain ⟨kvs, k, b, e, K, rfl, kb, l, rfl⟩ := g
  cases (show u = Value.ref b from ry)
  obtain ⟨hd, z, xs, rel, dd⟩ := dn_at I.hok e K
  have hz : xs.length ≤ sizeLine := by rw [← Paired.length rel]; exact z
  have hl : (putN kvs k b v).length ≤ sizeLine := by have := putN_len kvs k b v; omega
  refine wpAny_setItem_heap (hsz := hz) (n_room hu) (kb.is I.hok) dd fun h' dd' hs => h _ ?_
  obtain ⟨q, es, ep, hq, h2, h3, h4, _, h5⟩ := dd'
  exact d_write I (by rw [e]; exact True.intro) hs ⟨q, hq⟩ (dn_ok hd hl (rel.put k b rv) ⟨q, es, ep, hq, h2, h3, h4, h5⟩)
end
/-! ### readings and rules -/
def tNGet (P : Program) (w : World) (td ty : TE) : TE := fun σ H Q => td σ H fun x H1 => ty σ H1 fun y H2 => ∃ a v, x = .ref a ∧ NGet P w H2 a y (some v) ∧ Q v H2
def tNNotIn (P : Program) (w : World) (ty td : TE) : TE := fun σ H Q => ty σ H fun y H1 => td σ H1 fun x H2 => ∃ a o, x = .ref a ∧ NGet P w H2 a y o ∧ Q (.bl (!o.isSome)) H2
def sNPut (P : Program) (w : World) (td ty tv : TE) : TS := fun D σ H => tv σ H fun v H1 => td σ H1 fun x H2 => ty σ H2 fun y H3 => ∃ a H4, x = .ref a ∧ NPut P w H3 a y v H4 ∧ D.nx σ H4
def tNNew (P : Program) (w : World) : TE := fun _ H Q => ∀ p, H p = none → Q (.ref p) (upd H p (DN P w p []))
section
variable {X : Cx} {o i e value : Expr} {pos pos' tpos : Pos} {td ty tv : TE}
theorem dn_type {pins : List (Addr × Obj)} {σ : L2.St} {H : Hp} {s : Shared} {a : Addr} {y : V} {o : Option V} (I : Inv X pins σ H s) (g : NGet X.prog X.w H a y o) : s.TypeIs (.ref a) "dict" := by
  obtain ⟨kvs, k, b, e, K, _⟩ := g
  obtain ⟨_, _, xs, _, dd⟩ := dn_at I.hok e K
  exact dd.typeIs
theorem pe_nget (hu : X.A.units + 9 < cLine) (ho : PE X o td) (hi : PE X i ty) (hs : NoSl i) : PE X (.Subscript o i pos) (tNGet X.prog X.w td ty) := by
  refine ⟨fun pins s σ H Q I h => ?_⟩
  refine subD_of PySem.F.slot_dict_getitem.lookup hs (thn (ho.run pins s σ H _ I h) fun u s1 ⟨x, H1, I1, rx, q1⟩ => thn (hi.run pins s1 σ H1 _ I1 q1) fun iv s2 ⟨y, H2, I2, ry, a, v, ex, g, q2⟩ => ?_)
  subst ex
  obtain rfl : u = Value.ref a := rx
  exact ⟨dn_type I2 g, n_getItem hu I2 g ry fun w' s3 I3 rw' => ⟨v, H2, I3, rw', q2⟩⟩
theorem pc_nnotin (hu : X.A.units + 9 < cLine) (hi : PE X i ty) (ho : PE X o td) : PC X .NotIn i o (tNNotIn X.prog X.w ty td) := by
  refine ⟨fun pins s σ H Q I h => ?_⟩
  refine thn (hi.run pins s σ H _ I h) fun iv s1 ⟨y, H1, I1, ry, q1⟩ => thn (ho.run pins s1 σ H1 _ I1 q1) fun u s2 ⟨x, H2, I2, rx, a, ov, ex, g, q2⟩ => ?_
  subst ex
  obtain rfl : u = Value.ref a := rx
  exact n_notIn hu I2 g ry fun s3 I3 => ⟨.bl (!ov.isSome), H2, I3, rfl, q2⟩
theorem ps_nput (hu : X.A.units + 9 < cLine) (ho : PE X o td) (hi : PE X i ty) (hv : PE X value tv) (hs : swapsWith value (some (.Subscript o i pos')) pos.line X.env = pure false) : PS X (.Assign [.Subscript o i pos'] value pos) (sNPut X.prog X.w td ty tv) := by
  refine ⟨fun pins s σ H D I h => ?_⟩
  refine wpAny_Assign_Subscript (thn (hv.run pins s σ H _ I h) fun r s1 ⟨v, H1, I1, rv, q1⟩ => thn (ho.run pins s1 σ H1 _ I1 q1) fun u s2 ⟨x, H2, I2, rx, q2⟩ => thn (hi.run pins s2 σ H2 _ I2 q2) fun iv s3 ⟨y, H3, I3, ry, a, H4, ex, g, q3⟩ => ?_) hs
  subst ex
  obtain rfl : u = Value.ref a := rx
  exact n_setItem hu I3 g ry rv fun s4 I4 => ⟨σ, H4, I4, q3⟩
theorem pe_dnewN : PE X (.Dict [] [] pos) (tNNew X.prog X.w) := ⟨fun pins s σ H Q I h =>
  wpAny_Dict_empty ⟨.ref s.heap.objs.size, _, I.laid (a := s.heap.objs.size) (o := DN X.prog X.w s.heap.objs.size []) (t' := s.toks) (fun _ _ q => Heap.get?_push_of_some _ q) (Nat.le_refl _)
    (dn_ok (beq_eq_false_iff_ne.mpr (Ne.symm (Nat.ne_of_lt I.big))) (Nat.zero_le _) .nil ⟨_, #[], 0, Heap.get?_push_size _ rfl, ⟨rfl, rfl, rfl⟩, rfl, rfl, List.nodup_nil⟩), rfl, h _ (I.hok.fresh (Nat.le_refl _))⟩⟩
end
theorem hu9 {k : Nat} {A : Around} (hr : Room k A) : A.units + 9 < cLine := by have := hr.un; omega
/-! ### keys in the heap of readings -/
mutual
def NkV (H : Hp) : NestedKey → V → Prop
  | .none, v => v = .non
  | .num i, v => v = .int i
  | .text x, v => v = .str x
  | .tup ks, v => ∃ a xs, v = .ref a ∧ H a = some (.tup xs) ∧ NkAll H ks xs
def NkAll (H : Hp) : List NestedKey → List V → Prop
  | [], vs => vs = []
  | k :: ks, vs => ∃ v r, vs = v :: r ∧ NkV H k v ∧ NkAll H ks r
end
/-- the tuples stay -/
def Tk (H H' : Hp) : Prop := ∀ a xs, H a = some (.tup xs) → H' a = some (.tup xs)
mutual
theorem NkV.keep {H H' : Hp} (t : Tk H H') : ∀ {k : NestedKey} {v : V}, NkV H k v → NkV H' k v
  | .none, _, h => h
  | .num _, _, h => h
  | .text _, _, h => h
  | .tup ks, _, ⟨a, xs, e, h1, h2⟩ => ⟨a, xs, e, t a xs h1, NkAll.keep t h2⟩
theorem NkAll.keep {H H' : Hp} (t : Tk H H') : ∀ {ks : List NestedKey} {vs : List V}, NkAll H ks vs → NkAll H' ks vs
  | [], _, h => h
  | _ :: _, _, ⟨v, r, e, h1, h2⟩ => ⟨v, r, e, NkV.keep t h1, NkAll.keep t h2⟩
end
mutual
theorem NkV.dx {H : Hp} : ∀ {k : NestedKey} {v : V}, NkV H k v → DX (fun _ => False) H v k.data
  | .none, _, h => by rw [show _ = V.non from h, NestedKey.data]; exact .non
  | .num i, _, h => by rw [show _ = V.int i from h, NestedKey.data]; exact .int i
  | .text x, _, h => by rw [show _ = V.str x from h, NestedKey.data]; exact .str x
  | .tup ks, _, ⟨a, xs, e, h1, h2⟩ => by rw [e, NestedKey.data]; exact .tup (fun z => z) h1 (NkAll.dx h2)
theorem NkAll.dx {H : Hp} : ∀ {ks : List NestedKey} {vs : List V}, NkAll H ks vs → DXs (fun _ => False) H vs (NestedKey.datas ks)
  | [], _, h => by rw [show _ = [] from h, NestedKey.datas]; exact .nil
  | _ :: _, _, ⟨v, r, e, h1, h2⟩ => by rw [e, NestedKey.datas]; exact .cons (NkV.dx h1) (NkAll.dx h2)
end
mutual
theorem nkv_of {X : Addr → Prop} {H : Hp} : ∀ {k : NestedKey} {v : V}, DX X H v k.data → NkV H k v
  | .none, _, h => by rw [NestedKey.data] at h; cases h; exact rfl
  | .num i, _, h => by rw [NestedKey.data] at h; cases h; exact rfl
  | .text x, _, h => by rw [NestedKey.data] at h; cases h; exact rfl
  | .tup ks, _, h => by
    rw [NestedKey.data] at h
    obtain ⟨a, xs, e, _, ea, rx⟩ := h.tup_inv
    exact ⟨a, xs, e, ea, nkall_of rx⟩
theorem nkall_of {X : Addr → Prop} {H : Hp} : ∀ {ks : List NestedKey} {vs : List V}, DXs X H vs (NestedKey.datas ks) → NkAll H ks vs
  | [], _, h => by rw [NestedKey.datas] at h; cases h; exact rfl
  | _ :: _, _, h => by
    rw [NestedKey.datas] at h
    cases h with
    | cons h1 h2 => exact ⟨_, _, rfl, nkv_of h1, nkall_of h2⟩
end
theorem keyAt_of {H : Hp} {k : NestedKey} {b : Addr} (h : NkV H k (.ref b)) (l : k.depth ≤ 8) : KeyAt H k b := ⟨⟨_, h.dx⟩, l⟩
theorem lookN_put_same (kvs : List Ent) (k : NestedKey) (b : Addr) (v : V) : lookN (putN kvs k b v) k = some v := by
  unfold putN
  by_cases h : (lookN kvs k).isSome = true
  · rw [if_pos h]
    induction kvs with
    | nil => cases h
    | cons p r ih =>
      rw [List.map_cons]
      by_cases e : p.1 = k
      · rw [if_pos e]
        exact lookN_pos e
      · rw [if_neg e, lookN_neg e]
        rw [lookN_neg e] at h
        exact ih h
  · rw [if_neg h]
    have h0 : lookN kvs k = none := by cases e : lookN kvs k with
      | none => rfl
      | some x => rw [e] at h; exact absurd rfl h
    clear h
    have h := h0
    clear h0
    induction kvs with
    | nil => exact lookN_pos rfl
    | cons p r ih =>
      have e : ¬ p.1 = k := fun z => by rw [lookN_pos z] at h; cases h
      rw [lookN_neg e] at h
      show lookN (p :: (r ++ [(k, b, v)])) k = _
      rw [lookN_neg e]
      exact ih h
theorem lookN_put_other {kvs : List Ent} {k j : NestedKey} {b : Addr} {v : V} (hj : j ≠ k) : lookN (putN kvs k b v) j = lookN kvs j := by
  unfold putN
  split
  · rename_i q
    clear q
    induction kvs with
    | nil => rfl
    | cons p r ih =>
      rw [List.map_cons]
      by_cases e : p.1 = k
      · rw [if_pos e]
        have n1 : ¬ (p.1, p.2.1, v).1 = j := fun z => hj (z.symm.trans e)
        have n2 : ¬ p.1 = j := n1
        rw [lookN_neg n1, lookN_neg n2]
        exact ih
      · rw [if_neg e]
        by_cases e2 : p.1 = j
        · rw [lookN_pos e2, lookN_pos e2]
        · rw [lookN_neg e2, lookN_neg e2]
          exact ih
  · rename_i q
    clear q
    induction kvs with
    | nil => exact lookN_neg fun z => hj z.symm
    | cons p r ih =>
      show lookN (p :: (r ++ [(k, b, v)])) j = _
      by_cases e2 : p.1 = j
      · rw [lookN_pos e2, lookN_pos e2]
      · rw [lookN_neg e2, lookN_neg e2]
        exact ih
theorem lookN_none {kvs : List Ent} {k : NestedKey} (h : lookN kvs k = none) : k ∉ kvs.map (·.1) := by
  induction kvs with
  | nil => simp
  | cons p r ih =>
    by_cases e : p.1 = k
    · rw [lookN_pos e] at h
      cases h
    · rw [lookN_neg e] at h
      rw [List.map_cons, List.mem_cons]
      exact fun z => z.elim (fun z => e z.symm) (ih h)
theorem putN_keys (kvs : List Ent) (k : NestedKey) (b : Addr) (v : V) : (putN kvs k b v).map (·.1) = if (lookN kvs k).isSome = true then kvs.map (·.1) else kvs.map (·.1) ++ [k] := by
  unfold putN
  split
  · rw [List.map_map]
    refine List.map_congr_left fun x _ => ?_
    show (if x.1 = k then (x.1, x.2.1, v) else x).1 = x.1
    split <;> rfl
  · rw [List.map_append]
    rfl
theorem putN_mem {kvs : List Ent} {k : NestedKey} {b : Addr} {v : V} {x : Ent} (h : x ∈ putN kvs k b v) : (∃ y ∈ kvs, x.1 = y.1 ∧ x.2.1 = y.2.1) ∨ (x.1 = k ∧ x.2.1 = b) := by
  unfold putN at h
  split at h
  · obtain ⟨y, hy, e⟩ := List.mem_map.mp h
    refine .inl ⟨y, hy, ?_⟩
    split at e <;> rw [← e] <;> exact ⟨rfl, rfl⟩
  · rcases List.mem_append.mp h with h | h
    · exact .inl ⟨x, h, rfl, rfl⟩
    · rw [List.mem_singleton.mp h]
      exact .inr ⟨rfl, rfl⟩
theorem putN_nodup {kvs : List Ent} {k : NestedKey} {b : Addr} {v : V} (h : (kvs.map (·.1)).Nodup) : ((putN kvs k b v).map (·.1)).Nodup := by
  rw [putN_keys]
  split
  · exact h
  · rename_i q
    have q : lookN kvs k = none := by cases e : lookN kvs k with
      | none => rfl
      | some x => rw [e] at q; exact absurd rfl q
    rw [List.nodup_append]
    refine ⟨h, by simp, fun a ha c hc => ?_⟩
    rw [List.mem_singleton.mp hc]
    exact fun z => lookN_none q (z ▸ ha)
end KDN

/-! A comprehension whose things change one object; what is told of it hangs on other objects, but on no list. -/
namespace KD
open PySem PySem.Spec PyProof.Rows L2
def Nl (H H' : Hp) : Prop := ∀ a o, (∀ xs, o ≠ .lst xs) → H a = some o → H' a = some o
section
variable {X : Addr → Prop} {σ : L2.St} {H H' H2 : Hp} {Γ : List Sv} {L : Addr} {te : TE} {Q : VK} {K : PySem.W.Frag} {wi : TI}
theorem Nl.of (s : Same H H') : Nl H H' := fun a o _ e => s a o e
theorem lc_effN {i : Nat} {ds : List PyData} (Pr : Hp → Prop) (val : PyData → V) (t : Trk X H) (xl : X L) (En : EnvOk X H σ Γ) (hi : GI X wi σ H ds) (hl : ds.length ≤ 1000) (p0 : Pr H) (pS : ∀ H1 H2, Pr H1 → Nl H1 H2 → Pr H2) (pL : ∀ H1, Pr H1 → ∃ o, H1 L = some o)
    (ht : ∀ (X' : Addr → Prop) (H1 : Hp) (σ2 : L2.St) (d : PyData) (Q1 : VK), d ∈ ds → X' L → Trk X' H1 → EnvOk X' H1 σ2 ((Γ.set i .un).set i (.dat d)) → Pr H1 → (∀ H', KpO L H1 H' → Pr H' → Q1 (val d) H') → te σ2 H1 Q1)
    (q : ∀ p H', H p = none → ¬ X p → KpO L H H' → Pr H' → H' p = some (.lst (ds.map val)) → Q (.ref p) H') : tLc wi (gName i) tYes te [i] σ H Q := by
  refine hi H (Same.refl H) _ fun J H2 s2 w => ?_
  intro D hD
  obtain ⟨Gd, Y, w1, w2⟩ := w
  have t2 : Trk X H2 := t.mono s2
  let X' : Addr → Prop := fun a => X a ∨ a = D
  have m2 : More X X' H2 := More.one hD
  have nDL : D ≠ L := fun z => t2.new hD (z ▸ xl)
  have p2 : Pr H2 := pS _ _ p0 (Nl.of s2)
  have E2 := En.same s2
  let I : Nat → Hp → Prop := fun k H3 => KpO L H2 H3 ∧ Trk X' H3 ∧ Pr H3 ∧ H3 D = some (.lst ((ds.take k).map val))
  have ik : ∀ {k H3}, I k H3 → Kp X' H2 H3 := fun {k H3} p => p.1.kp (.inl xl)
  refine lc_it w1 I ⟨KpO.of (Same.upd hD), t2.one hD, pS _ _ p2 (Nl.of (Same.upd hD)), upd_same⟩ (fun k H3 _ p => (w2 X' m2.2 H3 (ik p) p.2.1).1) ?_ ?_
  · rintro k x H3 H4 hk p y
    obtain ⟨s4, d, hdk, dx⟩ := (w2 X' m2.2 H3 (ik p) p.2.1).2 k x H4 y
    obtain ⟨p1, p2', p3, p4⟩ := p
    have p34 : Pr H4 := pS _ _ p3 (Nl.of s4)
    have t4 := p2'.mono s4
    have k4 : Kp X' H2 H4 := (p1.kp (.inl xl)).trans (Kp.of s4)
    refine tgt_name (X := X) (i := i) E2 _ H4 m2 k4 t4 x dx _ fun σ2 E3 hw => ⟨hw, ?_⟩
    show te σ2 H4 _
    have etake : ds.take (k + 1) = ds.take k ++ [d] := by rw [List.take_succ, hdk]; rfl
    refine ht _ H4 σ2 d _ (List.mem_of_getElem? hdk) (.inl xl) t4 E3 p34 fun H5 k5 p5' => ?_
    have k45 : KpO L H2 H5 := (p1.trans (KpO.of s4)).trans k5
    have e5 : H5 D = some (.lst ((ds.take k).map val)) := k5 D _ nDL (s4 D _ p4)
    refine ⟨_, e5, by rw [List.length_map, sizeLine_eq]; have := List.length_take_le k ds; omega, ?_, ?_, ?_, ?_⟩
    · exact fun b o n e => by
        have := k45 b o n e
        rw [upd_ne (ne_of_none e hD)]
        exact this
    · exact (k5.trk t4 (pL _ p5')).put
    · refine pS _ _ p5' fun a o n e => ?_
      have : a ≠ D := fun z => by
        rw [z, e5] at e
        cases e
        exact n _ rfl
      rw [upd_ne this]
      exact e
    · rw [etake, List.map_append]
      exact upd_same
  · rintro H3 ⟨p1, p2', p3, p4⟩
    rw [List.take_length] at p4
    have hD0 : H D = none := s2.free hD
    exact q D H3 hD0 (t.new hD0) ((KpO.of s2).trans p1) p3 p4
end
end KD

/-! Is it enough, by the law. -/
namespace K80
open PySem PySem.Spec PyProof.Rows L2 KD KS KDN
variable {P : Program} {w : World} {K : PySem.W.Frag} {mg : Str → Option Value} {base : Heap}
/-! ### keys -/
def keyN (l : Nat) (cs : List Nat) (m : Nat) : NestedKey := .tup [.tup ((cp l cs).map fun c : Nat => .num (c : Int)), .num (m : Int)]
theorem nums_data : ∀ cs : List Nat, NestedKey.datas (cs.map fun c : Nat => .num (c : Int)) = cs.map fun c : Nat => PyData.int (c : Int)
  | [] => by rw [List.map_nil, NestedKey.datas]; rfl
  | c :: cs => by rw [List.map_cons, NestedKey.datas, nums_data cs, NestedKey.data]; rfl
theorem keyN_data (l : Nat) (cs : List Nat) (m : Nat) : (keyN l cs m).data = .tuple [cD (cp l cs), .int (m : Int)] := by
  unfold keyN
  rw [NestedKey.data, NestedKey.datas, NestedKey.datas, NestedKey.datas, NestedKey.data, NestedKey.data, nums_data]
  rfl
theorem nums_deep : ∀ cs : List Nat, NestedKey.depthAll (cs.map fun c : Nat => .num (c : Int)) = 0
  | [] => by rw [List.map_nil, NestedKey.depthAll]
  | c :: cs => by rw [List.map_cons, NestedKey.depthAll, nums_deep cs, NestedKey.depth]; rfl
theorem keyN_deep (l : Nat) (cs : List Nat) (m : Nat) : (keyN l cs m).depth ≤ 8 := by
  unfold keyN
  rw [NestedKey.depth, NestedKey.depthAll, NestedKey.depthAll, NestedKey.depthAll, NestedKey.depth, NestedKey.depth, nums_deep]
  decide
theorem nums_inj : ∀ {a b : List Nat}, (a.map fun c : Nat => NestedKey.num (c : Int)) = (b.map fun c : Nat => NestedKey.num (c : Int)) → a = b
  | [], [], _ => rfl
  | [], _ :: _, e => by simp at e
  | _ :: _, [], e => by simp at e
  | x :: xs, y :: ys, e => by
    rw [List.map_cons, List.map_cons, List.cons.injEq] at e
    obtain ⟨e1, e2⟩ := e
    injection e1 with e1
    rw [nums_inj e2, show x = y by omega]
theorem keyN_inj {l : Nat} {a b : List Nat} {m k : Nat} (e : keyN l a m = keyN l b k) : cp l a = cp l b ∧ m = k := by
  unfold keyN at e
  injection e with e
  rw [List.cons.injEq, List.cons.injEq] at e
  obtain ⟨e1, e2, _⟩ := e
  injection e1 with e1
  injection e2 with e2
  exact ⟨nums_inj e1, by omega⟩
theorem keyN_cp {l : Nat} {a b : List Nat} (e : cp l a = cp l b) (m : Nat) : keyN l a m = keyN l b m := by unfold keyN; rw [e]
structure Kr (l n : Nat) (kvs : List Ent) : Prop where
  nd : (kvs.map (·.1)).Nodup
  ok : ∀ x ∈ kvs, ∃ cs m, cs.length = n ∧ m ≤ 20 ∧ x.1 = keyN l cs m
def allL : Nat → List (List Nat)
  | 0 => [[]]
  | n + 1 => (List.range 3).flatMap fun c => (allL n).map (c :: ·)
theorem allL_len : ∀ n : Nat, (allL n).length = 3 ^ n
  | 0 => rfl
  | n + 1 => by
    have ih := allL_len n
    show ((List.range 3).flatMap fun c => (allL n).map (c :: ·)).length = _
    have e : List.range 3 = [0, 1, 2] := rfl
    rw [e]
    simp only [List.flatMap_cons, List.flatMap_nil, List.append_nil, List.length_append, List.length_map]
    rw [ih, Nat.pow_succ]
    omega
theorem allL_mem : ∀ {n : Nat} {cs : List Nat}, cs.length = n → (∀ c ∈ cs, c < 3) → cs ∈ allL n
  | 0, cs, h, _ => by
    have : cs = [] := List.eq_nil_of_length_eq_zero h
    rw [this]
    exact List.mem_singleton.mpr rfl
  | n + 1, [], h, _ => by cases h
  | n + 1, c :: cs, h, hc => by
    refine List.mem_flatMap.mpr ⟨c, List.mem_range.mpr (hc c List.mem_cons_self), List.mem_map.mpr ⟨cs, allL_mem (by simpa using h) fun d hd => hc d (List.mem_cons_of_mem _ hd), rfl⟩⟩
theorem Kr.few {l n : Nat} {kvs : List Ent} (k : Kr l n kvs) (hl : l ≤ 1) (hn : n ≤ 8) : kvs.length ≤ 137781 := by
  have h := List.Nodup.length_le_of_subset (l₂ := (allL n).flatMap fun cs => (List.range 21).map fun m : Nat => NestedKey.tup [.tup (cs.map fun c : Nat => .num (c : Int)), .num (m : Int)]) k.nd fun x hx => by
    obtain ⟨y, hy, rfl⟩ := List.mem_map.mp hx
    obtain ⟨cs, m, e1, e2, e3⟩ := k.ok y hy
    rw [e3]
    refine List.mem_flatMap.mpr ⟨cp l cs, allL_mem (by unfold cp; rw [List.length_map, e1]) fun c hc => ?_, List.mem_map.mpr ⟨m, List.mem_range.mpr (by omega), rfl⟩⟩
    unfold cp at hc
    obtain ⟨d, _, rfl⟩ := List.mem_map.mp hc
    omega
  rw [List.length_map] at h
  have e : ((allL n).flatMap fun cs => (List.range 21).map fun m : Nat => NestedKey.tup [.tup (cs.map fun c : Nat => .num (c : Int)), .num (m : Int)]).length = 3 ^ n * 21 := by
    rw [List.length_flatMap]
    have s : ∀ (xs : List (List Nat)), (xs.map fun _ => 21).sum = xs.length * 21 := fun xs => by
      induction xs with
      | nil => rfl
      | cons x xs ih => rw [List.map_cons, List.sum_cons, ih, List.length_cons]; omega
    have e : (fun cs : List Nat => ((List.range 21).map fun m : Nat => NestedKey.tup [.tup (cs.map fun c : Nat => .num (c : Int)), .num (m : Int)]).length) = fun _ => 21 := funext fun cs => by rw [List.length_map, List.length_range]
    rw [e, s, allL_len]
  have h3 : 3 ^ n ≤ 3 ^ 8 := Nat.pow_le_pow_right (by omega) hn
  omega
def KeysV (H : Hp) (kvs : List Ent) : Prop := ∀ x ∈ kvs, NkV H x.1 (.ref x.2.1)
theorem KeysV.keep {H H' : Hp} {kvs : List Ent} (t : Tk H H') (k : KeysV H kvs) : KeysV H' kvs := fun x hx => (k x hx).keep t
theorem KeysV.keys {H : Hp} {kvs : List Ent} {l n : Nat} (k : KeysV H kvs) (r : Kr l n kvs) : Keys H kvs := fun x hx => by
  obtain ⟨cs, m, _, _, e⟩ := r.ok x hx
  refine keyAt_of (k x hx) ?_
  rw [e]
  exact keyN_deep _ _ _
/-- what is told up to m is right -/
def Rt (M : List (List Bool)) (l n m : Nat) (kvs : List Ent) : Prop := ∀ cs m', cs.length = n → m' ≤ m → ∀ v, lookN kvs (keyN l cs m') = some v → v = .bl (enB M l m' cs)
structure Ec (P : Program) (w : World) (X : Addr → Prop) (L : Addr) (M : List (List Bool)) (l n m : Nat) (kvs : List Ent) (H : Hp) : Prop where
  t : Trk X H
  x : X L
  h : H L = some (DN P w L kvs)
  r : Kr l n kvs
  k : KeysV H kvs
  rt : Rt M l n m kvs
theorem dn_not {a : Addr} {kvs : List Ent} : (∀ xs, DN P w a kvs ≠ .lst xs) ∧ ∀ xs, DN P w a kvs ≠ .tup xs := ⟨fun _ e => (by unfold DN at e; cases e), fun _ e => (by unfold DN at e; cases e)⟩
theorem Tk.of {H H' : Hp} (s : Same H H') : Tk H H' := fun a xs e => s a _ e
theorem Tk.nl {H H' : Hp} (s : Nl H H') : Tk H H' := fun a xs e => s a _ (fun _ z => by cases z) e
theorem Tk.put {H : Hp} {L : Addr} {kvs : List Ent} {o : HO} (h : H L = some (DN P w L kvs)) : Tk H (upd H L o) := fun a xs e => by
  have : a ≠ L := fun z => by
    rw [z, h] at e
    injection e with e
    exact dn_not.2 _ e
  rw [upd_ne this]
  exact e
theorem Ec.same {X : Addr → Prop} {L : Addr} {M : List (List Bool)} {l n m : Nat} {kvs : List Ent} {H H' : Hp} (e : Ec P w X L M l n m kvs H) (s : Same H H') : Ec P w X L M l n m kvs H' := ⟨e.t.mono s, e.x, s _ _ e.h, e.r, e.k.keep (Tk.of s), e.rt⟩
def spEn (P : Program) (w : World) (m : Nat) : Sp := fun us H Q _ => ∃ (X : Addr → Prop) (v1 v2 v3 v4 : V) (L : Addr) (ns : List Str) (as : List (List Str)) (l : Int) (cs : List Nat) (kvs : List Ent), us = [v1, v2, v3, v4, .int (m : Int), .ref L] ∧ Ec P w X L (msk ns as) l.toNat ns.length m kvs H ∧ DX X H v1 (wsD ns) ∧ DX X H v2 (asD as) ∧ DX X H v3 (.int l) ∧ DX X H v4 (cD cs) ∧ cs.length = ns.length ∧ ns.length ≤ 8 ∧ as.length ≤ 100 ∧ lieI (.int l) ∧ m ≤ 20 ∧
  ∀ H' kvs', KpO L H H' → H' L = some (DN P w L kvs') → Kr l.toNat ns.length kvs' → KeysV H' kvs' → Rt (msk ns as) l.toNat ns.length m kvs' → (∀ cs' m', cs'.length = ns.length → m < m' → lookN kvs' (keyN l.toNat cs' m') = lookN kvs (keyN l.toNat cs' m')) → Q (.bl (enB (msk ns as) l.toNat m cs)) H'
def spEnP (P : Program) (w : World) : Nat → Sp
  | 0 => fun _ _ _ _ => False
  | m + 1 => spEn P w m
theorem g_min2 {X : Addr → Prop} {σ : L2.St} {H : Hp} {ta tb : TE} {i j : Int} (t : Trk X H) (ha : G X ta σ H (.int i)) (hb : G X tb σ H (.int j)) : G X (tCB (fun xs H Q => ∃ i j, xs = [V.int i, V.int j] ∧ Q (.int (if j < i then j else i)) H) (tCons ta (tCons tb tNil))) σ H (.int (if j < i then j else i)) := fun H1 s Q q =>
  ha H1 s _ fun u H2 s2 r1 => hb H2 (s.trans s2) _ fun v H3 s3 r2 => ⟨i, j, by rw [r1.int_inv, r2.int_inv], q _ H3 (s2.trans s3) (.int _)⟩
theorem k_ifS {tt : TT} {tu : TS} {D : Ends} {σ : L2.St} {H : Hp} (h : tt σ H fun b H1 => if b = true then tu D σ H1 else D.nx σ H1) : tIfS tt tu tNext D σ H := h
theorem k_nput {td ty tv : TE} {D : Ends} {σ : L2.St} {H : Hp} (h : tv σ H fun v H1 => td σ H1 fun x H2 => ty σ H2 fun y H3 => ∃ a H4, x = .ref a ∧ NPut P w H3 a y v H4 ∧ D.nx σ H4) : sNPut P w td ty tv D σ H := h
theorem k_nputQ {td ty tv : TE} {tz : TS} {D : Ends} {σ : L2.St} {H : Hp} (h : tv σ H fun v H1 => td σ H1 fun x H2 => ty σ H2 fun y H3 => ∃ a H4, x = .ref a ∧ NPut P w H3 a y v H4 ∧ tz D σ H4) : tSeq (sNPut P w td ty tv) tz D σ H := h
theorem key_at {X : Addr → Prop} {H : Hp} {v : V} {l m : Nat} {cs : List Nat} (r : DX X H v (.tuple [cD (cp l cs), .int (m : Int)])) : ∃ b, v = .ref b ∧ NkV H (keyN l cs m) (.ref b) := by
  obtain ⟨b, xs, rfl, _⟩ := r.tup_inv
  exact ⟨b, rfl, nkv_of (by rw [keyN_data]; exact r)⟩
def csOf : PyData → List Nat
  | .tuple ds => ds.map fun z => (intOf z).toNat
  | _ => []
theorem csOf_cD (cs : List Nat) : csOf (cD cs) = cs := by
  show (cs.map fun c : Nat => PyData.int (c : Int)).map (fun z => (intOf z).toNat) = cs
  rw [List.map_map]
  conv => rhs; rw [← List.map_id cs]
  exact List.map_congr_left fun c _ => Int.toNat_natCast c
theorem cp_idem (l : Nat) (cs : List Nat) : cp l (cp l cs) = cp l cs := by
  unfold cp
  rw [List.map_map]
  exact List.map_congr_left fun c _ => by show min (min c (l + 1)) (l + 1) = min c (l + 1); omega
theorem Kr.put {l n m : Nat} {kvs : List Ent} {cs : List Nat} {b : Addr} {v : V} (k : Kr l n kvs) (hn : cs.length = n) (hm : m ≤ 20) : Kr l n (putN kvs (keyN l cs m) b v) := ⟨putN_nodup k.nd, fun x hx => by
  rcases putN_mem hx with ⟨y, hy, e, _⟩ | ⟨e, _⟩
  · rw [e]
    exact k.ok y hy
  · exact ⟨cs, m, hn, hm, e⟩⟩
theorem KeysV.put {H : Hp} {kvs : List Ent} {k : NestedKey} {b : Addr} {v : V} (K : KeysV H kvs) (hb : NkV H k (.ref b)) : KeysV H (putN kvs k b v) := fun x hx => by
  rcases putN_mem hx with ⟨y, hy, e1, e2⟩ | ⟨e1, e2⟩
  · rw [e1, e2]
    exact K y hy
  · rw [e1, e2]
    exact hb
-- HINT _law_m_is_enough dnotin yes
-- HINT _law_m_is_enough dnest yes
-- HINT _law_m_is_enough it pi_seq
-- HINT _law_m_is_enough le (by omega)
abbrev s__law_m_is_enough : Stmt := topS 39
abbrev n__law_m_is_enough : List Str := ["_law_names", "_law_askings", "_law_lies", "_law_state", "_law_many", "_law_known", "_law_index", "_law_ends", "_law_one", "_law_answer", "_law_end"]
theorem sc__law_m_is_enough : FnScope n__law_m_is_enough ["_law_names", "_law_askings", "_law_lies", "_law_state", "_law_many", "_law_known"] (defScope s__law_m_is_enough) := ⟨rfl, rfl, rfl, by decide +kernel, rfl, by decide +kernel, by decide +kernel⟩
theorem ok_en_body {f : Addr} {fd : FuncData} {m : Nat} (F : Fun K "_law_m_is_enough" "_law_m_is_enough" s__law_m_is_enough f fd) (T : Bl mg) (O__law_m_left : Own P w K mg base CX0 1 "_law_m_left" ["_law_names", "_law_state", "_law_lies"] spMLeft) (O__law_m_after : Own P w K mg base CX0 1 "_law_m_after" ["_law_names", "_law_askings", "_law_state", "_law_index", "_law_answer"] spAfter)
    (O__law_m_is_enough : Own P w K mg base CX0 (m + 1) "_law_m_is_enough" ["_law_names", "_law_askings", "_law_lies", "_law_state", "_law_many", "_law_known"] (spEnP P w m)) : FnOk P w K mg base CX0 (m + 2) f fd ["_law_names", "_law_askings", "_law_lies", "_law_state", "_law_many", "_law_known"] (spEn P w m) := by
  refine F.ok sc__law_m_is_enough (fun vs H Q E h => ?_) (fun cdv A outer s H vs Q E hr h => ?_)
  · obtain ⟨X, v1, v2, v3, v4, L, ns, as, l, cs, kvs, rfl, _⟩ := h
    rfl
  · obtain ⟨X, v1, v2, v3, v4, L, ns, as, l, cs, kvs, rfl, ec, r1, r2, r3, r4, hn, n8, a100, lie, m20, q⟩ := h
    refine ⟨_, (pss_cons (ps_if (pt_cmpR op_lt (pe_callB call_len (by rfl) T.b_len boot_len (pa_cons (pe_own O__law_m_left hr (by omega) (by rfl) (pa_cons (pv 0) (pa_cons (pv 3) (pa_cons (pv 2) pa_nil)))) pa_nil)) pe_int (nomark _))
    (pss_one (ps_ret pe_bl)) pss_nil)
    (pss_cons (ps_set (i := 3) sc__law_m_is_enough.nd rfl (by first | exact Or.inl rfl | exact Or.inr rfl) (pe_callTy call_tuple_of (by rfl) T.b_tuple boot_tuple (pa_cons (pe_lc (own := [("_law_one", 8)]) (g := (gName 8)) (tt := tYes) rfl sc__law_m_is_enough.nd (pi_seq (pv 3)) (blkOk_by (N := n__law_m_is_enough) (sc := defScope s__law_m_is_enough) (by decide +kernel)) (fun _ _ _ _ _ => (pg_name (i := 8) sc__law_m_is_enough.nd rfl (by first | exact Or.inl rfl | exact Or.inr rfl))) (fun _ _ _ _ _ => pts_nil) (fun _ _ _ _ _ => (pe_callB (call_min2 rfl) (by rfl) T.b_min boot_min (pa_cons (pv 8) (pa_cons (pe_op op_addA (pv 2) pe_int) pa_nil))))) pa_nil)))
    (pss_cons (ps_if (PW.pt (pw_and (pt_cmpR op_gt (pv 4) pe_int (nomark _)) (pw_and1 (pt_cmp (KDN.pc_nnotin (KDN.hu9 hr) (pe_tup (pa_cons (pv 3) (pa_cons (pv 4) pa_nil))) (pv 5)) (by rfl)))))
    (pss_cons (KDN.ps_nput (KDN.hu9 hr) (pv 5) (pe_tup (pa_cons (pv 3) (pa_cons (pv 4) pa_nil))) pe_bl rfl)
    (pss_one (ps_for PassesOwn.never rfl (pi_range1 (by rfl) T.b_range (pa_cons (pe_callB call_len (by rfl) T.b_len boot_len (pa_cons (pv 1) pa_nil)) pa_nil)) (pg_name (i := 6) sc__law_m_is_enough.nd rfl (by first | exact Or.inl rfl | exact Or.inr rfl))
    (pss_cons (ps_setLc (i := 7) (own := [("_law_answer", 9)]) (g := (gName 9)) (tt := tYes) rfl sc__law_m_is_enough.nd rfl rfl (sw_true rfl rfl rfl (by decide +kernel)) (pi_tup (pe_tup (pa_cons pe_bl (pa_cons pe_bl pa_nil)))) (blkOk_by (N := n__law_m_is_enough) (sc := defScope s__law_m_is_enough) (by decide +kernel)) (fun _ _ _ _ _ => (pg_name (i := 9) sc__law_m_is_enough.nd rfl (by first | exact Or.inl rfl | exact Or.inr rfl))) (fun _ _ _ _ _ => pts_nil) (fun _ _ _ _ _ => (pe_own O__law_m_after hr (by omega) (by rfl) (pa_cons (pv 0) (pa_cons (pv 1) (pa_cons (pv 3) (pa_cons (pv 6) (pa_cons (pv 9) pa_nil))))))))
    (pss_one (ps_if (pt_val (pe_callB (cr_all rfl) (by rfl) T.b_all boot_all (pa_cons (pe_lc (own := [("_law_end", 10)]) (g := (gName 10)) (tt := tYes) rfl sc__law_m_is_enough.nd (pi_seq (pv 7)) (blkOk_by (N := n__law_m_is_enough) (sc := defScope s__law_m_is_enough) (by decide +kernel)) (fun _ _ _ _ _ => (pg_name (i := 10) sc__law_m_is_enough.nd rfl (by first | exact Or.inl rfl | exact Or.inr rfl))) (fun _ _ _ _ _ => pts_nil) (fun _ _ _ _ _ => (pe_own O__law_m_is_enough hr (by omega) (by rfl) (pa_cons (pv 0) (pa_cons (pv 1) (pa_cons (pv 2) (pa_cons (pv 10) (pa_cons (pe_op op_sub (pv 4) pe_int) (pa_cons (pv 5) pa_nil))))))))) pa_nil)))
    (pss_one (KDN.ps_nput (KDN.hu9 hr) (pv 5) (pe_tup (pa_cons (pv 3) (pa_cons (pv 4) pa_nil))) pe_bl rfl)) pss_nil)))))) pss_nil)
    (pss_one (ps_ret (pe_and (pe_cmpR op_gt (pv 4) pe_int (nomark _)) (pe_one (KDN.pe_nget (KDN.hu9 hr) (pv 5) (pe_tup (pa_cons (pv 3) (pa_cons (pv 4) pa_nil))) (fun _ _ => rfl))))))))), ?_⟩
    have En : EnvOk X H (L2.start n__law_m_is_enough [v1, v2, v3, v4, .int (m : Int), .ref L]) [.dat (wsD ns), .dat (asD as), .dat (.int l), .dat (cD cs), .dat (.int (m : Int)), .val (.ref L), .un, .un, .un, .un, .un] := ⟨rfl, fun i s e => by
      match i, e with
      | 0, e => cases e; exact ⟨_, rfl, r1⟩
      | 1, e => cases e; exact ⟨_, rfl, r2⟩
      | 2, e => cases e; exact ⟨_, rfl, r3⟩
      | 3, e => cases e; exact ⟨_, rfl, r4⟩
      | 4, e => cases e; exact ⟨_, rfl, .int _⟩
      | 5, e => cases e; rfl
      | 6, e => cases e; trivial
      | 7, e => cases e; trivial
      | 8, e => cases e; trivial
      | 9, e => cases e; trivial
      | 10, e => cases e; trivial
      | _ + 11, e => cases e⟩
    let M := msk ns as
    let L0 := l.toNat
    let c0 := cp L0 cs
    let key := keyN L0 cs m
    have hL1 : L0 ≤ 1 := lie_one lie
    have hn0 : c0.length = ns.length := by show (cs.map _).length = _; rw [List.length_map, hn]
    have lM : M.length = as.length := by show (as.map _).length = _; rw [List.length_map]
    have hll := left_len lie ns cs hn
    have t := ec.t
    -- who is left
    refine q_if (gt_cmpI t (g := fun i j => decide (i < j)) (g_len t (g_call (d := wsD (leftL ns cs l)) (ga_cons (g_var (i := 0) (d := wsD ns) En rfl) (ga_cons (g_var (i := 3) (d := cD cs) En rfl) (ga_cons (g_var (i := 2) (d := .int l) En rfl) ga_nil))) fun vs H2 s2 rs Q2 q2 => ?_) rfl) g_int) (fun hb H1 s1 => ?_) fun hb H1 s1 => ?_
    · cases rs with
      | cons u1 rs =>
        cases rs with
        | cons u2 rs =>
          cases rs with
          | cons u3 rs =>
            cases rs
            exact ⟨X, _, _, _, ns, cs, l, rfl, t.mono s2, u1, u2, u3, by omega, q2⟩
    · have hb := of_decide_eq_true hb
      have hlen : (lenD (wsD (leftL ns cs l)) : Int) = ((leftL ns cs l).length : Nat) := by show (((leftL ns cs l).map PyData.str).length : Int) = _; rw [List.length_map]
      have hf : fnd L0 cs = true := decide_eq_true (by show fw l.toNat cs ≤ 1; omega)
      have he : enB M L0 m cs = true := by
        cases m with
        | zero => exact hf
        | succ m => unfold enB; rw [hf]; rfl
      have ec1 := ec.same s1
      have h := q H1 kvs (KpO.of s1) ec1.h ec1.r ec1.k ec1.rt fun _ _ _ _ => rfl
      rw [show enB (msk ns as) l.toNat m cs = true from he] at h
      exact k_ret (k_c h)
    have hf : fnd L0 cs = false := by
      have hb := of_decide_eq_false hb
      have hlen : (lenD (wsD (leftL ns cs l)) : Int) = ((leftL ns cs l).length : Nat) := by show (((leftL ns cs l).map PyData.str).length : Int) = _; rw [List.length_map]
      exact decide_eq_false (by show ¬ fw l.toNat cs ≤ 1; omega)
    have E1 := En.same s1
    have ec1 := ec.same s1
    have t1 := ec1.t
    -- no more than counts
    refine q_set (i := 3) (d := cD c0) E1 (g_is (g_cb t1 (ga_cons (g_lc1 (ds := cs.map fun c : Nat => .int (c : Int)) (Γ2 := fun z => [.dat (wsD ns), .dat (asD as), .dat (.int l), .dat (cD cs), .dat (.int (m : Int)), .val (.ref L), .un, .un, .dat z, .un, .un]) (fun z => .int (if l + 1 < intOf z then l + 1 else intOf z)) t1 (gi_seq (K := K) (g_var (i := 3) (d := cD cs) E1 rfl) rfl) (by rw [List.length_map]; omega) (fun H3 s3 z hz => tgt_name (E1.same s3)) (fun X2 H3 σ2 z hz t3 E3 => ?_)) ga_nil) (rf_tuple (K := K) rfl)) ?_) fun H2 v3' s2 E2 => ?_
    · obtain ⟨c, _, rfl⟩ := List.mem_map.mp hz
      exact g_min2 t3 (g_var (i := 8) (d := .int (c : Int)) E3 rfl) (g_addI t3 (g_var (i := 2) (d := .int l) E3 rfl) g_int)
    · show PyData.tuple _ = PyData.tuple ((cs.map fun c => min c (L0 + 1)).map fun c : Nat => .int (c : Int))
      rw [show itemsD (PyData.list ((cs.map fun c : Nat => PyData.int (c : Int)).map fun z => .int (if l + 1 < intOf z then l + 1 else intOf z))) = (cs.map fun c : Nat => PyData.int (c : Int)).map fun z => .int (if l + 1 < intOf z then l + 1 else intOf z) from rfl, List.map_map, List.map_map]
      congr 1
      refine List.map_congr_left fun c _ => ?_
      show PyData.int (if l + 1 < (c : Int) then l + 1 else (c : Int)) = .int ((min c (l.toNat + 1) : Nat) : Int)
      congr 1
      have : (l.toNat : Int) = l := by rcases lie_nat lie with rfl | rfl <;> rfl
      split <;> omega
    let Γ : List Sv := [.dat (wsD ns), .dat (asD as), .dat (.int l), .dat (cD c0), .dat (.int (m : Int)), .val (.ref L), .un, .un, .un, .un, .un]
    have E2 : EnvOk X H2 _ Γ := E2
    have ec2 := ec1.same s2
    have s02 := s1.trans s2
    have gkey : ∀ {X' : Addr → Prop} {G : Hp} {σ' : L2.St} {Γ' : List Sv}, Trk X' G → EnvOk X' G σ' Γ' → Γ'[3]? = some (.dat (cD c0)) → Γ'[4]? = some (.dat (.int (m : Int))) → KD.G X' (tTup (tCons (tVar 3) (tCons (tVar 4) tNil))) σ' G (.tuple [cD c0, .int (m : Int)]) := fun tG EG h3 h4 => g_tup tG (ga_cons (g_var (i := 3) (d := cD c0) EG h3) (ga_cons (g_var (i := 4) (d := .int (m : Int)) EG h4) ga_nil)) (by simp)
    -- the end
    have fin : ∀ {σ' : L2.St} {G : Hp} {kvs' : List Ent}, EnvOk X G σ' Γ → Trk X G → KpO L H G → G L = some (DN P w L kvs') → Kr L0 ns.length kvs' → KeysV G kvs' → Rt M L0 ns.length m kvs' → (∀ cs' m', cs'.length = ns.length → m < m' → lookN kvs' (keyN L0 cs' m') = lookN kvs (keyN L0 cs' m')) → (0 < m → (lookN kvs' key).isSome = true) → tAndV (tOp (rI0 fun i j => V.bl (decide (i > j))) (tVar 4) (tC (.int 0))) (tNGet P w (tVar 5) (tTup (tCons (tVar 3) (tCons (tVar 4) tNil)))) σ' G Q := fun {σ' G kvs'} E' tG k' h' r' kv' rt' fr' is' => by
      refine g_cmpI tG (g := fun i j => decide (i > j)) (g_var (i := 4) (d := .int (m : Int)) E' rfl) g_int G (Same.refl _) _ fun v G2 s' r => ⟨_, r.bl_inv, ?_⟩
      by_cases hm : 0 < m
      · rw [decide_eq_true (by omega : (m : Int) > 0)]
        refine iteT ⟨.ref L, (E'.same s').get 5 _ rfl, gkey (tG.mono s') (E'.same s') rfl rfl G2 (Same.refl _) _ fun y G3 s3 ry => ?_⟩
        obtain ⟨b, rfl, nk⟩ := key_at ry
        have s23 := s'.trans s3
        obtain ⟨v, hv⟩ := Option.isSome_iff_exists.mp (is' hm)
        have hval := rt' cs m hn (Nat.le_refl _) v hv
        subst hval
        refine ⟨L, _, rfl, ⟨kvs', key, b, s23 _ _ h', (kv'.keep (Tk.of s23)).keys r', rfl, keyAt_of nk (keyN_deep _ _ _), hv.symm⟩, ?_⟩
        exact q G3 kvs' (k'.trans (KpO.of s23)) (s23 _ _ h') r' (kv'.keep (Tk.of s23)) rt' fr'
      · rw [decide_eq_false (by omega : ¬ (m : Int) > 0)]
        have hm0 : m = 0 := by omega
        subst hm0
        have h := q G2 kvs' (k'.trans (KpO.of s')) (s' _ _ h') r' (kv'.keep (Tk.of s')) rt' fr'
        rw [show enB (msk ns as) l.toNat 0 cs = false from hf] at h
        exact iteF h
    refine q_if (b := decide ((m : Int) > 0) && !(lookN kvs key).isSome) (gt_and (gt_cmpI ec2.t (g := fun i j => decide (i > j)) (g_var (i := 4) (d := .int (m : Int)) E2 rfl) g_int) fun _ => gt_test (X := X) fun G s Q' q' => gkey ec2.t E2 rfl rfl G s _ fun y G3 s3 ry => ?_) (fun hb H3 s3 => ?_) fun hb H3 s3 => ?_
    · obtain ⟨b, rfl, nk⟩ := key_at ry
      have s' := s.trans s3
      exact ⟨.ref L, (E2.same s').get 5 _ rfl, L, lookN kvs key, rfl, ⟨kvs, key, b, s' _ _ ec2.h, (ec2.k.keep (Tk.of s')).keys ec2.r, rfl, keyAt_of nk (keyN_deep _ _ _), rfl⟩, q' _ G3 s3 (.bl _)⟩
    rotate_left
    · have ec3 := ec2.same s3
      refine k_ret (fin (E2.same s3) ec3.t (KpO.of (s02.trans s3)) ec3.h ec3.r ec3.k ec3.rt (fun _ _ _ _ => rfl) fun hm => ?_)
      rw [decide_eq_true (by omega : (m : Int) > 0)] at hb
      simpa using hb
    -- told anew
    rw [Bool.and_eq_true] at hb
    obtain ⟨m', rfl⟩ : ∃ m', m = m' + 1 := ⟨m - 1, by have := of_decide_eq_true hb.1; omega⟩
    have hnone : lookN kvs key = none := by
      have := hb.2
      cases e : lookN kvs key with
      | none => rfl
      | some x => rw [e] at this; cases this
    have ec3 := ec2.same s3
    have E3 := E2.same s3
    have s03 := s02.trans s3
    refine k_nputQ (k_c ⟨.ref L, E3.get 5 _ rfl, gkey ec3.t E3 rfl rfl H3 (Same.refl _) _ fun y G4 s4 ry => ?_⟩)
    obtain ⟨b, rfl, nk⟩ := key_at ry
    have ec4 := ec3.same s4
    have few := ec4.r.few hL1 n8
    refine ⟨L, _, rfl, ⟨kvs, key, b, ec4.h, ec4.k.keys ec4.r, rfl, keyAt_of nk (keyN_deep _ _ _), by rw [sizeLine_eq]; omega, rfl⟩, ?_⟩
    have s04 := s03.trans s4
    let kv0 := putN kvs key b (.bl false)
    have tk0 : Tk G4 (upd G4 L (DN P w L kv0)) := Tk.put ec4.h
    let fst (i : Nat) : Bool := (M.take i).any fun ms => enB M L0 m' (an true cs ms) && enB M L0 m' (an false cs ms)
    have key_ne : ∀ {cs' : List Nat} {k' : Nat}, k' ≤ m' → keyN L0 cs' k' ≠ key := fun h e => by
      have := (keyN_inj e).2
      omega
    let I : Nat → L2.St → Hp → Prop := fun i σ' G => ∃ kvi, KpO L H G ∧ G L = some (DN P w L kvi) ∧ Kr L0 ns.length kvi ∧ KeysV G kvi ∧ Rt M L0 ns.length m' kvi ∧ lookN kvi key = some (.bl (fst i)) ∧ (∀ (cs' : List Nat) (k' : Nat), cs'.length = ns.length → m' < k' → keyN L0 cs' k' ≠ key → lookN kvi (keyN L0 cs' k') = lookN kvs (keyN L0 cs' k')) ∧ Trk X G ∧ EnvOk X G σ' Γ
    have kp4 : Kp X G4 (upd G4 L (DN P w L kv0)) := Kp.put ec.x
    have I0 : I 0 _ (upd G4 L (DN P w L kv0)) := ⟨kv0, (KpO.of s04).trans KpO.put, upd_same, ec4.r.put hn m20, (ec4.k.put nk).keep tk0, fun cs' k' h1 h2 v hv => ec4.rt cs' k' h1 (by omega) v (by rw [← hv]; exact (lookN_put_other (key_ne h2)).symm), lookN_put_same _ _ _ _, fun cs' k' _ _ ne => lookN_put_other ne, ec4.t.put, (E3.same s4).mono kp4⟩
    have tH4 : Trk X (upd G4 L (DN P w L kv0)) := ec4.t.put
    have EH4 : EnvOk X (upd G4 L (DN P w L kv0)) _ Γ := (E3.same s4).mono kp4
    refine s_forD (X := X) (gi_range1 (n := (as.length : Int)) (g_is (g_len (K := K) tH4 (g_var (i := 1) (d := asD as) EH4 rfl) rfl) (by show PyData.int (((as.map wsD).length : Nat) : Int) = _; rw [List.length_map])) (by omega) (by omega)) (fun Hb i σ' G => KpO L Hb G ∧ I i σ' G) (fun Hb sb => ⟨KpO.of (Same.refl _), ?_⟩) (fun Hb i σ' G p => ⟨p.1.kp ec.x, let ⟨_, _, _, _, _, _, _, _, t, _⟩ := p.2; t⟩) ?_ ?_
    · obtain ⟨kvi, a1, a2, a3, a4, a5, a6, a7, a8, a9⟩ := I0
      exact ⟨kvi, a1.trans (KpO.of sb), sb _ _ a2, a3, a4.keep (Tk.of sb), a5, a6, a7, a8.mono sb, a9.same sb⟩
    · rintro Hb i x d σ' G G' sb hd ⟨kb, kvi, a1, a2, a3, a4, a5, a6, a7, a8, a9⟩ s6 dx
      have hi : i < as.length := by
        have := (List.getElem?_eq_some_iff.mp hd).1
        rw [rangeD_len] at this
        omega
      rw [rangeD_get (by omega)] at hd
      cases hd
      refine k_name ?_
      have t6 := a8.mono s6
      let row := bitsOf ns (as.getD i [])
      have E6 := (a9.same s6).set (i := 6) dx
      rw [show (0 : Int) + (i : Int) = (i : Int) by omega] at E6
      have E6 : EnvOk X G' _ [.dat (wsD ns), .dat (asD as), .dat (.int l), .dat (cD c0), .dat (.int ((m' + 1 : Nat) : Int)), .val (.ref L), .dat (.int (i : Int)), .un, .un, .un, .un] := E6
      refine q_set (i := 7) (d := .list [cD (an true c0 row), cD (an false c0 row)]) E6 (g_is (g_lc1 (ds := [.bool true, .bool false]) (Γ2 := fun z => [.dat (wsD ns), .dat (asD as), .dat (.int l), .dat (cD c0), .dat (.int ((m' + 1 : Nat) : Int)), .val (.ref L), .dat (.int (i : Int)), .un, .un, .dat z, .un]) (fun z => cD (an (blOf z) c0 row)) t6 (gi_tup (g_tup t6 (ga_cons g_bl (ga_cons g_bl ga_nil)) (by simp))) (by simp) (fun H3 s3 z hz => tgt_name (E6.same s3)) (fun X2 H3 σ2 z hz t3 E3 => ?_)) rfl) fun G7 v7 s7 E7 => ?_
      · obtain ⟨bb, rfl⟩ : ∃ bb, z = .bool bb := by
          simp only [List.mem_cons, List.not_mem_nil, or_false] at hz
          rcases hz with rfl | rfl <;> exact ⟨_, rfl⟩
        exact g_call (ga_cons (g_var (i := 0) (d := wsD ns) E3 rfl) (ga_cons (g_var (i := 1) (d := asD as) E3 rfl) (ga_cons (g_var (i := 3) (d := cD c0) E3 rfl) (ga_cons (g_var (i := 6) (d := .int (i : Int)) E3 rfl) (ga_cons (g_var (i := 9) (d := .bool bb) E3 rfl) ga_nil))))) fun vs H8 s8 rs Q2 q2 => by
          cases rs with
          | cons u1 rs =>
            cases rs with
            | cons u2 rs =>
              cases rs with
              | cons u3 rs =>
                cases rs with
                | cons u4 rs =>
                  cases rs with
                  | cons u5 rs =>
                    cases rs
                    exact ⟨X2, _, _, _, _, _, ns, as, c0, i, bb, rfl, t3.mono s8, u1, u2, u3, u4, u5, by omega, hi, q2⟩
      have E7 : EnvOk X G7 _ [.dat (wsD ns), .dat (asD as), .dat (.int l), .dat (cD c0), .dat (.int ((m' + 1 : Nat) : Int)), .val (.ref L), .dat (.int (i : Int)), .dat (.list [cD (an true c0 row), cD (an false c0 row)]), .un, .un, .un] := E7
      have s67 := s6.trans s7
      have t7 := a8.mono s67
      have lrow : row.length = ns.length := by show (ns.map _).length = _; rw [List.length_map]
      have lan : ∀ bb, (an bb c0 row).length = ns.length := fun bb => by rw [an_len (by rw [lrow, hn0]), hn0]
      -- both ends
      refine k_ifS (k_cb (k_cons (lc_effN (L := L) (ds := [cD (an true c0 row), cD (an false c0 row)]) (fun G => ∃ kvj, G L = some (DN P w L kvj) ∧ Kr L0 ns.length kvj ∧ KeysV G kvj ∧ Rt M L0 ns.length m' kvj ∧ ∀ (cs' : List Nat) (k' : Nat), cs'.length = ns.length → m' < k' → lookN kvj (keyN L0 cs' k') = lookN kvi (keyN L0 cs' k')) (fun d => .bl (enB M L0 m' (csOf d))) t7 ec.x E7 (gi_seq (K := K) (g_var (i := 7) (d := .list [cD (an true c0 row), cD (an false c0 row)]) E7 rfl) rfl) (by simp) ⟨kvi, s67 _ _ a2, a3, a4.keep (Tk.of s67), a5, fun _ _ _ _ => rfl⟩ (fun G1 G2 ⟨kvj, b1, b2, b3, b4, b5⟩ s => ⟨kvj, s _ _ dn_not.1 b1, b2, b3.keep (Tk.nl s), b4, b5⟩) (fun G1 ⟨kvj, b1, _⟩ => ⟨_, b1⟩) (fun X' G1 σ2 d Q1 hd xL tG EG pr q1 => ?_) fun p G8 hp npX k8 ⟨kvj, b1, b2, b3, b4, b5⟩ hpl => ?_)))
      · obtain ⟨kvj, b1, b2, b3, b4, b5⟩ := pr
        obtain ⟨bb, rfl⟩ : ∃ bb, d = cD (an bb c0 row) := by
          simp only [List.mem_cons, List.not_mem_nil, or_false] at hd
          rcases hd with rfl | rfl <;> exact ⟨_, rfl⟩
        obtain ⟨u0, p0, y0⟩ := EG.get 0 (.dat (wsD ns)) rfl
        obtain ⟨u1, p1, y1⟩ := EG.get 1 (.dat (asD as)) rfl
        obtain ⟨u2, p2, y2⟩ := EG.get 2 (.dat (.int l)) rfl
        obtain ⟨u3, p3, y3⟩ := EG.get 10 (.dat (cD (an bb c0 row))) rfl
        refine ⟨u0, p0, u1, p1, u2, p2, u3, p3, g_is (g_sub tG (g_var (i := 4) (d := .int ((m' + 1 : Nat) : Int)) EG rfl) g_int) (e := .int (m' : Int)) (by rw [show ((m' + 1 : Nat) : Int) - 1 = (m' : Int) by omega]) G1 (Same.refl _) _ fun v9 G2 s9 r9 => ⟨.ref L, (EG.same s9).get 5 (.val (.ref L)) rfl, ?_⟩⟩
        rw [r9.int_inv]
        refine ⟨X', u0, u1, u2, u3, L, ns, as, l, an bb c0 row, kvj, rfl, ⟨tG.mono s9, xL, s9 _ _ b1, b2, b3.keep (Tk.of s9), b4⟩, y0.mono (Kp.of s9), y1.mono (Kp.of s9), y2.mono (Kp.of s9), y3.mono (Kp.of s9), lan bb, n8, a100, lie, by omega, fun G3 kvk k3 c1 c2 c3 c4 c5 => ?_⟩
        have h := q1 G3 ((KpO.of s9).trans k3) ⟨kvk, c1, c2, c3, c4, fun cs' k' h1 h2 => (c5 cs' k' h1 h2).trans (b5 cs' k' h1 h2)⟩
        rw [csOf_cD] at h
        exact h
      · have t8 : Trk X G8 := k8.trk t7 ⟨_, b1⟩
        have E8 := E7.mono (k8.kp ec.x)
        have kH8 : KpO L H G8 := (a1.trans (KpO.of s67)).trans k8
        have kb8 : KpO L Hb G8 := (kb.trans (KpO.of s67)).trans k8
        have hmi : M[i]? = some row := by
          show (as.map (bitsOf ns))[i]? = some (bitsOf ns (as.getD i []))
          rw [List.getElem?_map, List.getElem?_eq_getElem hi, List.getD_eq_getElem?_getD, List.getElem?_eq_getElem hi]
          rfl
        have e1 : ∀ bb, enB M L0 m' (an bb c0 row) = enB M L0 m' (an bb cs row) := fun bb => enB_cp m' (cp_an2 (cp_idem L0 cs) bb row)
        have efst : fst (i + 1) = (fst i || (enB M L0 m' (an true cs row) && enB M L0 m' (an false cs row))) := by
          show (M.take (i + 1)).any _ = _
          rw [List.take_succ, hmi, List.any_append]
          simp [fst]
        refine k_nil ⟨p, [enB M L0 m' (an true c0 row), enB M L0 m' (an false c0 row)], rfl, SqL.of (by rw [hpl]; simp only [List.map_cons, List.map_nil, csOf_cD]), _, rfl, ?_⟩
        have eall : [enB M L0 m' (an true c0 row), enB M L0 m' (an false c0 row)].all id = (enB M L0 m' (an true cs row) && enB M L0 m' (an false cs row)) := by
          rw [← e1, ← e1]
          simp
        have E8' : EnvOk X G8 _ Γ := envUn' (envUn' E8 6) 7
        have look8 : lookN kvj key = some (.bl (fst i)) := by rw [← a6]; exact b5 cs (m' + 1) hn (by omega)
        have fr8 : ∀ (cs' : List Nat) (k' : Nat), cs'.length = ns.length → m' < k' → keyN L0 cs' k' ≠ key → lookN kvj (keyN L0 cs' k') = lookN kvs (keyN L0 cs' k') := fun cs' k' h1 h2 h3 => (b5 cs' k' h1 h2).trans (a7 cs' k' h1 h2 h3)
        rw [eall]
        cases hbb : (enB M L0 m' (an true cs row) && enB M L0 m' (an false cs row)) with
        | false =>
          refine iteF ⟨kb8, kvj, kH8, b1, b2, b3, b4, ?_, fr8, t8, E8'⟩
          rw [efst, hbb, Bool.or_false]
          exact look8
        | true =>
          refine iteT (k_nput (k_c ⟨.ref L, E8.get 5 _ rfl, gkey t8 E8 rfl rfl G8 (Same.refl _) _ fun y G9 s9 ry => ?_⟩))
          obtain ⟨b9, rfl, nk9⟩ := key_at ry
          have few9 := b2.few hL1 n8
          refine ⟨L, _, rfl, ⟨kvj, key, b9, s9 _ _ b1, (b3.keep (Tk.of s9)).keys b2, rfl, keyAt_of nk9 (keyN_deep _ _ _), by rw [sizeLine_eq]; omega, rfl⟩, ?_⟩
          have tk9 : Tk G9 (upd G9 L (DN P w L (putN kvj key b9 (.bl true)))) := Tk.put (s9 _ _ b1)
          refine ⟨(kb8.trans (KpO.of s9)).trans KpO.put, putN kvj key b9 (.bl true), (kH8.trans (KpO.of s9)).trans KpO.put, upd_same, b2.put hn m20, ((b3.keep (Tk.of s9)).put nk9).keep tk9, fun cs' k' h1 h2 v hv => b4 cs' k' h1 h2 v (by rw [← hv]; exact (lookN_put_other (key_ne h2)).symm), ?_, fun cs' k' h1 h2 h3 => (lookN_put_other h3).trans (fr8 cs' k' h1 h2 h3), (t8.mono s9).put, (E8'.same s9).mono (Kp.put ec.x)⟩
          rw [efst, hbb, Bool.or_true]
          exact lookN_put_same _ _ _ _
    · rintro Hb σ' G sb ⟨kb, kvi, a1, a2, a3, a4, a5, a6, a7, a8, a9⟩
      rw [rangeD_len, Int.toNat_natCast] at a6
      have efull : fst as.length = M.any fun ms => enB M L0 m' (an true cs ms) && enB M L0 m' (an false cs ms) := by
        show (M.take as.length).any _ = _
        rw [List.take_of_length_le (by omega)]
      have een : enB M L0 (m' + 1) cs = fst as.length := by
        rw [efull]
        show (fnd L0 cs || _) = _
        rw [hf, Bool.false_or]
      refine (fin a9 a8 a1 a2 a3 a4 (fun cs' k' h1 h2 v hv => ?_) (fun cs' k' h1 h2 => a7 cs' k' h1 (by omega) fun e => by have := (keyN_inj e).2; omega) fun _ => by rw [a6]; rfl)
      by_cases hk : k' ≤ m'
      · exact a5 cs' k' h1 hk v hv
      · have hk' : k' = m' + 1 := by omega
        subst hk'
        by_cases he : keyN L0 cs' (m' + 1) = key
        · rw [he, a6] at hv
          cases hv
          rw [enB_cp (m' + 1) (keyN_inj he).1, een]
        · rw [a7 cs' (m' + 1) h1 (by omega) he] at hv
          exact ec.rt cs' (m' + 1) h1 (Nat.le_refl _) v hv
theorem ok_en {f : Addr} {fd : FuncData} (F : Fun K "_law_m_is_enough" "_law_m_is_enough" s__law_m_is_enough f fd) (T : Bl mg) (m1 : mg "_law_m_is_enough" = some (.ref f)) (m2 : PySem.W.keepIn K (.ref f) = true) (m3 : Binds K fd ["_law_names", "_law_askings", "_law_lies", "_law_state", "_law_many", "_law_known"] []) (O__law_m_left : Own P w K mg base CX0 1 "_law_m_left" ["_law_names", "_law_state", "_law_lies"] spMLeft) (O__law_m_after : Own P w K mg base CX0 1 "_law_m_after" ["_law_names", "_law_askings", "_law_state", "_law_index", "_law_answer"] spAfter) :
    ∀ m : Nat, FnOk P w K mg base CX0 (m + 2) f fd ["_law_names", "_law_askings", "_law_lies", "_law_state", "_law_many", "_law_known"] (spEn P w m)
  | 0 => ok_en_body F T O__law_m_left O__law_m_after ⟨f, fd, m1, m2, m3, F.ok (k := 0) sc__law_m_is_enough (fun _ _ _ _ h => h.elim) (fun _ _ _ _ _ _ _ _ _ h => h.elim)⟩
  | m + 1 => ok_en_body F T O__law_m_left O__law_m_after ⟨f, fd, m1, m2, m3, ok_en F T m1 m2 m3 O__law_m_left O__law_m_after m⟩
end K80

/-! The fewest askings, the one that is next. -/
namespace K80
open PySem PySem.Spec PyProof.Rows L2 KD KS
variable {P : Program} {w : World} {K : PySem.W.Frag} {mg : Str → Option Value} {base : Heap}
theorem k_callS {sp : Sp} {Q : VK} {tl : TA} {σ : L2.St} {H : Hp} {E : XK} (h : tl σ H fun vs H1 => sp (vs ++ []) H1 Q E) : tCall sp [] E tl σ H Q := h
def spFew : Sp := fun vs H Q _ => ∃ (X : Addr → Prop) (v1 v2 v3 : V) (s a : PyData) (l : Int) (ns : List Str) (as : List (List Str)), vs = [v1, v2, v3] ∧ Trk X H ∧ DX X H v1 s ∧ DX X H v2 a ∧ DX X H v3 (.int l) ∧ Sus s ns ∧ Ask a as ∧ lieI (.int l) ∧
  ∀ H', Same H H' → Q (hV (hh (msk ns as) l.toNat (zs ns.length))) H'
-- HINT fewest_askings le (by omega)
-- HINT fewest_askings dnew pe_dnewT
abbrev s_fewest_askings : Stmt := topS 34
abbrev n_fewest_askings : List Str := ["suspects", "askings", "lies"]
theorem sc_fewest_askings : FnScope n_fewest_askings ["suspects", "askings", "lies"] (defScope s_fewest_askings) := ⟨rfl, rfl, rfl, by decide +kernel, rfl, by decide +kernel, by decide +kernel⟩
theorem ok_fewest {f : Addr} {fd : FuncData} (F : FunD K "fewest_askings" "fewest_askings" (defArgs s_fewest_askings) (defBody s_fewest_askings) (defScope s_fewest_askings) [.int 0] [] f fd) (T : Bl mg)
    (O_check_askings : Own P w K mg base CX0 3 "check_askings" ["suspects", "askings", "lies"] (sp3 (fun s a l => (∃ ns, Sus s ns) ∧ (∃ as, Ask a as) ∧ lieI l) fun _ _ _ => .none))
    (O_asked_masks : Own P w K mg base CX0 1 "asked_masks" ["suspects", "askings"] (sp2 (fun s a => (∃ ns, Sus s ns) ∧ ∃ as, Ask a as) fun s a => maskD (nsOf s) (asOf a)))
    (O_start_of : Own P w K mg base CX0 1 "start_of" ["suspects"] (sp1 (fun s => ∃ ns, Sus s ns) fun s => .tuple [.int ((2 : Int) ^ (nsOf s).length - 1), .int 0]))
    (O_height_of : Own P w K mg base CX0 34 "height_of" ["masks", "lies", "state", "known"] (spHt 16)) : FnOk P w K mg base CX0 35 f fd ["suspects", "askings", "lies"] spFew := by
  refine F.ok sc_fewest_askings (fun vs H Q E h => ?_) (fun cdv A outer s H vs Q E hr h => ?_)
  · obtain ⟨X, v1, v2, v3, s, a, l, ns, as, rfl, _⟩ := h
    rfl
  · obtain ⟨X, v1, v2, v3, ds, da, l, ns, as, rfl, t, r1, r2, r3, S, A2, lie, q⟩ := h
    refine ⟨_, PSs.nox (pss_cons (ps_expr (pe_own O_check_askings hr (by omega) (by rfl) (pa_cons (pv 0) (pa_cons (pv 1) (pa_cons (pv 2) pa_nil)))))
    (pss_one (ps_ret (pe_own O_height_of hr (by omega) (by rfl) (pa_cons (pe_own O_asked_masks hr (by omega) (by rfl) (pa_cons (pv 0) (pa_cons (pv 1) pa_nil))) (pa_cons (pv 2) (pa_cons (pe_own O_start_of hr (by omega) (by rfl) (pa_cons (pv 0) pa_nil)) (pa_cons pe_dnewT pa_nil)))))))), ?_⟩
    have En : EnvOk X H (L2.start n_fewest_askings [v1, v2, v3]) [.dat ds, .dat da, .dat (.int l)] := env3 (N := n_fewest_askings) r1 r2 r3 (by decide)
    refine q_drop (g_call3 t (g_var (i := 0) En rfl) (g_var (i := 1) En rfl) (g_var (i := 2) En rfl) ⟨⟨ns, S⟩, ⟨as, A2⟩, lie⟩) fun H1 s1 => ?_
    have E1 := En.same s1
    have t1 := t.mono s1
    refine k_ret (k_callS (k_cons (g_is (e := mskD (msk ns as)) (g_call2 t1 (g_var (i := 0) (d := ds) E1 rfl) (g_var (i := 1) (d := da) E1 rfl) ⟨⟨ns, S⟩, ⟨as, A2⟩⟩) (by rw [S.of, A2.of]; exact mskD_is ns as) H1 (Same.refl _) _ fun w1 H2 s2 y1 => ?_)))
    have E2 := E1.same s2
    have t2 := t1.mono s2
    refine k_cons (g_var (i := 2) (d := .int l) E2 rfl H2 (Same.refl _) _ fun w2 H3 s3 y2 => k_cons (g_is (e := stC l (zs ns.length)) (g_call1 (t2.mono s3) (g_var (i := 0) (d := ds) (E2.same s3) rfl) ⟨ns, S⟩) (by rw [S.of]; exact start_is l _) H3 (Same.refl _) _ fun w3 H4 s4 y3 => k_cons fun D hD => k_nil ?_))
    have s14 := ((s1.trans s2).trans s3).trans s4
    let X2 : Addr → Prop := fun a => X a ∨ a = D
    have m2 : More X X2 H4 := More.one hD
    have sN : Same H4 (upd H4 D (.dT [])) := Same.upd hD
    have kn0 : Kn (msk ns as) l ns.length [] := ⟨.nil, fun c hc => by cases hc⟩
    refine ⟨X2, w1, w2, w3, D, l, ns.length, msk ns as, zs ns.length, [], rfl, ⟨(t.mono s14).one hD, .inr rfl, upd_same, kn0, msk_len ns as, S.few, lie, by show (as.map _).length ≤ 100; rw [List.length_map]; exact A2.few⟩, ((y1.mono (Kp.of (s3.trans s4))).more m2).mono (Kp.of sN), ((y2.mono (Kp.of s4)).more m2).mono (Kp.of sN), (y3.more m2).mono (Kp.of sN), zs_len _, mu_zs S.few (lie_one lie), fun H' C' kO _ _ => q H' fun a o e => ?_⟩
    have e2 := s14 a o e
    exact kO a o (ne_of_none e2 hD) (sN a o e2)
def spAsk : Sp := fun vs H Q _ => ∃ (X : Addr → Prop) (v1 v2 v3 v4 : V) (s a n : PyData) (l : Int) (ns : List Str) (as : List (List Str)) (ps : List (Nat × Bool)), vs = [v1, v2, v3, v4] ∧ Trk X H ∧ DX X H v1 s ∧ DX X H v2 a ∧ DX X H v3 n ∧ DX X H v4 (.int l) ∧ Sus s ns ∧ Ask a as ∧ Ans n ps as.length ∧ lieI (.int l) ∧
  ∀ H', Same H H' → Q (hV (nxt (msk ns as) l.toNat (wrongL ns as ps))) H'
-- HINT ask_next le (by omega)
-- HINT ask_next dnew pe_dnewT
end K80

/-! Papers of answers that leave two. -/
namespace K80
open PySem PySem.Spec PyProof.Rows L2 KD KS
variable {P : Program} {w : World} {K : PySem.W.Frag} {mg : Str → Option Value} {base : Heap}
theorem k_notV {te : TE} {σ : L2.St} {H : Hp} {Q : VK} (h : te σ H fun x H1 => ∃ c, x = .bl c ∧ Q (.bl (!c)) H1) : tNotV te σ H Q := h
theorem kpO_S {D L : Addr} {H H' : Hp} (k : KpO D H H') : KpS D L H H' := fun a o n _ e => k a o n e
/-- many is a number -/
def spChk : Sp := fun us H Q _ => ∃ (X : Addr → Prop) (v1 v2 v3 v4 : V) (s a : PyData) (m : Nat) (l : Int) (ns : List Str) (as : List (List Str)), us = [v1, v2, v3, v4] ∧ Trk X H ∧ DX X H v1 s ∧ DX X H v2 a ∧ DX X H v3 (.int (m : Int)) ∧ DX X H v4 (.int l) ∧ Sus s ns ∧ Ask a as ∧ lieI (.int l) ∧ ∀ H', Same H H' → Q .non H'
theorem g_chk {X : Addr → Prop} {H : Hp} {σ : L2.St} {ta tb tc td : TE} {E : XK} {s a : PyData} {m : Nat} {l : Int} {ns : List Str} {as : List (List Str)} (t : Trk X H) (h1 : G X ta σ H s) (h2 : G X tb σ H a) (h3 : G X tc σ H (.int (m : Int))) (h4 : G X td σ H (.int l)) (S : Sus s ns) (A : Ask a as) (lie : lieI (.int l)) : G X (tCall spChk [] E (tCons ta (tCons tb (tCons tc (tCons td tNil))))) σ H .none :=
  g_call (ga_cons h1 (ga_cons h2 (ga_cons h3 (ga_cons h4 ga_nil)))) fun vs H2 s2 rs Q2 q2 => by
    cases rs with
    | cons u1 rs =>
      cases rs with
      | cons u2 rs =>
        cases rs with
        | cons u3 rs =>
          cases rs with
          | cons u4 rs =>
            cases rs
            exact ⟨X, _, _, _, _, s, a, m, l, ns, as, rfl, t.mono s2, u1, u2, u3, u4, S, A, lie, fun H' s' => q2 _ H' s' .non⟩
abbrev s_check_many : Stmt := topS 26
abbrev n_check_many : List Str := ["suspects", "askings", "many", "lies"]
theorem sc_check_many : FnScope n_check_many ["suspects", "askings", "many", "lies"] (defScope s_check_many) := ⟨rfl, rfl, rfl, by decide +kernel, rfl, by decide +kernel, by decide +kernel⟩
theorem ok_check_many {f : Addr} {fd : FuncData} (F : Fun K "check_many" "check_many" s_check_many f fd) (T : Bl mg)
    (O_check_askings : Own P w K mg base CX0 3 "check_askings" ["suspects", "askings", "lies"] (sp3 (fun s a l => (∃ ns, Sus s ns) ∧ (∃ as, Ask a as) ∧ lieI l) fun _ _ _ => .none))
    (O_is_number : Own P w K mg base CX0 2 "is_number" ["thing"] (sp1 (fun _ => True) fun d => .bool (isNumD d))) : FnOk P w K mg base CX0 4 f fd ["suspects", "askings", "many", "lies"] spChk := by
  refine F.ok sc_check_many (fun vs H Q E h => ?_) (fun cdv A outer s H vs Q E hr h => ?_)
  · obtain ⟨X, v1, v2, v3, v4, s, a, m, l, ns, as, rfl, _⟩ := h
    rfl
  · obtain ⟨X, v1, v2, v3, v4, ds, da, m, l, ns, as, rfl, t, r1, r2, r3, r4, S, A2, lie, q⟩ := h
    refine ⟨_, (pss_cons (ps_expr (pe_own O_check_askings hr (by decide) (by rfl) (pa_cons (pv 0) (pa_cons (pv 1) (pa_cons (pv 3) pa_nil)))))
    (pss_one (ps_if (pt_not (pt_val (pe_own O_is_number hr (by decide) (by rfl) (pa_cons (pv 2) pa_nil))))
    (pss_one ps_never) pss_nil))), ?_⟩
    have En : EnvOk X H (L2.start n_check_many [v1, v2, v3, v4]) [.dat ds, .dat da, .dat (.int (m : Int)), .dat (.int l)] := env4 (N := n_check_many) r1 r2 r3 r4 (by decide)
    refine q_drop (g_call3 t (g_var (i := 0) En rfl) (g_var (i := 1) En rfl) (g_var (i := 3) En rfl) ⟨⟨ns, S⟩, ⟨as, A2⟩, lie⟩) fun H1 s1 => ?_
    have E1 := En.same s1
    have t1 := t.mono s1
    refine s_if (b := false) (gt_is (gt_not (gt_B (g_call1 t1 (g_var (i := 2) (d := .int (m : Int)) E1 rfl) trivial))) (by
      rcases isNumD_eq (.int (m : Int)) with ⟨i, e, _, h⟩ | ⟨h, _⟩
      · cases e
        rw [h, decide_eq_true (by omega : (0 : Int) ≤ (m : Int))]
        rfl
      · cases h)) (fun h => by cases h) fun _ H2 s2 => q H2 (s1.trans s2)
/-- are so many enough -/
def spIsEn (d : Nat) : Sp := fun us H Q _ => ∃ (X : Addr → Prop) (v1 v2 v3 v4 : V) (D : Addr) (l : Int) (n m : Nat) (M : List (List Bool)) (cs : List Nat) (C : List (IP × Option Nat)), us = [v1, v2, v3, v4, .ref D] ∧ Kc X D l n M C H ∧ DX X H v1 (mskD M) ∧ DX X H v2 (.int l) ∧ DX X H v3 (stC l cs) ∧ DX X H v4 (.int (m : Int)) ∧ cs.length = n ∧ mu l.toNat cs ≤ d ∧
  ∀ H' C', KpO D H H' → H' D = some (.dT (C'.map celH)) → Kn M l n C' → Q (.bl (enB M l.toNat m cs)) H'
-- HINT is_enough le (by omega)
abbrev s_is_enough : Stmt := topS 27
abbrev n_is_enough : List Str := ["masks", "lies", "state", "many", "known", "height"]
theorem sc_is_enough : FnScope n_is_enough ["masks", "lies", "state", "many", "known"] (defScope s_is_enough) := ⟨rfl, rfl, rfl, by decide +kernel, rfl, by decide +kernel, by decide +kernel⟩
theorem ok_is_enough {f : Addr} {fd : FuncData} {d k : Nat} (F : Fun K "is_enough" "is_enough" s_is_enough f fd) (T : Bl mg) (O_height_of : Own P w K mg base CX0 k "height_of" ["masks", "lies", "state", "known"] (spHt d)) : FnOk P w K mg base CX0 (k + 1) f fd ["masks", "lies", "state", "many", "known"] (spIsEn d) := by
  refine F.ok sc_is_enough (fun vs H Q E h => ?_) (fun cdv A outer s H vs Q E hr h => ?_)
  · obtain ⟨X, v1, v2, v3, v4, D, l, n, m, M, cs, C, rfl, _⟩ := h
    rfl
  · obtain ⟨X, v1, v2, v3, v4, D, l, n, m, M, cs, C, rfl, kc, r1, r2, r3, r4, hn, hd, q⟩ := h
    refine ⟨_, (pss_cons (ps_set (i := 5) sc_is_enough.nd rfl (by first | exact Or.inl rfl | exact Or.inr rfl) (pe_own O_height_of hr (by omega) (by rfl) (pa_cons (pv 0) (pa_cons (pv 1) (pa_cons (pv 2) (pa_cons (pv 4) pa_nil))))))
    (pss_one (ps_ret (pe_and (pe_cmpR op_notN (pv 5) pe_non (nomark _)) (pe_one (pe_cmpR op_le (pv 5) (pv 3) (nomark _))))))), ?_⟩
    have En : EnvOk X H (L2.start n_is_enough [v1, v2, v3, v4, .ref D]) [.dat (mskD M), .dat (.int l), .dat (stC l cs), .dat (.int (m : Int)), .val (.ref D), .un] := ⟨rfl, fun i s e => by
      match i, e with
      | 0, e => cases e; exact ⟨_, rfl, r1⟩
      | 1, e => cases e; exact ⟨_, rfl, r2⟩
      | 2, e => cases e; exact ⟨_, rfl, r3⟩
      | 3, e => cases e; exact ⟨_, rfl, r4⟩
      | 4, e => cases e; rfl
      | 5, e => cases e; trivial
      | _ + 6, e => cases e⟩
    refine k_set ⟨v1, rfl, v2, rfl, v3, rfl, .ref D, rfl, X, v1, v2, v3, D, l, n, M, cs, C, rfl, kc, r1, r2, r3, hn, hd, fun H1 C1 k1 hD1 kn1 => ?_⟩
    have kc1 := kc.next k1 hD1 kn1
    let hv := hh M l.toNat cs
    have E1 : EnvOk X H1 _ [.dat (mskD M), .dat (.int l), .dat (stC l cs), .dat (.int (m : Int)), .val (.ref D), .dat (hD hv)] := (En.mono (k1.kp kc.xd)).set (i := 5) (hV_D _)
    have en := en_iff (l := l.toNat) kc.hM m hn
    have nn : isNone (hD hv) = decide (hv = none) := by cases hv <;> rfl
    refine s_ret (X := X) (d := .bool (enB M l.toNat m cs)) (g_is (g_and (a := !isNone (hD hv)) (b := enB M l.toNat m cs) (g_op kc1.t (g_var (i := 5) (d := hD hv) E1 rfl) g_non rb_notN.rd) fun hb => ?_) ?_) fun w H2 s2 dw => ?_
    · obtain ⟨h, e⟩ : ∃ h, hv = some h := by
        cases e : hv with
        | none => rw [e] at hb; cases hb
        | some h => exact ⟨h, rfl⟩
      refine g_is (g_cmpI kc1.t (i := (h : Int)) (j := (m : Int)) (g := fun i j => decide (i ≤ j)) (g_is (g_var (i := 5) (d := hD hv) E1 rfl) (by rw [e]; rfl)) (g_var (i := 3) (d := .int (m : Int)) E1 rfl)) (congrArg PyData.bool ?_)
      rw [Bool.eq_iff_iff, decide_eq_true_iff, en]
      exact ⟨fun z => ⟨h, e, by omega⟩, fun ⟨h', e', z⟩ => by
        have : hv = some h' := e'
        rw [e] at this
        cases this
        omega⟩
    · refine congrArg PyData.bool ?_
      cases e : hv with
      | none =>
        cases eb : enB M l.toNat m cs with
        | false => rfl
        | true =>
          obtain ⟨h, e', _⟩ := en.mp eb
          have : hv = some h := e'
          rw [e] at this
          cases this
      | some h => rfl
    · rw [dw.bl_inv]
      exact q H2 C1 (k1.trans (KpO.of s2)) (s2 _ _ hD1) kn1
/-- the paper that is told -/
def paD (M : List (List Bool)) (ns : List Str) (l : Int) : Nat → List Nat → PyData
  | 0, cs => .tuple (((leftL ns cs l).take 2).map PyData.str)
  | m + 1, cs => .list (M.map fun ms => .tuple [.bool (!enB M l.toNat m (an true cs ms)), paD M ns l m (an (!enB M l.toNat m (an true cs ms)) cs ms)])
def paP (M : List (List Bool)) (ns : List Str) (l : Int) (m : Nat) (cs : List Nat) (ms : List Bool) : PyData := .tuple [.bool (!enB M l.toNat m (an true cs ms)), paD M ns l m (an (!enB M l.toNat m (an true cs ms)) cs ms)]
def spPa (d m : Nat) : Sp := fun us H Q _ => ∃ (X : Addr → Prop) (v0 v1 v2 v3 v4 : V) (D : Addr) (ds : PyData) (ns : List Str) (l : Int) (M : List (List Bool)) (cs : List Nat) (C : List (IP × Option Nat)), us = [v0, v1, v2, v3, v4, .ref D] ∧ Kc X D l ns.length M C H ∧ Sus ds ns ∧ DX X H v0 ds ∧ DX X H v1 (mskD M) ∧ DX X H v2 (.int l) ∧ DX X H v3 (stC l cs) ∧ DX X H v4 (.int (m : Int)) ∧ cs.length = ns.length ∧ mu l.toNat cs ≤ d ∧
  ∀ w H' C', KpO D H H' → H' D = some (.dT (C'.map celH)) → Kn M l ns.length C' → DX X H' w (paD M ns l m cs) → Q w H'
def spPaP (d : Nat) : Nat → Sp
  | 0 => fun _ _ _ _ => False
  | m + 1 => spPa d m
theorem k_isEn {X : Addr → Prop} {H : Hp} {σ : L2.St} {t1 t2 t3 t4 : TE} {i : Nat} {Γ : List Sv} {Ex : XK} {Q : VK} {d : Nat} {D : Addr} {l : Int} {n m : Nat} {M : List (List Bool)} {cs : List Nat} {C : List (IP × Option Nat)} (kc : Kc X D l n M C H) (h1 : G X t1 σ H (mskD M)) (h2 : G X t2 σ H (.int l)) (h3 : G X t3 σ H (stC l cs)) (h4 : G X t4 σ H (.int (m : Int))) (E : EnvOk X H σ Γ) (hi : Γ[i]? = some (.val (.ref D))) (hn : cs.length = n) (hd : mu l.toNat cs ≤ d)
    (q : ∀ H' C', KpO D H H' → H' D = some (.dT (C'.map celH)) → Kn M l n C' → Q (.bl (enB M l.toNat m cs)) H') : tCall (spIsEn d) [] Ex (tCons t1 (tCons t2 (tCons t3 (tCons t4 (tCons (tVar i) tNil))))) σ H Q :=
  h1 H (Same.refl _) _ fun u1 H1 s1 y1 => h2 H1 s1 _ fun u2 H2 s2 y2 => h3 H2 (s1.trans s2) _ fun u3 H3 s3 y3 => h4 H3 ((s1.trans s2).trans s3) _ fun u4 H4 s4 y4 =>
    have s := ((s1.trans s2).trans s3).trans s4
    ⟨.ref D, (E.same s).get i _ hi, X, u1, u2, u3, u4, D, l, n, m, M, cs, C, rfl, kc.same s, y1.mono (Kp.of ((s2.trans s3).trans s4)), y2.mono (Kp.of (s3.trans s4)), y3.mono (Kp.of s4), y4, hn, hd, fun H' C' k h kn => q H' C' ((KpO.of s).trans k) h kn⟩
theorem k_pa {X : Addr → Prop} {H : Hp} {σ : L2.St} {t0 t1 t2 t3 t4 : TE} {i : Nat} {Γ : List Sv} {Ex : XK} {Q : VK} {d : Nat} {D : Addr} {l : Int} {m : Nat} {ds : PyData} {ns : List Str} {M : List (List Bool)} {cs : List Nat} {C : List (IP × Option Nat)} (kc : Kc X D l ns.length M C H) (S : Sus ds ns) (h0 : G X t0 σ H ds) (h1 : G X t1 σ H (mskD M)) (h2 : G X t2 σ H (.int l)) (h3 : G X t3 σ H (stC l cs)) (h4 : G X t4 σ H (.int (m : Int))) (E : EnvOk X H σ Γ) (hi : Γ[i]? = some (.val (.ref D))) (hn : cs.length = ns.length) (hd : mu l.toNat cs ≤ d)
    (q : ∀ w H' C', KpO D H H' → H' D = some (.dT (C'.map celH)) → Kn M l ns.length C' → DX X H' w (paD M ns l m cs) → Q w H') : tCall (spPa d m) [] Ex (tCons t0 (tCons t1 (tCons t2 (tCons t3 (tCons t4 (tCons (tVar i) tNil)))))) σ H Q :=
  h0 H (Same.refl _) _ fun u0 H0 s0 y0 => h1 H0 s0 _ fun u1 H1 s1 y1 => h2 H1 (s0.trans s1) _ fun u2 H2 s2 y2 => h3 H2 ((s0.trans s1).trans s2) _ fun u3 H3 s3 y3 => h4 H3 (((s0.trans s1).trans s2).trans s3) _ fun u4 H4 s4 y4 =>
    have s := (((s0.trans s1).trans s2).trans s3).trans s4
    ⟨.ref D, (E.same s).get i _ hi, X, u0, u1, u2, u3, u4, D, ds, ns, l, M, cs, C, rfl, kc.same s, S, y0.mono (Kp.of (((s1.trans s2).trans s3).trans s4)), y1.mono (Kp.of ((s2.trans s3).trans s4)), y2.mono (Kp.of (s3.trans s4)), y3.mono (Kp.of s4), y4, hn, hd, fun w H' C' k h kn dw => q w H' C' ((KpO.of s).trans k) h kn dw⟩
-- HINT paper_from le (by omega)
abbrev s_paper_from : Stmt := topS 28
abbrev n_paper_from : List Str := ["suspects", "masks", "lies", "state", "many", "known", "paper", "mask", "further", "answer"]
theorem sc_paper_from : FnScope n_paper_from ["suspects", "masks", "lies", "state", "many", "known"] (defScope s_paper_from) := ⟨rfl, rfl, rfl, by decide +kernel, rfl, by decide +kernel, by decide +kernel⟩
theorem ok_paper_body {f : Addr} {fd : FuncData} {d k j m : Nat} (F : Fun K "paper_from" "paper_from" s_paper_from f fd) (T : Bl mg) (h1 : 1 ≤ k) (hk : k ≤ j) (O_left_in : Own P w K mg base CX0 1 "left_in" ["suspects", "state"] spLeft) (O_answered : Own P w K mg base CX0 1 "answered" ["state", "mask", "answer", "lies"] spAns)
    (O_is_enough : Own P w K mg base CX0 k "is_enough" ["masks", "lies", "state", "many", "known"] (spIsEn d)) (O_paper_from : Own P w K mg base CX0 j "paper_from" ["suspects", "masks", "lies", "state", "many", "known"] (spPaP d m)) : FnOk P w K mg base CX0 (j + 1) f fd ["suspects", "masks", "lies", "state", "many", "known"] (spPa d m) := by
  refine F.ok sc_paper_from (fun vs H Q E h => ?_) (fun cdv A outer s H vs Q E hr h => ?_)
  · obtain ⟨X, v0, v1, v2, v3, v4, D, ds, ns, l, M, cs, C, rfl, _⟩ := h
    rfl
  · obtain ⟨X, v0, v1, v2, v3, v4, D, ds, ns, l, M, cs, C, rfl, kc, S, r0, r1, r2, r3, r4, hn, hd, q⟩ := h
    refine ⟨_, (pss_cons (ps_if (pt_cmpR (op_eqD hr.units) (pv 4) pe_int (nomark _))
    (pss_one (ps_ret (pe_callTy call_tuple_of (by rfl) T.b_tuple boot_tuple (pa_cons (pe_slice sl_list (pe_own O_left_in hr (by omega) (by rfl) (pa_cons (pv 0) (pa_cons (pv 3) pa_nil))) po_none (po_some pe_int)) pa_nil)))) pss_nil)
    (pss_cons (ps_set (i := 6) sc_paper_from.nd rfl (by first | exact Or.inl rfl | exact Or.inr rfl) (pe_lst pa_nil))
    (pss_cons (ps_for PassesOwn.never rfl (pi_list (pv 1)) (pg_name (i := 7) sc_paper_from.nd rfl (by first | exact Or.inl rfl | exact Or.inr rfl))
    (pss_cons (ps_set (i := 8) sc_paper_from.nd rfl (by first | exact Or.inl rfl | exact Or.inr rfl) (pe_own O_answered hr (by omega) (by rfl) (pa_cons (pv 3) (pa_cons (pv 7) (pa_cons pe_bl (pa_cons (pv 2) pa_nil))))))
    (pss_cons (ps_set (i := 9) sc_paper_from.nd rfl (by first | exact Or.inl rfl | exact Or.inr rfl) (pe_not (pe_own O_is_enough hr (by omega) (by rfl) (pa_cons (pv 1) (pa_cons (pv 2) (pa_cons (pv 8) (pa_cons (pe_op op_sub (pv 4) pe_int) (pa_cons (pv 5) pa_nil))))))))
    (pss_cons (ps_if (pt_not (pt_val (pv 9)))
    (pss_one (ps_set (i := 8) sc_paper_from.nd rfl (by first | exact Or.inl rfl | exact Or.inr rfl) (pe_own O_answered hr (by omega) (by rfl) (pa_cons (pv 3) (pa_cons (pv 7) (pa_cons pe_bl (pa_cons (pv 2) pa_nil))))))) pss_nil)
    (pss_one (ps_expr (pe_bm PySem.F.plainAttrs_list PySem.F.slot_list_append PySem.F.type_list_append mt_append (pv 6) (pa_cons (pe_tup (pa_cons (pv 9) (pa_cons (pe_own O_paper_from hr (by omega) (by rfl) (pa_cons (pv 0) (pa_cons (pv 1) (pa_cons (pv 2) (pa_cons (pv 8) (pa_cons (pe_op op_sub (pv 4) pe_int) (pa_cons (pv 5) pa_nil))))))) pa_nil))) pa_nil))))))))
    (pss_one (ps_ret (pv 6)))))), ?_⟩
    let Γ (x6 x7 x8 x9 : Sv) : List Sv := [.dat ds, .dat (mskD M), .dat (.int l), .dat (stC l cs), .dat (.int (m : Int)), .val (.ref D), x6, x7, x8, x9]
    have En : EnvOk X H (L2.start n_paper_from [v0, v1, v2, v3, v4, .ref D]) (Γ .un .un .un .un) := ⟨rfl, fun i s e => by
      match i, e with
      | 0, e => cases e; exact ⟨_, rfl, r0⟩
      | 1, e => cases e; exact ⟨_, rfl, r1⟩
      | 2, e => cases e; exact ⟨_, rfl, r2⟩
      | 3, e => cases e; exact ⟨_, rfl, r3⟩
      | 4, e => cases e; exact ⟨_, rfl, r4⟩
      | 5, e => cases e; rfl
      | 6, e => cases e; trivial
      | 7, e => cases e; trivial
      | 8, e => cases e; trivial
      | 9, e => cases e; trivial
      | _ + 10, e => cases e⟩
    refine q_if (gt_eqI (K := K) kc.t (g_var (i := 4) (d := .int (m : Int)) En rfl) g_int) (fun hb H1 s1 => ?_) fun hb H1 s1 => ?_
    · have m0 : m = 0 := by have := of_decide_eq_true hb; omega
      subst m0
      have E1 := En.same s1
      have t1 := kc.t.mono s1
      refine s_ret (X := X) (d := paD M ns l 0 cs) (g_is (g_cb t1 (ga_cons (sl_to (K := K) t1 (g_left t1 (g_var (i := 0) (d := ds) E1 rfl) (g_var (i := 3) (d := stC l cs) E1 rfl) S hn kc.lie) (g_int (i := 2)) (by decide)) ga_nil) (rf_tuple (K := K) rfl)) rfl) fun w H2 s2 dw => q w H2 C (KpO.of (s1.trans s2)) ((s1.trans s2) _ _ kc.hD) kc.kn dw
    · obtain ⟨m', rfl⟩ : ∃ m', m = m' + 1 := ⟨m - 1, by have := of_decide_eq_false hb; omega⟩
      have E1 := En.same s1
      have kc1 := kc.same s1
      refine k_set ⟨by show 0 ≤ sizeLine; omega, fun L hL => ?_⟩
      let X2 : Addr → Prop := fun a => X a ∨ a = L
      have sN : Same H1 (upd H1 L (.lst [])) := Same.upd hL
      have m2 : More X X2 H1 := More.one hL
      have t2 : Trk X2 (upd H1 L (.lst [])) := kc1.t.one hL
      have nDL : D ≠ L := ne_of_none kc1.hD hL
      have nX : ¬ X L := kc1.t.new hL
      have kc2 : Kc X2 D l ns.length M C (upd H1 L (.lst [])) := (kc1.same sN).more (.inl kc.xd) t2
      have E2 : EnvOk X2 (upd H1 L (.lst [])) _ (Γ (.val (.ref L)) .un .un .un) := ((E1.more m2).same sN).setV (i := 6)
      have h2 : (upd H1 L (.lst [])) L = some (.lst []) := upd_same
      have back : ∀ {G : Hp}, KpS D L (upd H1 L (.lst [])) G → KpO D H G := fun {G} kk a o n e => by
        have e1 := s1 a o e
        exact kk a o n (ne_of_none e1 hL) (sN a o e1)
      generalize upd H1 L (.lst []) = H2 at *
      refine s_forD (X := X2) (gi_list (K := K) (ds := M.map fun ms => .int (KB.mk ms)) (g_var (i := 1) (d := mskD M) E2 rfl)) (fun Hb i σ' H' => Same H2 Hb ∧ KpS D L Hb H' ∧ (∃ C' xs, Kc X2 D l ns.length M C' H' ∧ H' L = some (.lst xs) ∧ DXs X2 H' xs ((M.take i).map (paP M ns l m' cs))) ∧ EnvOk X2 H' σ' (Γ (.val (.ref L)) .un .un .un)) (fun Hb sb => ⟨sb, KpS.refl, ⟨C, [], kc2.same sb, sb _ _ h2, .nil⟩, E2.same sb⟩) (fun Hb i σ' H' p => ⟨p.2.1.kp (.inl kc.xd) (.inr rfl), let ⟨_, _, k, _⟩ := p.2.2.1; k.t⟩) (fun Hb i x z σ' H' H3 sb hz p s3 dx => ?_) (fun Hb σ' H' sb p => ?_)
      · obtain ⟨sb', pk, ⟨C', xs, kcp, hLp, dxp⟩, Ep⟩ := p
        rw [List.getElem?_map] at hz
        obtain ⟨ms, hms, rfl⟩ := Option.map_eq_some_iff.mp hz
        have lms : ms.length = cs.length := by rw [kc.hM ms (List.mem_of_getElem? hms), hn]
        have li := (List.getElem?_eq_some_iff.mp hms).1
        have few := kc.few
        refine k_name ?_
        have E3 : EnvOk X2 H3 _ (Γ (.val (.ref L)) (.dat (.int (KB.mk ms))) .un .un) := (Ep.same s3).set (i := 7) dx
        have kc3 := kcp.same s3
        -- further
        refine q_set (i := 8) (d := stC l (an true cs ms)) E3 (g_ans (cs := cs) (ms := ms) (b := true) (l := l) kc3.t (g_var (i := 3) (d := stC l cs) E3 rfl) (g_var (i := 7) (d := .int (KB.mk ms)) E3 rfl) g_bl (g_var (i := 2) (d := .int l) E3 rfl) lms.symm kc.lie) fun H4 v8 s4 E4 => ?_
        have E4 : EnvOk X2 H4 _ (Γ (.val (.ref L)) (.dat (.int (KB.mk ms))) (.dat (stC l (an true cs ms))) .un) := E4
        have kc4 := kc3.same s4
        have gm : ∀ {H : Hp} {σ : L2.St} {x6 x7 x8 x9 : Sv}, Trk X2 H → EnvOk X2 H σ [.dat ds, .dat (mskD M), .dat (.int l), .dat (stC l cs), .dat (.int ((m' + 1 : Nat) : Int)), .val (.ref D), x6, x7, x8, x9] → G X2 (tOp (rI0 fun i j => V.int (i - j)) (tVar 4) (tC (.int 1))) σ H (.int (m' : Int)) := fun t E => g_is (g_sub t (g_var (i := 4) (d := .int ((m' + 1 : Nat) : Int)) E rfl) g_int) (by rw [show ((m' + 1 : Nat) : Int) - 1 = (m' : Int) by omega])
        -- answer
        refine k_set (k_notV (k_isEn (cs := an true cs ms) kc4 (g_var (i := 1) (d := mskD M) E4 rfl) (g_var (i := 2) (d := .int l) E4 rfl) (g_var (i := 8) (d := stC l (an true cs ms)) E4 rfl) (gm kc4.t E4) E4 rfl (by rw [an_len lms, hn]) (Nat.le_trans (mu_an _ _ _ _) hd) fun H5 C5 k5 hD5 kn5 => ⟨_, rfl, ?_⟩))
        generalize hb0 : (!enB M l.toNat m' (an true cs ms)) = b
        have kc5 := kc4.next k5 hD5 kn5
        have E5 : EnvOk X2 H5 _ (Γ (.val (.ref L)) (.dat (.int (KB.mk ms))) (.dat (stC l (an true cs ms))) (.dat (.bool b))) := (E4.mono (k5.kp kc4.xd)).set (i := 9) (.bl _)
        -- the other way
        refine q_ifJ (b := !b) (gt_not (gt_B (g_var (i := 9) (d := .bool b) E5 rfl))) (fun σ6 H6 => Same H5 H6 ∧ EnvOk X2 H6 σ6 (Γ (.val (.ref L)) (.dat (.int (KB.mk ms))) (.dat (stC l (an b cs ms))) (.dat (.bool b)))) (fun σ6 H6 pJ => ?_) (fun hb hJ H6 s6 => ?_) fun hb H6 s6 => ⟨s6, ?_⟩
        · obtain ⟨s6, E6⟩ := pJ
          have kc6 := kc5.same s6
          have hL6 : H6 L = some (.lst xs) := s6 _ _ (k5 _ _ (Ne.symm nDL) (s4 _ _ (s3 _ _ hLp)))
          refine k_dropE ⟨.ref L, E6.get 6 (.val (.ref L)) rfl, .inl ⟨rfl, xs, SqL.of hL6⟩, k_cons (k_tup (k_cons (g_var (i := 9) (d := .bool b) E6 rfl H6 (Same.refl _) _ fun u9 H7 s7 y7 => k_cons (k_pa (cs := an b cs ms) (m := m') (kc6.same s7) S (g_var (i := 0) (d := ds) (E6.same s7) rfl) (g_var (i := 1) (d := mskD M) (E6.same s7) rfl) (g_var (i := 2) (d := .int l) (E6.same s7) rfl) (g_var (i := 8) (d := stC l (an b cs ms)) (E6.same s7) rfl) (gm (kc6.t.mono s7) (E6.same s7)) (E6.same s7) rfl (by rw [an_len lms, hn]) (Nat.le_trans (mu_an _ _ _ _) hd) fun w8 H8 C8 k8 hD8 kn8 dw => k_nil ⟨by show 2 ≤ sizeLine; decide, fun p hp => ?_⟩))))⟩
          have kc8 := (kc6.same s7).next k8 hD8 kn8
          have sp : Same H8 (upd H8 p (.tup [u9, w8])) := Same.upd hp
          have hL8 : H8 L = some (.lst xs) := k8 _ _ (Ne.symm nDL) (s7 _ _ hL6)
          have lx : xs.length = min i M.length := by rw [dxp.length, List.length_map, List.length_take]
          refine k_nil ⟨L, xs, .ref p, rfl, rfl, sp _ _ hL8, by rw [lx, sizeLine_eq]; omega, ?_⟩
          have dq : DX X2 (upd H8 p (.tup [u9, w8])) (.ref p) (paP M ns l m' cs ms) := by
            show DX X2 _ _ (.tuple [.bool (!enB M l.toNat m' (an true cs ms)), paD M ns l m' (an (!enB M l.toNat m' (an true cs ms)) cs ms)])
            rw [hb0]
            exact DX.newT kc8.t (.cons (y7.mono (k8.kp kc4.xd)) (.cons dw .nil)) hp
          have kA : KpS D L H' H8 := (((KpS.of (s3.trans s4)).trans (kpO_S k5)).trans (KpS.of (s6.trans s7))).trans (kpO_S k8)
          have kp : Kp X2 (upd H8 p (.tup [u9, w8])) (upd (upd H8 p (.tup [u9, w8])) L (.lst (xs ++ [.ref p]))) := Kp.put (.inr rfl)
          have dall : DXs X2 (upd (upd H8 p (.tup [u9, w8])) L (.lst (xs ++ [.ref p]))) (xs ++ [.ref p]) ((M.take (i + 1)).map (paP M ns l m' cs)) := by
            rw [List.take_add_one, hms, List.map_append]
            exact (((dxp.mono (kA.kp (.inl kc.xd) (.inr rfl))).mono (Kp.of sp)).snoc dq).mono kp
          have hD9 : (upd (upd H8 p (.tup [u9, w8])) L (.lst (xs ++ [.ref p]))) D = some (.dT (C8.map celH)) := by rw [upd_ne nDL]; exact sp _ _ hD8
          have kAll : KpS D L H' (upd (upd H8 p (.tup [u9, w8])) L (.lst (xs ++ [.ref p]))) := (kA.trans (KpS.of sp)).trans (KpS.put (.inr rfl))
          have tF : Trk X2 (upd (upd H8 p (.tup [u9, w8])) L (.lst (xs ++ [.ref p]))) := (kc8.t.mono sp).put
          refine ⟨sb', pk.trans kAll, ⟨C8, xs ++ [.ref p], ⟨tF, .inl kc.xd, hD9, kn8, kc.hM, kc.n8, kc.lie, kc.few⟩, upd_same, dall⟩, ?_⟩
          have E9 := ((((E6.same s7).mono (k8.kp kc4.xd)).same sp).mono kp)
          exact envUn' (envUn' (envUn' E9 7) 8) 9
        · have bf : b = false := by cases b with
            | true => cases hb
            | false => rfl
          subst bf
          have E6 := E5.same s6
          have kc6 := kc5.same s6
          refine k_set1 (g_ans (cs := cs) (ms := ms) (b := false) (l := l) kc6.t (g_var (i := 3) (d := stC l cs) E6 rfl) (g_var (i := 7) (d := .int (KB.mk ms)) E6 rfl) g_bl (g_var (i := 2) (d := .int l) E6 rfl) lms.symm kc.lie H6 (Same.refl _) _ fun u8 H7 s7 y7 => hJ _ _ ⟨s6.trans s7, ?_⟩)
          exact (E6.same s7).set (i := 8) y7
        · have bt : b = true := by cases b with
            | true => rfl
            | false => cases hb
          subst bt
          exact E5.same s6
      · obtain ⟨sb', pk, ⟨C', xs, kcp, hLp, dxp⟩, Ep⟩ := p
        rw [List.length_map, List.take_length] at dxp
        have k0 : KpS D L H2 H' := (KpS.of sb').trans pk
        refine k_ret (te := tVar 6) ?_
        exact ⟨.ref L, Ep.get 6 (.val (.ref L)) rfl, q _ H' C' (back k0) kcp.hD kcp.kn (.lst nX hLp (dxp.less fun a => .inl))⟩
theorem ok_paper {f : Addr} {fd : FuncData} {d k : Nat} (F : Fun K "paper_from" "paper_from" s_paper_from f fd) (T : Bl mg) (h1 : 1 ≤ k) (m1 : mg "paper_from" = some (.ref f)) (m2 : PySem.W.keepIn K (.ref f) = true) (m3 : Binds K fd ["suspects", "masks", "lies", "state", "many", "known"] []) (O_left_in : Own P w K mg base CX0 1 "left_in" ["suspects", "state"] spLeft) (O_answered : Own P w K mg base CX0 1 "answered" ["state", "mask", "answer", "lies"] spAns)
    (O_is_enough : Own P w K mg base CX0 k "is_enough" ["masks", "lies", "state", "many", "known"] (spIsEn d)) :
    ∀ m : Nat, FnOk P w K mg base CX0 (k + m + 1) f fd ["suspects", "masks", "lies", "state", "many", "known"] (spPa d m)
  | 0 => ok_paper_body F T (j := k) h1 (Nat.le_refl _) O_left_in O_answered O_is_enough ⟨f, fd, m1, m2, m3, (F.ok (k := 0) sc_paper_from (fun _ _ _ _ h => h.elim) (fun _ _ _ _ _ _ _ _ _ h => h.elim) : FnOk P w K mg base CX0 1 f fd ["suspects", "masks", "lies", "state", "many", "known"] (spPaP d 0)).mono h1⟩
  | m + 1 => ok_paper_body F T (j := k + m + 1) h1 (by omega) O_left_in O_answered O_is_enough ⟨f, fd, m1, m2, m3, ok_paper F T h1 m1 m2 m3 O_left_in O_answered O_is_enough m⟩
end K80

/-! Papers told, papers looked at. -/
namespace K80
open PySem PySem.Spec PyProof.Rows L2 KD KS
variable {P : Program} {w : World} {K : PySem.W.Frag} {mg : Str → Option Value} {base : Heap}
/-! ### zip of a list and whatever is walked; targets in targets -/
def iZ2 (K : PySem.W.Frag) (ta : TA) : TI := fun σ H R => iZip K ta σ H R ∨ KZ.iZipM K ta σ H R
theorem pi_z2 {X : Cx} {e e2 : Expr} {ta : TA} {p pos tpos : Pos} {elts : List Expr} {kk : Nat} (hg : Gl X "zip") (hm : X.mg "zip" = none) (ha : PA X [e, e2] ta)
    (hs : starEach [e, e2] X.env = (false, eval e X.env) :: starEach [e2] X.env := by rfl) (hpl : (backTo pos (starEach [e2] X.env)).any (·.1) = false := by rfl) : PI X (.Tuple elts kk tpos) (.Call (.Name "zip" p) [e, e2] [] pos) (iZ2 X.K ta) :=
  ⟨fun pins s σ H R I h => h.elim (fun h => (pi_zip hg hm ha hs hpl).run pins s σ H R I h) fun h => (KZ.pi_zipM hg hm ha hs hpl).run pins s σ H R I h⟩
theorem gi_z2 {X : Addr → Prop} {H : Hp} {σ : L2.St} {te tb : TE} {ds : List PyData} {d : PyData} (h : G X te σ H (.list ds)) (h' : G X tb σ H d) (hs : isSeq d = true) : GI X (iZ2 K (tCons te (tCons tb tNil))) σ H (zipD ds (itemsD d)) := by
  cases d with
  | list es => exact fun H1 s R r => .inl (gi_zip h h' H1 s R r)
  | tuple es => exact fun H1 s R r => .inr (KZ.gi_zipM h h' H1 s R r)
  | _ => cases hs
theorem wipe_3p {σ : L2.St} {i j l : Nat} {x y z : Option V} : wipe ((((wipe σ [i, j, l]).set i x).set j y).set l z) [i, j, l] = wipe σ [i, j, l] := by
  show ((((((((σ.set l none).set j none).set i none).set i x).set j y).set l z).set l none).set j none).set i none = ((σ.set l none).set j none).set i none
  apply List.ext_getElem?
  intro n
  simp only [List.getElem?_set, List.length_set]
  by_cases h1 : i = n <;> by_cases h2 : j = n <;> by_cases h3 : l = n <;> simp_all
theorem tgt_nest {X : Addr → Prop} {H : Hp} {σ : L2.St} {Γ : List Sv} {i j l : Nat} {d c e f : PyData} (E : EnvOk X H σ Γ) (hs : isSeq c = true) (hi : itemsD c = [e, f]) : Tgt X (gTup K 2 (gCons (gName i) (gCons (gAny K 2 (gCons (gName j) (gCons (gName l) gNil))) gNil))) σ ((((((Γ.set l .un).set j .un).set i .un).set i (.dat d)).set j (.dat e)).set l (.dat f)) [i, j, l] (.tuple [d, c]) H := fun X' H3 m k t v hd Ψ q => by
  obtain ⟨a, xs, rfl, n, ea, rx⟩ := hd.tup_inv
  cases rx with
  | cons h1 r1 =>
    cases r1 with
    | cons h2 r2 =>
      cases r2
      exact ⟨a, _, rfl, SqT.of ea, rfl, _, _, rfl, _, _, rfl, g_any2 h2 hs hi fun u w h3 h4 => ⟨rfl, q _ ((((((E.more m).mono k).wipe [i, j, l] |>.set h1).set h3).set h4)) wipe_3p⟩⟩
/-! ### the paper -/
def agD (ns : List Str) (as : List (List Str)) (l : Int) (m : Nat) : PyData := if enB (msk ns as) l.toNat m (zs ns.length) = true then .none else paD (msk ns as) ns l m (zs ns.length)
def spAgn : Sp := fun us H Q _ => ∃ (X : Addr → Prop) (v1 v2 v3 v4 : V) (s a : PyData) (m : Nat) (l : Int) (ns : List Str) (as : List (List Str)), us = [v1, v2, v3, v4] ∧ Trk X H ∧ DX X H v1 s ∧ DX X H v2 a ∧ DX X H v3 (.int (m : Int)) ∧ DX X H v4 (.int l) ∧ Sus s ns ∧ Ask a as ∧ lieI (.int l) ∧ m ≤ 3 ∧ ∀ w H', Same H H' → DX X H' w (agD ns as l m) → Q w H'
def spPaA (d : Nat) : Sp := fun us H Q E => ∃ m, m ≤ 3 ∧ spPa d m us H Q E
theorem ok_paperA {f : Addr} {fd : FuncData} {d k : Nat} (h : ∀ m : Nat, FnOk P w K mg base CX0 (k + m + 1) f fd ["suspects", "masks", "lies", "state", "many", "known"] (spPa d m)) : FnOk P w K mg base CX0 (k + 4) f fd ["suspects", "masks", "lies", "state", "many", "known"] (spPaA d) :=
  ⟨fun vs H Q E ⟨m, _, q⟩ => (h m).len vs H Q E q, fun A outer s H args us vs Q E hr he hb hv ⟨m, hm, q⟩ => ((h m).mono (by omega)).run A outer s H args us vs Q E hr he hb hv q⟩
theorem k_paA {X : Addr → Prop} {H : Hp} {σ : L2.St} {t0 t1 t2 t3 t4 : TE} {i : Nat} {Γ : List Sv} {Ex : XK} {Q : VK} {d : Nat} {D : Addr} {l : Int} {m : Nat} {ds : PyData} {ns : List Str} {M : List (List Bool)} {cs : List Nat} {C : List (IP × Option Nat)} (hm : m ≤ 3) (kc : Kc X D l ns.length M C H) (S : Sus ds ns) (h0 : G X t0 σ H ds) (h1 : G X t1 σ H (mskD M)) (h2 : G X t2 σ H (.int l)) (h3 : G X t3 σ H (stC l cs)) (h4 : G X t4 σ H (.int (m : Int))) (E : EnvOk X H σ Γ) (hi : Γ[i]? = some (.val (.ref D))) (hn : cs.length = ns.length) (hd : mu l.toNat cs ≤ d)
    (q : ∀ w H' C', KpO D H H' → H' D = some (.dT (C'.map celH)) → Kn M l ns.length C' → DX X H' w (paD M ns l m cs) → Q w H') : tCall (spPaA d) [] Ex (tCons t0 (tCons t1 (tCons t2 (tCons t3 (tCons t4 (tCons (tVar i) tNil)))))) σ H Q :=
  h0 H (Same.refl _) _ fun u0 H0 s0 y0 => h1 H0 s0 _ fun u1 H1 s1 y1 => h2 H1 (s0.trans s1) _ fun u2 H2 s2 y2 => h3 H2 ((s0.trans s1).trans s2) _ fun u3 H3 s3 y3 => h4 H3 (((s0.trans s1).trans s2).trans s3) _ fun u4 H4 s4 y4 =>
    have s := (((s0.trans s1).trans s2).trans s3).trans s4
    ⟨.ref D, (E.same s).get i _ hi, m, hm, X, u0, u1, u2, u3, u4, D, ds, ns, l, M, cs, C, rfl, kc.same s, S, y0.mono (Kp.of (((s1.trans s2).trans s3).trans s4)), y1.mono (Kp.of ((s2.trans s3).trans s4)), y2.mono (Kp.of (s3.trans s4)), y3.mono (Kp.of s4), y4, hn, hd, fun w H' C' k h kn dw => q w H' C' ((KpO.of s).trans k) h kn dw⟩
-- HINT answers_against le (by omega)
-- HINT answers_against dnew pe_dnewT
abbrev s_answers_against : Stmt := topS 29
abbrev n_answers_against : List Str := ["suspects", "askings", "many", "lies", "masks", "state", "known"]
theorem sc_answers_against : FnScope n_answers_against ["suspects", "askings", "many", "lies"] (defScope s_answers_against) := ⟨rfl, rfl, rfl, by decide +kernel, rfl, by decide +kernel, by decide +kernel⟩
theorem ok_answers_against {f : Addr} {fd : FuncData} {k : Nat} (F : FunD K "answers_against" "answers_against" (defArgs s_answers_against) (defBody s_answers_against) (defScope s_answers_against) [.int 0] [] f fd) (T : Bl mg) (hk : 1 ≤ k)
    (O_check_many : Own P w K mg base CX0 4 "check_many" ["suspects", "askings", "many", "lies"] spChk)
    (O_asked_masks : Own P w K mg base CX0 1 "asked_masks" ["suspects", "askings"] (sp2 (fun s a => (∃ ns, Sus s ns) ∧ ∃ as, Ask a as) fun s a => maskD (nsOf s) (asOf a)))
    (O_start_of : Own P w K mg base CX0 1 "start_of" ["suspects"] (sp1 (fun s => ∃ ns, Sus s ns) fun s => .tuple [.int ((2 : Int) ^ (nsOf s).length - 1), .int 0]))
    (O_is_enough : Own P w K mg base CX0 k "is_enough" ["masks", "lies", "state", "many", "known"] (spIsEn 16)) (O_paper_from : Own P w K mg base CX0 (k + 4) "paper_from" ["suspects", "masks", "lies", "state", "many", "known"] (spPaA 16)) : FnOk P w K mg base CX0 (k + 5) f fd ["suspects", "askings", "many", "lies"] spAgn := by
  refine F.ok sc_answers_against (fun vs H Q E h => ?_) (fun cdv A outer s H vs Q E hr h => ?_)
  · obtain ⟨X, v1, v2, v3, v4, s, a, m, l, ns, as, rfl, _⟩ := h
    rfl
  · obtain ⟨X, v1, v2, v3, v4, ds, da, m, l, ns, as, rfl, t, r1, r2, r3, r4, S, A2, lie, hm, q⟩ := h
    refine ⟨_, PSs.nox (pss_cons (ps_expr (pe_own O_check_many hr (by omega) (by rfl) (pa_cons (pv 0) (pa_cons (pv 1) (pa_cons (pv 2) (pa_cons (pv 3) pa_nil))))))
    (pss_cons (ps_set (i := 4) sc_answers_against.nd rfl (by first | exact Or.inl rfl | exact Or.inr rfl) (pe_own O_asked_masks hr (by omega) (by rfl) (pa_cons (pv 0) (pa_cons (pv 1) pa_nil))))
    (pss_cons (ps_set (i := 5) sc_answers_against.nd rfl (by first | exact Or.inl rfl | exact Or.inr rfl) (pe_own O_start_of hr (by omega) (by rfl) (pa_cons (pv 0) pa_nil)))
    (pss_cons (ps_set (i := 6) sc_answers_against.nd rfl (by first | exact Or.inl rfl | exact Or.inr rfl) pe_dnewT)
    (pss_cons (ps_if (pt_val (pe_own O_is_enough hr (by omega) (by rfl) (pa_cons (pv 4) (pa_cons (pv 3) (pa_cons (pv 5) (pa_cons (pv 2) (pa_cons (pv 6) pa_nil)))))))
    (pss_one (ps_ret pe_non)) pss_nil)
    (pss_one (ps_ret (pe_own O_paper_from hr (by omega) (by rfl) (pa_cons (pv 0) (pa_cons (pv 4) (pa_cons (pv 3) (pa_cons (pv 5) (pa_cons (pv 2) (pa_cons (pv 6) pa_nil)))))))))))))), ?_⟩
    have En : EnvOk X H (L2.start n_answers_against [v1, v2, v3, v4]) [.dat ds, .dat da, .dat (.int (m : Int)), .dat (.int l), .un, .un, .un] := env4 (N := n_answers_against) r1 r2 r3 r4 (by decide)
    have few := S.few
    have few2 := A2.few
    refine q_drop (g_chk t (g_var (i := 0) En rfl) (g_var (i := 1) En rfl) (g_var (i := 2) En rfl) (g_var (i := 3) En rfl) S A2 lie) fun H1 s1 => ?_
    have E1 := En.same s1
    have t1 := t.mono s1
    let M := msk ns as
    refine q_set (i := 4) (d := mskD M) E1 (g_is (g_call2 t1 (g_var (i := 0) (d := ds) E1 rfl) (g_var (i := 1) (d := da) E1 rfl) ⟨⟨ns, S⟩, ⟨as, A2⟩⟩) (by rw [S.of, A2.of]; exact mskD_is ns as)) fun H2 v2' s2 E2 => ?_
    have t2 := t1.mono s2
    refine q_set (i := 5) (d := stC l (zs ns.length)) E2 (g_is (g_call1 t2 (g_var (i := 0) (d := ds) E2 rfl) ⟨ns, S⟩) (by rw [S.of]; exact start_is l _)) fun H3 v5 s3 E3 => ?_
    have t3 := t2.mono s3
    refine k_set fun D hD => ?_
    let X2 : Addr → Prop := fun a => X a ∨ a = D
    have m2 : More X X2 H3 := More.one hD
    have sN : Same H3 (upd H3 D (.dT [])) := Same.upd hD
    have t4 : Trk X2 (upd H3 D (.dT [])) := t3.one hD
    have E4 : EnvOk X2 (upd H3 D (.dT [])) _ [.dat ds, .dat da, .dat (.int (m : Int)), .dat (.int l), .dat (mskD M), .dat (stC l (zs ns.length)), .val (.ref D)] := ((E3.more m2).same sN).setV (i := 6)
    have kn0 : Kn M l ns.length [] := ⟨.nil, fun c hc => by cases hc⟩
    have kc4 : Kc X2 D l ns.length M [] (upd H3 D (.dT [])) := ⟨t4, .inr rfl, upd_same, kn0, msk_len ns as, S.few, lie, by show (as.map _).length ≤ 100; rw [List.length_map]; exact A2.few⟩
    have hmu : mu l.toNat (zs ns.length) ≤ 16 := mu_zs S.few (lie_one lie)
    have s03 : Same H H3 := (s1.trans s2).trans s3
    have back : ∀ {G : Hp}, KpO D (upd H3 D (.dT [])) G → Same H G := fun {G} k a o e => by
      have e2 := s03 a o e
      have ne : a ≠ D := ne_of_none e2 hD
      exact k a o ne (sN a o e2)
    generalize upd H3 D (.dT []) = H4 at *
    refine k_ifEk (k_isEn (cs := zs ns.length) kc4 (g_var (i := 4) (d := mskD M) E4 rfl) (g_var (i := 3) (d := .int l) E4 rfl) (g_var (i := 5) (d := stC l (zs ns.length)) E4 rfl) (g_var (i := 2) (d := .int (m : Int)) E4 rfl) E4 rfl (zs_len _) hmu fun H5 C5 k5 hD5 kn5 => ⟨_, rfl, ?_⟩)
    have kc5 := kc4.next k5 hD5 kn5
    have E5 := E4.mono (k5.kp kc4.xd)
    have qq := q
    unfold agD at qq
    cases e : enB M l.toNat m (zs ns.length) with
    | true =>
      refine iteT ?_
      rw [if_pos e] at qq
      exact k_ret (k_c (qq .non H5 (back k5) .non))
    | false =>
      refine iteF ?_
      rw [if_neg (by rw [show enB (msk ns as) l.toNat m (zs ns.length) = false from e]; simp)] at qq
      exact k_ret (k_paA (m := m) (cs := zs ns.length) hm kc5 S (g_var (i := 0) (d := ds) E5 rfl) (g_var (i := 4) (d := mskD M) E5 rfl) (g_var (i := 3) (d := .int l) E5 rfl) (g_var (i := 5) (d := stC l (zs ns.length)) E5 rfl) (g_var (i := 2) (d := .int (m : Int)) E5 rfl) E5 rfl (zs_len _) hmu fun w H6 C6 k6 h6 kn6 dw => qq w H6 (back (k5.trans k6)) (dw.less fun a => .inl))
/-! ### is it one -/
/-- plain data -/
structure Pl (d : PyData) : Prop where
  nd : noDict d = true
  cl : d.canLay0 = true
  dp : d.depth ≤ 60
theorem Pl.sh {d : PyData} (h : Pl d) : SeqAt.shaped d = true := by
  show (d.canLay0 && decide (d.depth ≤ 64)) = true
  rw [h.cl, decide_eq_true (by have := h.dp; omega)]
  rfl
def inL (ls : List Str) (d : PyData) : Bool := (ls.map PyData.str).any fun z => PyData.eqv z d
def twoB (ls : List Str) (d : PyData) : Bool := (isSeq d && decide (lenD d = 2)) && (inL ls (it d 0) && (inL ls (it d 1) && !PyData.eqv (it d 0) (it d 1)))
theorem g_inL {X : Addr → Prop} {H : Hp} {σ : L2.St} {ta tb : TE} {d : PyData} {ls : List Str} (t : Trk X H) (ha : G X ta σ H d) (hb : G X tb σ H (wsD ls)) (p : Pl d) (ok : ∀ z ∈ ls, PyData.strOk z = true) : G X (tOp (rInD K) ta tb) σ H (.bool (inL ls d)) :=
  g_inD t ha hb p.nd (noDict_strs ls) p.sh (shaped_strs ok)
theorem strs_ok {ls : List Str} (h : ∀ z ∈ ls, z ∈ sNames) : ∀ z ∈ ls, PyData.strOk z = true := fun z hz => (tNames_ok z (List.mem_append_left _ (h z hz))).1
def Tw (d : PyData) : Prop := isSeq d = true → ∀ z ∈ itemsD d, Pl z
def spTwo : Sp := fun us H Q _ => ∃ (X : Addr → Prop) (v1 v2 v3 : V) (s d : PyData) (ns : List Str) (l : Int) (cs : List Nat), us = [v1, v2, v3] ∧ Trk X H ∧ DX X H v1 s ∧ DX X H v2 (stC l cs) ∧ DX X H v3 d ∧ Sus s ns ∧ cs.length = ns.length ∧ lieI (.int l) ∧ Tw d ∧ ∀ H', Same H H' → Q (.bl (twoB (leftL ns cs l) d)) H'
theorem left_ok {ns : List Str} {cs : List Nat} {l : Int} (h : ∀ z ∈ ns, z ∈ sNames) : ∀ z ∈ leftL ns cs l, z ∈ sNames := fun z hz => h z (left_zs z hz)
-- HINT are_two_left le (by omega)
-- HINT are_two_left ix (ix_seqK (K := K) rfl)
-- HINT are_two_left in (op_inDK (K := K) rfl (hu65 hr))
abbrev s_are_two_left : Stmt := topS 30
abbrev n_are_two_left : List Str := ["suspects", "state", "thing", "left"]
theorem sc_are_two_left : FnScope n_are_two_left ["suspects", "state", "thing"] (defScope s_are_two_left) := ⟨rfl, rfl, rfl, by decide +kernel, rfl, by decide +kernel, by decide +kernel⟩
theorem ok_are_two {f : Addr} {fd : FuncData} (F : Fun K "are_two_left" "are_two_left" s_are_two_left f fd) (T : Bl mg) (O_is_pair : Own P w K mg base CX0 2 "is_pair" ["thing"] (sp1 (fun _ => True) fun d => .bool (isSeq d && decide (lenD d = 2)))) (O_left_in : Own P w K mg base CX0 1 "left_in" ["suspects", "state"] spLeft) : FnOk P w K mg base CX0 3 f fd ["suspects", "state", "thing"] spTwo := by
  refine F.ok sc_are_two_left (fun vs H Q E h => ?_) (fun cdv A outer s H vs Q E hr h => ?_)
  · obtain ⟨X, v1, v2, v3, s, d, ns, l, cs, rfl, _⟩ := h
    rfl
  · obtain ⟨X, v1, v2, v3, ds, d, ns, l, cs, rfl, t, r1, r2, r3, S, hn, lie, tw, q⟩ := h
    refine ⟨_, (pss_cons (ps_set (i := 3) sc_are_two_left.nd rfl (by first | exact Or.inl rfl | exact Or.inr rfl) (pe_own O_left_in hr (by omega) (by rfl) (pa_cons (pv 0) (pa_cons (pv 1) pa_nil))))
    (pss_one (ps_ret (pe_and (pe_own O_is_pair hr (by omega) (by rfl) (pa_cons (pv 2) pa_nil)) (pe_and (pe_cmpR (op_inDK (K := K) rfl (hu65 hr)) (pe_ix (ix_seqK (K := K) rfl) (pv 2) pe_int (fun _ _ => rfl)) (pv 3) (by rfl)) (pe_and (pe_cmpR (op_inDK (K := K) rfl (hu65 hr)) (pe_ix (ix_seqK (K := K) rfl) (pv 2) pe_int (fun _ _ => rfl)) (pv 3) (by rfl)) (pe_one (pe_cmpR (op_neD hr.units) (pe_ix (ix_seqK (K := K) rfl) (pv 2) pe_int (fun _ _ => rfl)) (pe_ix (ix_seqK (K := K) rfl) (pv 2) pe_int (fun _ _ => rfl)) (nomark _))))))))), ?_⟩
    have En : EnvOk X H (L2.start n_are_two_left [v1, v2, v3]) [.dat ds, .dat (stC l cs), .dat d, .un] := env3 (N := n_are_two_left) r1 r2 r3 (by decide)
    refine q_set (i := 3) (d := wsD (leftL ns cs l)) En (g_left t (g_var (i := 0) (d := ds) En rfl) (g_var (i := 1) (d := stC l cs) En rfl) S hn lie) fun H1 v s1 E1 => ?_
    have t1 := t.mono s1
    have ok := strs_ok (left_ok (cs := cs) (l := l) S.ok)
    refine s_ret (X := X) (d := .bool (twoB (leftL ns cs l) d)) (g_and (g_call1 t1 (g_var (i := 2) (d := d) E1 rfl) trivial) fun hb => ?_) fun w H2 s2 dw => ?_
    · rw [Bool.and_eq_true, decide_eq_true_iff] at hb
      obtain ⟨hs, l2⟩ := hb
      have li : (itemsD d).length = 2 := by rw [← lenD_seq hs]; exact l2
      have gx : ∀ (j : Nat), j < 2 → G X (tOp (rIx K) (tVar 2) (tC (.int (j : Int)))) _ H1 (it d j) := fun j hj => g_ix t1 (g_var (i := 2) (d := d) E1 rfl) hs g_int (it_at (i := j) rfl (by omega))
      have p0 := tw hs _ (it_mem (d := d) (i := 0) (by omega))
      have p1 := tw hs _ (it_mem (d := d) (i := 1) (by omega))
      exact g_and (g_inL t1 (gx 0 (by omega)) (g_var (i := 3) (d := wsD (leftL ns cs l)) E1 rfl) p0 ok) fun _ => g_and (g_inL t1 (gx 1 (by omega)) (g_var (i := 3) (d := wsD (leftL ns cs l)) E1 rfl) p1 ok) fun _ => g_op t1 (gx 0 (by omega)) (gx 1 (by omega)) (rb_neD p0.nd p1.nd p0.sh p1.sh).rd
    · rw [dw.bl_inv]
      exact q H2 (s1.trans s2)
def pairB (z : PyData) : Bool := (isSeq z && decide (lenD z = 2)) && isa_bool (it z 0)
def okB (n : Nat) (d : PyData) : Bool := isSeq d && (decide (lenD d = n) && (itemsD d).all pairB)
-- HINT are_answers it pi_seq
-- HINT are_answers le (by decide)
-- HINT are_answers lcte#1 (tAndV (tCall (sp1 (fun _ => True) fun d => .bool (isSeq d && decide (lenD d = 2))) [] E0 (tCons (tVar 2) tNil)) (tCall (sp1 (fun _ => True) fun d => .bool (isa_bool d)) [] E0 (tCons (tOp (rIx K) (tVar 2) (tC (.int 0))) tNil)))
abbrev s_are_answers : Stmt := topS 31
abbrev n_are_answers : List Str := ["thing", "many", "pair"]
theorem sc_are_answers : FnScope n_are_answers ["thing", "many"] (defScope s_are_answers) := ⟨rfl, rfl, rfl, by decide +kernel, rfl, by decide +kernel, by decide +kernel⟩
theorem ok_are_answers {f : Addr} {fd : FuncData} (F : Fun K "are_answers" "are_answers" s_are_answers f fd) (T : Bl mg) (O_is_list : Own P w K mg base CX0 1 "is_list" ["thing"] (sp1 (fun _ => True) fun d => .bool (isSeq d))) (O_is_pair : Own P w K mg base CX0 2 "is_pair" ["thing"] (sp1 (fun _ => True) fun d => .bool (isSeq d && decide (lenD d = 2))))
    (O_is_truth : Own P w K mg base CX0 1 "is_truth" ["thing"] (sp1 (fun _ => True) fun d => .bool (isa_bool d))) : FnOk P w K mg base CX0 3 f fd ["thing", "many"] (sp2 (fun d m => ∃ n : Nat, m = .int (n : Int) ∧ n ≤ 1000) fun d m => .bool (okB (intOf m).toNat d)) := by
  refine ok2 F sc_are_answers (by decide) fun cdv A outer s H E X d m Q hr t hp q => ⟨_, (pss_one (ps_ret (pe_and (pe_own O_is_list hr (by decide) (by rfl) (pa_cons (pv 0) pa_nil)) (pe_and (pe_cmpR (op_eqD hr.units) (pe_callB call_len (by rfl) T.b_len boot_len (pa_cons (pv 0) pa_nil)) (pv 1) (nomark _)) (pe_one (pe_callB (cr_all rfl) (by rfl) T.b_all boot_all (pa_cons (pe_lc (own := [("pair", 2)]) (g := (gName 2)) (tt := tYes) (te := (tAndV (tCall (sp1 (fun _ => True) fun d => .bool (isSeq d && decide (lenD d = 2))) [] E0 (tCons (tVar 2) tNil)) (tCall (sp1 (fun _ => True) fun d => .bool (isa_bool d)) [] E0 (tCons (tOp (rIx K) (tVar 2) (tC (.int 0))) tNil)))) rfl sc_are_answers.nd (pi_seq (pv 0)) (blkOk_by (N := n_are_answers) (sc := defScope s_are_answers) (by decide +kernel)) (fun _ _ _ _ _ => (pg_name (i := 2) sc_are_answers.nd rfl (by first | exact Or.inl rfl | exact Or.inr rfl))) (fun _ _ _ _ _ => pts_nil) (fun _ _ _ _ _ => (pe_and (pe_own O_is_pair hr (by decide) (by rfl) (pa_cons (pv 2) pa_nil)) (pe_one (pe_own O_is_truth hr (by decide) (by rfl) (pa_cons (pe_ix ix_seq (pv 2) pe_int (fun _ _ => rfl)) pa_nil)))))) pa_nil))))))), fun σ En => ?_⟩
  obtain ⟨n, rfl, hn⟩ := hp
  refine s_ret (X := X) (d := .bool (okB (intOf (.int (n : Int))).toNat d)) (g_and (g_call1 t (g_var (i := 0) (d := d) En rfl) trivial) fun hs => ?_) q
  refine g_and (g_is (g_eqD (K := K) t (g_len t (g_var (i := 0) (d := d) En rfl) (hasLen_seq hs)) (g_var (i := 1) (d := .int (n : Int)) En rfl) rfl rfl (shaped_int _) (shaped_int _)) (by rw [eqv_int]; exact congrArg PyData.bool (decide_eq_decide.mpr (by show _ ↔ _ = (n : Int).toNat; omega)))) fun hl => ?_
  have hl := of_decide_eq_true hl
  have li : (itemsD d).length ≤ 1000 := by rw [← lenD_seq hs, hl]; show (n : Int).toNat ≤ _; omega
  refine g_is (g_all t (bs := (itemsD d).map pairB) (g_is (g_lc1 (Γ2 := fun z => [.dat d, .dat (.int (n : Int)), .dat z]) (fun z => .bool (pairB z)) t (gi_seq (g_var (i := 0) (d := d) En rfl) hs) (by omega) (fun H1 s z hz => tgt_name (En.same s)) (fun X' H1 σ2 z hz t E => ?_)) (by rw [List.map_map]; rfl))) (by rw [List.all_map]; rfl)
  refine g_and (g_call1 t (g_var (i := 2) (d := z) E rfl) trivial) fun hb => ?_
  rw [Bool.and_eq_true, decide_eq_true_iff] at hb
  exact g_call1 t (g_ix t (g_var (i := 2) (d := z) E rfl) hb.1 g_int (it_at (i := 0) rfl (by rw [← lenD_seq hb.1]; omega))) trivial
end K80

/-! Is any object such a paper. -/
namespace K80
open PySem PySem.Spec PyProof.Rows L2 KD KS
variable {P : Program} {w : World} {K : PySem.W.Frag} {mg : Str → Option Value} {base : Heap}
/-- whether a thing is a paper, so deep -/
def agB (M : List (List Bool)) (ns : List Str) (l : Int) : Nat → List Nat → PyData → Bool
  | 0, cs, d => twoB (leftL ns cs l) d
  | k + 1, cs, d => okB M.length d && (List.range M.length).all fun i => agB M ns l k (an (blOf (it (it d i) 0)) cs (M.getD i [])) (it (it d i) 1)
/-- what can be asked about it -/
def GT : Nat → PyData → Prop
  | 0, d => Tw d
  | k + 1, d => isSeq d = true → ∀ z ∈ itemsD d, pairB z = true → GT k (it z 1)
abbrev It3 := List Nat × Nat × PyData
def i3D (l : Int) (t : It3) : PyData := .tuple [stC l t.1, .int (t.2.1 : Int), t.2.2]
def wgt (N : Nat) (ts : List It3) : Nat := (ts.map fun t => (N + 1) ^ t.2.1).sum
theorem wgt_app (N : Nat) (a b : List It3) : wgt N (a ++ b) = wgt N a + wgt N b := by unfold wgt; rw [List.map_append, List.sum_append]
theorem wgt_len (N : Nat) : ∀ ts : List It3, ts.length ≤ wgt N ts
  | [] => Nat.zero_le _
  | t :: ts => by
    have ih := wgt_len N ts
    have : 1 ≤ (N + 1) ^ t.2.1 := Nat.one_le_pow _ _ (by omega)
    show ts.length + 1 ≤ (N + 1) ^ t.2.1 + wgt N ts
    omega
def msOf (M : List (List Bool)) (i : Int) : List Bool := (M.find? fun ms => decide (KB.mk ms = i)).getD []
theorem ms_of {M : List (List Bool)} {n : Nat} (hM : ∀ ms ∈ M, ms.length = n) {ms : List Bool} (h : ms ∈ M) : msOf M (KB.mk ms) = ms := by
  unfold msOf
  cases e : M.find? fun x => decide (KB.mk x = KB.mk ms) with
  | none => exact absurd (List.find?_eq_none.mp e ms h) (by simp)
  | some x =>
    have h1 := List.mem_of_find?_eq_some e
    have h2 : KB.mk x = KB.mk ms := by simpa using List.find?_some e
    show x = ms
    exact mk_inj (by rw [hM x h1, hM ms h]) h2
/-- what comes of one pair -/
def nxD (M : List (List Bool)) (l : Int) (k : Nat) (cs : List Nat) (z : PyData) : It3 := (an (blOf (it (it z 1) 0)) cs (msOf M (intOf (it z 0))), k, it (it z 1) 1)
def nxI (M : List (List Bool)) (k : Nat) (cs : List Nat) (d : PyData) (i : Nat) : It3 := (an (blOf (it (it d i) 0)) cs (M.getD i []), k, it (it d i) 1)
theorem nx_list {M : List (List Bool)} {n : Nat} (hM : ∀ ms ∈ M, ms.length = n) {l : Int} {k : Nat} {cs : List Nat} {d : PyData} (hl : (itemsD d).length = M.length) :
    (zipD (M.map fun ms => PyData.int (KB.mk ms)) (itemsD d)).map (fun z => i3D l (nxD M l k cs z)) = ((List.range M.length).map (nxI M k cs d)).map (i3D l) := by
  apply List.ext_getElem?
  intro i
  unfold zipD
  rw [List.map_map, List.getElem?_map, List.getElem?_map, List.getElem?_zipWith, List.getElem?_map]
  by_cases h : i < M.length
  · have h2 : i < (itemsD d).length := by omega
    rw [List.getElem?_eq_getElem h, List.getElem?_eq_getElem h2, List.getElem?_range h]
    have e1 : it d i = (itemsD d)[i] := by unfold it; rw [List.getD_eq_getElem?_getD, List.getElem?_eq_getElem h2]; rfl
    have e2 : M.getD i [] = M[i] := by rw [List.getD_eq_getElem?_getD, List.getElem?_eq_getElem h]; rfl
    have e3 := ms_of hM (List.getElem_mem h)
    show some (i3D l (an (blOf (it (itemsD d)[i] 0)) cs (msOf M (KB.mk M[i])), k, it (itemsD d)[i] 1)) = some (i3D l (an (blOf (it (it d i) 0)) cs (M.getD i []), k, it (it d i) 1))
    rw [e1, e2, e3]
  · rw [List.getElem?_eq_none (by omega), List.getElem?_eq_none (l := List.range M.length) (by rw [List.length_range]; omega)]
    rfl
section
variable {X : Addr → Prop} {σ : L2.St} {H : Hp} {te : TE} {tz : TS} {D : Ends}
theorem k_ext2 {ta : TE} {i : Nat} {R : Addr} {ys : List V} {ds : List PyData} {Q : VK} (g : σ[i]? = some (some (.ref R))) (hR : H R = some (.lst ys)) (hl : ys.length + ds.length ≤ 1000000) (ha : G X ta σ H (.list ds)) (q : ∀ vs H1, Same H H1 → DXs X H1 vs ds → Q .non (upd H1 R (.lst (ys ++ vs)))) : tBM K "list" rExtend (tVar i) (tCons ta tNil) σ H Q :=
  ⟨.ref R, g, .inl ⟨rfl, ys, SqL.of hR⟩, ha H (Same.refl H) _ fun v H1 s r => by
    obtain ⟨b, zs, rfl, nb, eb, rb⟩ := r.lst_inv
    exact ⟨R, b, ys, zs, rfl, rfl, s _ _ hR, eb, by rw [rb.length, sizeLine_eq]; omega, q zs H1 s rb⟩⟩
end
theorem ok_pair {n : Nat} {d : PyData} (h : okB n d = true) : isSeq d = true ∧ (itemsD d).length = n ∧ ∀ z ∈ itemsD d, pairB z = true := by
  unfold okB at h
  rw [Bool.and_eq_true, Bool.and_eq_true, decide_eq_true_iff, List.all_eq_true] at h
  exact ⟨h.1, by rw [← lenD_seq h.1]; exact h.2.1, h.2.2⟩
theorem pair_of {z : PyData} (h : pairB z = true) : isSeq z = true ∧ itemsD z = [it z 0, it z 1] ∧ it z 0 = .bool (blOf (it z 0)) := by
  unfold pairB at h
  rw [Bool.and_eq_true, Bool.and_eq_true, decide_eq_true_iff] at h
  obtain ⟨⟨hs, hl⟩, hb⟩ := h
  have li : (itemsD z).length = 2 := by rw [← lenD_seq hs]; exact hl
  refine ⟨hs, ?_, ?_⟩
  · unfold it
    match e : itemsD z, li with
    | [a, b], _ => rfl
  · cases e : it z 0 with
    | bool b => rfl
    | _ => rw [e] at hb; cases hb
def spAg (k0 : Nat) : Sp := fun vs H Q _ => ∃ (X : Addr → Prop) (v1 v2 v3 v4 v5 : V) (s a d : PyData) (l : Int) (ns : List Str) (as : List (List Str)), vs = [v1, v2, v3, v4, v5] ∧ Trk X H ∧ DX X H v1 s ∧ DX X H v2 a ∧ DX X H v3 (.int (k0 : Int)) ∧ DX X H v4 d ∧ DX X H v5 (.int l) ∧ Sus s ns ∧ Ask a as ∧ lieI (.int l) ∧ (as.length + 1) ^ k0 ≤ 1000 ∧ GT k0 d ∧
  ∀ H', Same H H' → Q (.bl (agB (msk ns as) ns l k0 (zs ns.length) d)) H'
-- HINT are_against le (by omega)
-- HINT are_against zip pi_z2
-- HINT are_against tgtin pg_any gAny
-- HINT are_against it pi_seq
abbrev s_are_against : Stmt := topS 32
abbrev n_are_against : List Str := ["suspects", "askings", "many", "thing", "lies", "masks", "rest", "state", "left", "paper", "mask", "answer", "further"]
theorem sc_are_against : FnScope n_are_against ["suspects", "askings", "many", "thing", "lies"] (defScope s_are_against) := ⟨rfl, rfl, rfl, by decide +kernel, rfl, by decide +kernel, by decide +kernel⟩
theorem ok_are_against {f : Addr} {fd : FuncData} {k0 : Nat} (F : FunD K "are_against" "are_against" (defArgs s_are_against) (defBody s_are_against) (defScope s_are_against) [.int 0] [] f fd) (T : Bl mg)
    (O_check_many : Own P w K mg base CX0 4 "check_many" ["suspects", "askings", "many", "lies"] spChk)
    (O_asked_masks : Own P w K mg base CX0 1 "asked_masks" ["suspects", "askings"] (sp2 (fun s a => (∃ ns, Sus s ns) ∧ ∃ as, Ask a as) fun s a => maskD (nsOf s) (asOf a)))
    (O_start_of : Own P w K mg base CX0 1 "start_of" ["suspects"] (sp1 (fun s => ∃ ns, Sus s ns) fun s => .tuple [.int ((2 : Int) ^ (nsOf s).length - 1), .int 0]))
    (O_answered : Own P w K mg base CX0 1 "answered" ["state", "mask", "answer", "lies"] spAns)
    (O_are_two_left : Own P w K mg base CX0 3 "are_two_left" ["suspects", "state", "thing"] spTwo)
    (O_are_answers : Own P w K mg base CX0 3 "are_answers" ["thing", "many"] (sp2 (fun d m => ∃ n : Nat, m = .int (n : Int) ∧ n ≤ 1000) fun d m => .bool (okB (intOf m).toNat d))) : FnOk P w K mg base CX0 5 f fd ["suspects", "askings", "many", "thing", "lies"] (spAg k0) := by
  refine F.ok sc_are_against (fun vs H Q E h => ?_) (fun cdv A outer s H vs Q E hr h => ?_)
  · obtain ⟨X, v1, v2, v3, v4, v5, s, a, d, l, ns, as, rfl, _⟩ := h
    rfl
  · obtain ⟨X, v1, v2, v3, v4, v5, ds, da, d0, l, ns, as, rfl, t, r1, r2, r3, r4, r5, S, A2, lie, hk0, hgt, q⟩ := h
    refine ⟨_, PSs.nox (pss_cons (ps_expr (pe_own O_check_many hr (by omega) (by rfl) (pa_cons (pv 0) (pa_cons (pv 1) (pa_cons (pv 2) (pa_cons (pv 4) pa_nil))))))
    (pss_cons (ps_set (i := 5) sc_are_against.nd rfl (by first | exact Or.inl rfl | exact Or.inr rfl) (pe_own O_asked_masks hr (by omega) (by rfl) (pa_cons (pv 0) (pa_cons (pv 1) pa_nil))))
    (pss_cons (ps_set (i := 6) sc_are_against.nd rfl (by first | exact Or.inl rfl | exact Or.inr rfl) (pe_lst (pa_cons (pe_tup (pa_cons (pe_own O_start_of hr (by omega) (by rfl) (pa_cons (pv 0) pa_nil)) (pa_cons (pv 2) (pa_cons (pv 3) pa_nil)))) pa_nil)))
    (Evl.pss_cut (ps_while PassesOwn.never (pt_cmpR op_gt (pe_callB call_len (by rfl) T.b_len boot_len (pa_cons (pv 6) pa_nil)) pe_int (nomark _))
    (pss_cons (ps_asg (pe_bm0 PySem.F.plainAttrs_list PySem.F.slot_list_pop PySem.F.type_list_pop mt_pop (pv 6)) (pg_tup (n := 3) rfl (pgs_cons (pg_name (i := 7) sc_are_against.nd rfl (by first | exact Or.inl rfl | exact Or.inr rfl)) (pgs_cons (pg_name (i := 8) sc_are_against.nd rfl (by first | exact Or.inl rfl | exact Or.inr rfl)) (pgs_cons (pg_name (i := 9) sc_are_against.nd rfl (by first | exact Or.inl rfl | exact Or.inr rfl)) pgs_nil)))))
    (pss_one (ps_if (pt_cmpR (op_eqD hr.units) (pv 8) pe_int (nomark _))
    (pss_one (ps_if (pt_not (pt_val (pe_own O_are_two_left hr (by omega) (by rfl) (pa_cons (pv 0) (pa_cons (pv 7) (pa_cons (pv 9) pa_nil))))))
    (pss_one (ps_ret pe_bl)) pss_nil)) (pss_one (ps_if (pt_not (pt_val (pe_own O_are_answers hr (by omega) (by rfl) (pa_cons (pv 9) (pa_cons (pe_callB call_len (by rfl) T.b_len boot_len (pa_cons (pv 5) pa_nil)) pa_nil)))))
    (pss_one (ps_ret pe_bl)) (pss_one (ps_expr (pe_bm PySem.F.plainAttrs_list PySem.F.slot_list_extend PySem.F.type_list_extend mt_extend (pv 6) (pa_cons (pe_lc (own := [("mask", 10), ("answer", 11), ("further", 12)]) (g := (gTup K 2 (gCons (gName 10) (gCons (gAny K 2 (gCons (gName 11) (gCons (gName 12) gNil))) gNil)))) (tt := tYes) rfl sc_are_against.nd (pi_z2 (by rfl) T.b_zip (pa_cons (pv 5) (pa_cons (pv 9) pa_nil))) (blkOk_by (N := n_are_against) (sc := defScope s_are_against) (by decide +kernel)) (fun _ _ _ _ _ => (pg_tup (n := 2) rfl (pgs_cons (pg_name (i := 10) sc_are_against.nd rfl (by first | exact Or.inl rfl | exact Or.inr rfl)) (pgs_cons (by exact (pg_any (n := 2) rfl (pgs_cons (pg_name (i := 11) sc_are_against.nd rfl (by first | exact Or.inl rfl | exact Or.inr rfl)) (pgs_cons (pg_name (i := 12) sc_are_against.nd rfl (by first | exact Or.inl rfl | exact Or.inr rfl)) pgs_nil)))) pgs_nil)))) (fun _ _ _ _ _ => pts_nil) (fun _ _ _ _ _ => (pe_tup (pa_cons (pe_own O_answered hr (by omega) (by rfl) (pa_cons (pv 7) (pa_cons (pv 10) (pa_cons (pv 11) (pa_cons (pv 4) pa_nil))))) (pa_cons (pe_op op_sub (pv 8) pe_int) (pa_cons (pv 12) pa_nil)))))) pa_nil))))))))))
    (pss_one (ps_ret pe_bl)))))), ?_⟩
    let M := msk ns as
    let Γ (x5 x6 x7 x8 x9 : Sv) : List Sv := [.dat ds, .dat da, .dat (.int (k0 : Int)), .dat d0, .dat (.int l), x5, x6, x7, x8, x9, .un, .un, .un]
    have En : EnvOk X H (L2.start n_are_against [v1, v2, v3, v4, v5]) (Γ .un .un .un .un .un) := ⟨rfl, fun i s e => by
      match i, e with
      | 0, e => cases e; exact ⟨_, rfl, r1⟩
      | 1, e => cases e; exact ⟨_, rfl, r2⟩
      | 2, e => cases e; exact ⟨_, rfl, r3⟩
      | 3, e => cases e; exact ⟨_, rfl, r4⟩
      | 4, e => cases e; exact ⟨_, rfl, r5⟩
      | 5, e => cases e; trivial
      | 6, e => cases e; trivial
      | 7, e => cases e; trivial
      | 8, e => cases e; trivial
      | 9, e => cases e; trivial
      | 10, e => cases e; trivial
      | 11, e => cases e; trivial
      | 12, e => cases e; trivial
      | _ + 13, e => cases e⟩
    refine q_drop (g_chk t (g_var (i := 0) En rfl) (g_var (i := 1) En rfl) (g_var (i := 2) En rfl) (g_var (i := 4) En rfl) S A2 lie) fun H1 s1 => ?_
    have E1 := En.same s1
    have t1 := t.mono s1
    have hM := msk_len ns as
    have lM : M.length = as.length := by show (as.map _).length = _; rw [List.length_map]
    refine q_set (i := 5) (d := mskD M) E1 (g_is (g_call2 t1 (g_var (i := 0) (d := ds) E1 rfl) (g_var (i := 1) (d := da) E1 rfl) ⟨⟨ns, S⟩, ⟨as, A2⟩⟩) (by rw [S.of, A2.of]; exact mskD_is ns as)) fun H2 v2' s2 E2 => ?_
    have t2 := t1.mono s2
    refine k_set (k_lst (k_cons (g_tup t2 (ga_cons (d := stC l (zs ns.length)) (g_is (g_call1 t2 (g_var (i := 0) (d := ds) E2 rfl) ⟨ns, S⟩) (by rw [S.of]; exact start_is l _)) (ga_cons (g_var (i := 2) (d := .int (k0 : Int)) E2 rfl) (ga_cons (g_var (i := 3) (d := d0) E2 rfl) ga_nil))) (by simp) H2 (Same.refl _) _ fun v3 H3 s3 y3 => k_nil ⟨by simp [sizeLine_eq], fun R hR => ?_⟩)))
    let X2 : Addr → Prop := fun a => X a ∨ a = R
    have t3 := t2.mono s3
    have m2 : More X X2 H3 := More.one hR
    have sN : Same H3 (upd H3 R (.lst [v3])) := Same.upd hR
    have tR : Trk X2 (upd H3 R (.lst [v3])) := t3.one hR
    have E3 : EnvOk X2 (upd H3 R (.lst [v3])) _ (Γ (.dat (mskD M)) (.val (.ref R)) .un .un .un) := (((E2.same s3).more m2).same sN).setV (i := 6)
    have s03 : Same H H3 := (s1.trans s2).trans s3
    have back : ∀ {G : Hp}, KpO R (upd H3 R (.lst [v3])) G → Same H G := fun {G} k a o e => by
      have e2 := s03 a o e
      exact k a o (ne_of_none e2 hR) (sN a o e2)
    let due : Bool := agB M ns l k0 (zs ns.length) d0
    let W : Nat → L2.St → Hp → Prop := fun m σ' H' => ∃ (items : List It3) (xs : List V), m = wgt as.length items ∧ m ≤ 1000 ∧ (items.all fun t => agB M ns l t.2.1 t.1 t.2.2) = due ∧ (∀ t ∈ items, t.1.length = ns.length ∧ GT t.2.1 t.2.2) ∧ KpO R (upd H3 R (.lst [v3])) H' ∧ Trk X2 H' ∧ H' R = some (.lst xs) ∧ DXs X2 H' xs (items.map (i3D l)) ∧ EnvOk X2 H' σ' (Γ (.dat (mskD M)) (.val (.ref R)) .un .un .un)
    refine Evl.q_cut (M := fun σ' H' => KpO R (upd H3 R (.lst [v3])) H' ∧ due = true) ?_ ?_
    · refine ⟨W, ⟨_, [(zs ns.length, k0, d0)], [v3], rfl, by simpa [wgt] using hk0, by simp [due], fun x hx => ?_, KpO.of (Same.refl _), tR, upd_same, ?_, E3⟩, ?_⟩
      · rw [List.mem_singleton.mp hx]
        exact ⟨zs_len _, hgt⟩
      · exact .cons ((y3.more m2).mono (Kp.of sN)) .nil
      rintro m σ' H' ⟨items, xs, hm, hm1, hall, good, kp, tH, hxs, dxs, E'⟩
      have hlen : xs.length = items.length := by rw [dxs.length, List.length_map]
      have hw := wgt_len as.length items
      refine k_test ⟨.ref R, E'.get 6 (.val (.ref R)) rfl, .ref R, xs.length, rfl, .inl ⟨xs, SqL.of hxs, rfl⟩, (xs.length : Int), 0, rfl, rfl, _, rfl, ?_⟩
      rcases List.eq_nil_or_concat items with rfl | ⟨its, tp, rfl⟩
      · have : xs = [] := List.eq_nil_of_length_eq_zero hlen
        subst this
        refine iteF ?_
        exact ⟨kp, hall.symm⟩
      · rw [List.concat_eq_append] at *
        have hx0 : 0 < xs.length := by rw [hlen]; simp
        rw [decide_eq_true (by omega : (xs.length : Int) > 0)]
        refine iteT ⟨fun σ2 H2 => ∃ m', m' < m ∧ W m' σ2 H2, fun σ2 H2 z => z, ?_⟩
        obtain ⟨cs, k, d⟩ := tp
        obtain ⟨hcs, hg⟩ := good (cs, k, d) (by simp)
        have hcs : cs.length = ns.length := hcs
        have hg : GT k d := hg
        have hlx : xs.length = its.length + 1 := by rw [hlen]; simp
        obtain ⟨y, hy, dy⟩ := dxs.get (i := its.length) (d := i3D l (cs, k, d)) (by simp)
        have dys : DXs X2 H' xs.dropLast (its.map (i3D l)) := by
          have := dxs.take its.length
          rw [List.dropLast_eq_take, hlx, Nat.add_sub_cancel]
          rw [List.map_append, List.take_left' (by simp)] at this
          exact this
        rw [wgt_app] at hm
        rw [List.all_append] at hall
        simp only [List.all_cons, List.all_nil, Bool.and_true] at hall
        have hm : m = wgt as.length its + (as.length + 1) ^ k := by rw [hm]; simp [wgt]
        refine k_asgQ ⟨.ref R, E'.get 6 (.val (.ref R)) rfl, .inl ⟨rfl, xs, SqL.of hxs⟩, R, xs, y, rfl, rfl, hxs, by rw [hlx, Nat.add_sub_cancel]; exact hy, g_triple (dy.mono (Kp.put (.inr rfl))) fun u1 u2 u3 h1 h2 h3 => ?_⟩
        have sK : Kp X2 H' (upd H' R (.lst xs.dropLast)) := Kp.put (.inr rfl)
        have kp4 : KpO R (upd H3 R (.lst [v3])) (upd H' R (.lst xs.dropLast)) := kp.trans KpO.put
        have t4 : Trk X2 (upd H' R (.lst xs.dropLast)) := tH.put
        have E4 : EnvOk X2 (upd H' R (.lst xs.dropLast)) _ (Γ (.dat (mskD M)) (.val (.ref R)) (.dat (stC l cs)) (.dat (.int (k : Int))) (.dat d)) := (((E'.mono sK).set (i := 7) h1).set (i := 8) h2).set (i := 9) h3
        have e4 : (upd H' R (.lst xs.dropLast)) R = some (.lst xs.dropLast) := upd_same
        have dy4 : DXs X2 (upd H' R (.lst xs.dropLast)) xs.dropLast (its.map (i3D l)) := dys.mono sK
        have lys : xs.dropLast.length = its.length := by rw [List.length_dropLast]; omega
        generalize upd H' R (.lst xs.dropLast) = G4 at *
        have no : agB M ns l k cs d = false → ∀ G, KpO R G4 G → Q (.bl false) G := fun hf G kG => by
          have hdue : due = false := by rw [← hall, hf, Bool.and_false]
          have := q G (back (kp4.trans kG))
          rw [show agB (msk ns as) ns l k0 (zs ns.length) d0 = false from hdue] at this
          exact this
        have gits : ∀ t ∈ its, t.1.length = ns.length ∧ GT t.2.1 t.2.2 := fun t ht => good t (List.mem_append_left _ ht)
        have wipe3 : ∀ {H : Hp} {σ : L2.St} {a b c : Sv}, EnvOk X2 H σ (Γ (.dat (mskD M)) (.val (.ref R)) a b c) → EnvOk X2 H σ (Γ (.dat (mskD M)) (.val (.ref R)) .un .un .un) := fun E => envUn' (envUn' (envUn' E 7) 8) 9
        refine s_if (gt_eqI (K := K) t4 (g_var (i := 8) (d := .int (k : Int)) E4 rfl) g_int) (fun hb G5 s5 => ?_) fun hb G5 s5 => ?_
        · have k00 : k = 0 := by have := of_decide_eq_true hb; omega
          subst k00
          have E5 := E4.same s5
          have t5 := t4.mono s5
          refine s_if (gt_not (gt_B (g_call (ga_cons (g_var (i := 0) (d := ds) E5 rfl) (ga_cons (g_var (i := 7) (d := stC l cs) E5 rfl) (ga_cons (g_var (i := 9) (d := d) E5 rfl) ga_nil))) fun vs G6 s6 rs Q2 q2 => ?_))) (b := !twoB (leftL ns cs l) d) (fun hb G6 s6 => ?_) fun hb G6 s6 => ?_
          · cases rs with
            | cons u1 rs =>
              cases rs with
              | cons u2 rs =>
                cases rs with
                | cons u3 rs =>
                  cases rs
                  exact ⟨X2, _, _, _, ds, d, ns, l, cs, rfl, t5.mono s6, u1, u2, u3, S, hcs, lie, hg, fun G7 s7 => q2 _ G7 s7 (.bl _)⟩
          · exact k_ret (k_c (no (by show twoB (leftL ns cs l) d = false; simpa using hb) G6 (KpO.of (s5.trans s6))))
          · have hb : twoB (leftL ns cs l) d = true := by simpa using hb
            rw [show agB M ns l 0 cs d = true from hb, Bool.and_true] at hall
            have s46 := s5.trans s6
            refine ⟨_, ?_, its, xs.dropLast, rfl, ?_, hall, gits, kp4.trans (KpO.of s46), t4.mono s46, s46 _ _ e4, dy4.mono (Kp.of s46), wipe3 (E4.same s46)⟩
            · rw [hm, Nat.pow_zero]; omega
            · rw [hm, Nat.pow_zero] at hm1; omega
        · obtain ⟨k', rfl⟩ : ∃ k', k = k' + 1 := ⟨k - 1, by have := of_decide_eq_false hb; omega⟩
          have E5 := E4.same s5
          have t5 := t4.mono s5
          have few := A2.few
          have gN : G X2 (tCall (sp2 (fun d m => ∃ n : Nat, m = .int (n : Int) ∧ n ≤ 1000) fun d m => .bool (okB (intOf m).toNat d)) [] E0 (tCons (tVar 9) (tCons (tCB (fun xs H Q => ∃ x n, xs = [x] ∧ LenV K x H n ∧ Q (V.int n) H) (tCons (tVar 5) tNil)) tNil))) _ G5 (.bool (okB M.length d)) := g_is (g_call2 t5 (g_var (i := 9) (d := d) E5 rfl) (g_len (K := K) t5 (g_var (i := 5) (d := mskD M) E5 rfl) rfl) ⟨M.length, by show PyData.int (((M.map fun ms => PyData.int (KB.mk ms)).length : Nat) : Int) = _; rw [List.length_map], by omega⟩) (by
            show PyData.bool (okB (((M.map fun ms => PyData.int (KB.mk ms)).length : Nat) : Int).toNat d) = _
            rw [List.length_map, Int.toNat_natCast])
          refine s_if (b := !okB M.length d) (gt_not (gt_B gN)) (fun hb G6 s6 => k_ret (k_c (no (by show (okB M.length d && _) = false; rw [show okB M.length d = false by simpa using hb]; rfl) G6 (KpO.of (s5.trans s6))))) fun hb G6 s6 => ?_
          have hok : okB M.length d = true := by simpa using hb
          obtain ⟨hs, hli, hpr⟩ := ok_pair hok
          have E6 := E5.same s6
          have t6 := t5.mono s6
          have s46 := s5.trans s6
          have lz : (zipD (M.map fun ms => PyData.int (KB.mk ms)) (itemsD d)).length ≤ 1000 := by
            unfold zipD
            rw [List.length_zipWith, List.length_map]
            omega
          have li2 : its.length ≤ 1000 := by have := wgt_len as.length its; omega
          have pw : (as.length + 1) ^ (k' + 1) = (as.length + 1) ^ k' * as.length + (as.length + 1) ^ k' := by rw [Nat.pow_succ, Nat.mul_add, Nat.mul_one]
          refine k_dropE (k_ext2 (X := X2) (R := R) (ys := xs.dropLast) (ds := ((List.range M.length).map (nxI M k' cs d)).map (i3D l)) (E6.get 6 (.val (.ref R)) rfl) (s46 _ _ e4) (by rw [List.length_map, List.length_map, List.length_range, lM]; omega) (g_is (g_lc1 (ds := zipD (M.map fun ms => PyData.int (KB.mk ms)) (itemsD d)) (Γ2 := fun z => [.dat ds, .dat da, .dat (.int (k0 : Int)), .dat d0, .dat (.int l), .dat (mskD M), .val (.ref R), .dat (stC l cs), .dat (.int ((k' + 1 : Nat) : Int)), .dat d, .dat (it z 0), .dat (it (it z 1) 0), .dat (it (it z 1) 1)]) (fun z => i3D l (nxD M l k' cs z)) t6 (gi_z2 (K := K) (g_var (i := 5) (d := .list (M.map fun ms => PyData.int (KB.mk ms))) E6 rfl) (g_var (i := 9) (d := d) E6 rfl) hs) (by omega) (fun G7 s7 z hz => ?_) (fun X3 G7 σ2 z hz t7 E7 => ?_)) (by rw [nx_list hM hli])) fun vs G7 s7 dvs => ?_)
          · -- each is taken apart
            obtain ⟨i, hi, rfl⟩ := List.getElem_of_mem hz
            unfold zipD at hi ⊢
            rw [List.length_zipWith, List.length_map] at hi
            rw [List.getElem_zipWith, List.getElem_map]
            obtain ⟨p1, p2, p3⟩ := pair_of (hpr _ (List.getElem_mem (show i < (itemsD d).length by omega)))
            exact tgt_nest (E6.same s7) p1 p2
          · obtain ⟨i, hi, rfl⟩ := List.getElem_of_mem hz
            unfold zipD at hi E7 ⊢
            rw [List.length_zipWith, List.length_map] at hi
            have hiM : i < M.length := by omega
            rw [List.getElem_zipWith, List.getElem_map] at E7 ⊢
            obtain ⟨p1, p2, p3⟩ := pair_of (hpr _ (List.getElem_mem (show i < (itemsD d).length by omega)))
            have em := ms_of hM (List.getElem_mem hiM)
            have lms : M[i].length = cs.length := by rw [hM _ (List.getElem_mem hiM), hcs]
            show G X3 _ _ G7 (.tuple [stC l (an (blOf (it (itemsD d)[i] 0)) cs (msOf M (KB.mk M[i]))), .int (k' : Int), it (itemsD d)[i] 1])
            refine g_tup t7 (ga_cons (g_is (g_ans (cs := cs) (ms := M[i]) (b := blOf (it (itemsD d)[i] 0)) (l := l) t7 (g_var (i := 7) (d := stC l cs) E7 rfl) (g_var (i := 10) (d := .int (KB.mk M[i])) E7 rfl) (p3 ▸ g_var (i := 11) (d := it (itemsD d)[i] 0) E7 rfl) (g_var (i := 4) (d := .int l) E7 rfl) lms.symm lie) ?_) (ga_cons (g_is (g_sub t7 (g_var (i := 8) (d := .int ((k' + 1 : Nat) : Int)) E7 rfl) g_int) (by rw [show ((k' + 1 : Nat) : Int) - 1 = (k' : Int) by omega])) (ga_cons (g_var (i := 12) (d := it (itemsD d)[i] 1) E7 rfl) ga_nil))) (by simp)
            rw [em]
            rfl
          · have kA : Kp X2 G7 (upd G7 R (.lst (xs.dropLast ++ vs))) := Kp.put (.inr rfl)
            have wN : wgt as.length ((List.range M.length).map (nxI M k' cs d)) = as.length * (as.length + 1) ^ k' := by
              unfold wgt
              rw [List.map_map, show ((fun t : It3 => (as.length + 1) ^ t.2.1) ∘ nxI M k' cs d) = fun _ => (as.length + 1) ^ k' from rfl, ← lM]
              generalize (M.length + 1) ^ k' = c
              generalize M.length = n
              induction n with
              | zero => simp
              | succ n ih => rw [List.range_succ, List.map_append, List.sum_append, ih, Nat.add_mul]; simp
            have wpos : 1 ≤ (as.length + 1) ^ k' := Nat.one_le_pow _ _ (by omega)
            have wm : wgt as.length (its ++ (List.range M.length).map (nxI M k' cs d)) < m := by
              rw [wgt_app, wN, hm, pw, Nat.mul_comm as.length]
              omega
            refine ⟨_, wm, its ++ (List.range M.length).map (nxI M k' cs d), xs.dropLast ++ vs, rfl, by omega, ?_, fun t ht => ?_, ((kp4.trans (KpO.of (s46.trans s7))).trans KpO.put), ((t6.mono s7).put), upd_same, ?_, wipe3 ((E6.same s7).mono kA)⟩
            · rw [← hall, List.all_append]
              congr 1
              show (((List.range M.length).map (nxI M k' cs d)).all fun t => agB M ns l t.2.1 t.1 t.2.2) = (okB M.length d && _)
              rw [hok, Bool.true_and, List.all_map]
              rfl
            · rcases List.mem_append.mp ht with ht | ht
              · exact gits t ht
              · obtain ⟨i, hi, rfl⟩ := List.mem_map.mp ht
                have hi := List.mem_range.mp hi
                have e2 : M.getD i [] = M[i] := by rw [List.getD_eq_getElem?_getD, List.getElem?_eq_getElem hi]; rfl
                refine ⟨?_, ?_⟩
                · show (an (blOf (it (it d i) 0)) cs (M.getD i [])).length = _
                  rw [e2, an_len (by rw [hM _ (List.getElem_mem hi), hcs]), hcs]
                · exact hg hs _ (it_mem (d := d) (i := i) (by omega)) (hpr _ (it_mem (d := d) (i := i) (by omega)))
            · rw [List.map_append]
              exact ((dy4.mono (Kp.of (s46.trans s7))).append dvs).mono kA
    · rintro σ' H' ⟨kp, hdue⟩
      have := q H' (back kp)
      rw [show agB (msk ns as) ns l k0 (zs ns.length) d0 = true from hdue] at this
      exact k_ret (k_c this)
end K80

/-! Papers, by the law's own look. -/
namespace K80
open PySem PySem.Spec PyProof.Rows L2 KD KS
variable {P : Program} {w : World} {K : PySem.W.Frag} {mg : Str → Option Value} {base : Heap}
section
variable {X : Addr → Prop} {H : Hp} {σ : L2.St} {Γ : List Sv} {ta tb tc td te tf : TE} {E : XK} {d : PyData} {ns : List Str} {as : List (List Str)} {cs : List Nat} {l : Int}
theorem g_mleft (t : Trk X H) (h1 : G X ta σ H (wsD ns)) (h2 : G X tb σ H (cD cs)) (h3 : G X tc σ H (.int l)) (hl : ns.length ≤ 1000) : G X (tCall spMLeft [] E (tCons ta (tCons tb (tCons tc tNil)))) σ H (wsD (leftL ns cs l)) :=
  g_call (ga_cons h1 (ga_cons h2 (ga_cons h3 ga_nil))) fun vs H2 s2 rs Q2 q2 => by
    cases rs with
    | cons u1 rs =>
      cases rs with
      | cons u2 rs =>
        cases rs with
        | cons u3 rs =>
          cases rs
          exact ⟨X, _, _, _, ns, cs, l, rfl, t.mono s2, u1, u2, u3, hl, q2⟩
theorem g_after {j : Nat} {b : Bool} (t : Trk X H) (h1 : G X ta σ H (wsD ns)) (h2 : G X tb σ H (asD as)) (h3 : G X tc σ H (cD cs)) (h4 : G X td σ H (.int (j : Int))) (h5 : G X te σ H (.bool b)) (hl : ns.length ≤ 1000) (hj : j < as.length) : G X (tCall spAfter [] E (tCons ta (tCons tb (tCons tc (tCons td (tCons te tNil)))))) σ H (cD (an b cs (bitsOf ns (as.getD j [])))) :=
  g_call (ga_cons h1 (ga_cons h2 (ga_cons h3 (ga_cons h4 (ga_cons h5 ga_nil))))) fun vs H2 s2 rs Q2 q2 => by
    cases rs with
    | cons u1 rs =>
      cases rs with
      | cons u2 rs =>
        cases rs with
        | cons u3 rs =>
          cases rs with
          | cons u4 rs =>
            cases rs with
            | cons u5 rs =>
              cases rs
              exact ⟨X, _, _, _, _, _, ns, as, cs, j, b, rfl, t.mono s2, u1, u2, u3, u4, u5, hl, hj, q2⟩
end
def spMAg (k : Nat) : Sp := fun us H Q _ => ∃ (X : Addr → Prop) (v1 v2 v3 v4 v5 v6 : V) (ns : List Str) (as : List (List Str)) (l : Int) (cs : List Nat) (d : PyData), us = [v1, v2, v3, v4, v5, v6] ∧ Trk X H ∧ DX X H v1 (wsD ns) ∧ DX X H v2 (asD as) ∧ DX X H v3 (.int l) ∧ DX X H v4 (cD cs) ∧ DX X H v5 (.int (k : Int)) ∧ DX X H v6 d ∧ (∀ z ∈ ns, z ∈ sNames) ∧ ns.length ≤ 1000 ∧ as.length ≤ 1000 ∧ cs.length = ns.length ∧ GT k d ∧
  ∀ H', Same H H' → Q (.bl (agB (msk ns as) ns l k cs d)) H'
def spMAgP : Nat → Sp
  | 0 => fun _ _ _ _ => False
  | k + 1 => spMAg k
theorem g_mag {X : Addr → Prop} {H : Hp} {σ : L2.St} {ta tb tc td te tf : TE} {E : XK} {d : PyData} {ns : List Str} {as : List (List Str)} {cs : List Nat} {l : Int} {k : Nat} (t : Trk X H) (h1 : G X ta σ H (wsD ns)) (h2 : G X tb σ H (asD as)) (h3 : G X tc σ H (.int l)) (h4 : G X td σ H (cD cs)) (h5 : G X te σ H (.int (k : Int))) (h6 : G X tf σ H d) (hns : ∀ z ∈ ns, z ∈ sNames) (hl : ns.length ≤ 1000) (hla : as.length ≤ 1000) (hcs : cs.length = ns.length) (hg : GT k d) :
    G X (tCall (spMAg k) [] E (tCons ta (tCons tb (tCons tc (tCons td (tCons te (tCons tf tNil))))))) σ H (.bool (agB (msk ns as) ns l k cs d)) :=
  g_call (ga_cons h1 (ga_cons h2 (ga_cons h3 (ga_cons h4 (ga_cons h5 (ga_cons h6 ga_nil)))))) fun vs H2 s2 rs Q2 q2 => by
    cases rs with
    | cons u1 rs =>
      cases rs with
      | cons u2 rs =>
        cases rs with
        | cons u3 rs =>
          cases rs with
          | cons u4 rs =>
            cases rs with
            | cons u5 rs =>
              cases rs with
              | cons u6 rs =>
                cases rs
                exact ⟨X, _, _, _, _, _, _, ns, as, l, cs, d, rfl, t.mono s2, u1, u2, u3, u4, u5, u6, hns, hl, hla, hcs, hg, fun H' s' => q2 _ H' s' (.bl _)⟩
-- HINT _law_m_is_against le (by omega)
-- HINT _law_m_is_against enum pi_enumQ
-- HINT _law_m_is_against ix (ix_seqK (K := K) rfl)
-- HINT _law_m_is_against in (op_inDK (K := K) rfl (hu65 hr))
abbrev s__law_m_is_against : Stmt := topS 40
abbrev n__law_m_is_against : List Str := ["_law_names", "_law_askings", "_law_lies", "_law_state", "_law_many", "_law_thing", "_law_left", "_law_index", "_law_pair", "_law_end"]
theorem sc__law_m_is_against : FnScope n__law_m_is_against ["_law_names", "_law_askings", "_law_lies", "_law_state", "_law_many", "_law_thing"] (defScope s__law_m_is_against) := ⟨rfl, rfl, rfl, by decide +kernel, rfl, by decide +kernel, by decide +kernel⟩
theorem ok_m_against_body {f : Addr} {fd : FuncData} {k : Nat} (F : Fun K "_law_m_is_against" "_law_m_is_against" s__law_m_is_against f fd) (T : Bl mg) (O__law_m_left : Own P w K mg base CX0 1 "_law_m_left" ["_law_names", "_law_state", "_law_lies"] spMLeft) (O__law_m_after : Own P w K mg base CX0 1 "_law_m_after" ["_law_names", "_law_askings", "_law_state", "_law_index", "_law_answer"] spAfter)
    (O__law_m_is_against : Own P w K mg base CX0 (k + 1) "_law_m_is_against" ["_law_names", "_law_askings", "_law_lies", "_law_state", "_law_many", "_law_thing"] (spMAgP k)) : FnOk P w K mg base CX0 (k + 2) f fd ["_law_names", "_law_askings", "_law_lies", "_law_state", "_law_many", "_law_thing"] (spMAg k) := by
  refine F.ok sc__law_m_is_against (fun vs H Q E h => ?_) (fun cdv A outer s H vs Q E hr h => ?_)
  · obtain ⟨X, v1, v2, v3, v4, v5, v6, ns, as, l, cs, d, rfl, _⟩ := h
    rfl
  · obtain ⟨X, v1, v2, v3, v4, v5, v6, ns, as, l, cs, d, rfl, t, r1, r2, r3, r4, r5, r6, hns, hl, hla, hcs, hg, q⟩ := h
    refine ⟨_, (pss_cons (ps_if (pt_not (pt_val (pe_callB call_isiT (by rfl) T.b_isinstance boot_isinstance (pa_cons (pv 5) (pa_cons (pe_tup (pa_cons (pe_bltn (v := .ty "list") (by rfl) T.b_list boot_list rfl) (pa_cons (pe_bltn (v := .ty "tuple") (by rfl) T.b_tuple boot_tuple rfl) pa_nil))) pa_nil)))))
    (pss_one (ps_ret pe_bl)) pss_nil)
    (pss_cons (ps_set (i := 6) sc__law_m_is_against.nd rfl (by first | exact Or.inl rfl | exact Or.inr rfl) (pe_own O__law_m_left hr (by omega) (by rfl) (pa_cons (pv 0) (pa_cons (pv 3) (pa_cons (pv 2) pa_nil)))))
    (pss_cons (ps_if (pt_cmpR (op_eqD hr.units) (pv 4) pe_int (nomark _))
    (pss_one (ps_ret (pe_and (pe_cmpR (op_eqD hr.units) (pe_callB call_len (by rfl) T.b_len boot_len (pa_cons (pv 5) pa_nil)) pe_int (nomark _)) (pe_and (pe_cmpR (op_inDK (K := K) rfl (hu65 hr)) (pe_ix (ix_seqK (K := K) rfl) (pv 5) pe_int (fun _ _ => rfl)) (pv 6) (by rfl)) (pe_and (pe_cmpR (op_inDK (K := K) rfl (hu65 hr)) (pe_ix (ix_seqK (K := K) rfl) (pv 5) pe_int (fun _ _ => rfl)) (pv 6) (by rfl)) (pe_one (pe_cmpR (op_neD hr.units) (pe_ix (ix_seqK (K := K) rfl) (pv 5) pe_int (fun _ _ => rfl)) (pe_ix (ix_seqK (K := K) rfl) (pv 5) pe_int (fun _ _ => rfl)) (nomark _)))))))) pss_nil)
    (pss_cons (ps_if (pt_cmpR (op_neD hr.units) (pe_callB call_len (by rfl) T.b_len boot_len (pa_cons (pv 5) pa_nil)) (pe_callB call_len (by rfl) T.b_len boot_len (pa_cons (pv 1) pa_nil)) (nomark _))
    (pss_one (ps_ret pe_bl)) pss_nil)
    (pss_cons (ps_for PassesOwn.never rfl (pi_enumQ (by rfl) T.b_enumerate (pa_cons (pv 5) pa_nil)) (pg_tup (n := 2) rfl (pgs_cons (pg_name (i := 7) sc__law_m_is_against.nd rfl (by first | exact Or.inl rfl | exact Or.inr rfl)) (pgs_cons (pg_name (i := 8) sc__law_m_is_against.nd rfl (by first | exact Or.inl rfl | exact Or.inr rfl)) pgs_nil)))
    (pss_cons (ps_if (PW.pt (pw_or (pt_not (pt_val (pe_callB call_isiT (by rfl) T.b_isinstance boot_isinstance (pa_cons (pv 8) (pa_cons (pe_tup (pa_cons (pe_bltn (v := .ty "list") (by rfl) T.b_list boot_list rfl) (pa_cons (pe_bltn (v := .ty "tuple") (by rfl) T.b_tuple boot_tuple rfl) pa_nil))) pa_nil))))) (pw_or (pt_cmpR (op_neD hr.units) (pe_callB call_len (by rfl) T.b_len boot_len (pa_cons (pv 8) pa_nil)) pe_int (nomark _)) (pw_or1 (pt_not (pt_val (pe_callB call_isi (by rfl) T.b_isinstance boot_isinstance (pa_cons (pe_ix (ix_seqK (K := K) rfl) (pv 8) pe_int (fun _ _ => rfl)) (pa_cons (pe_bltn (v := .ty "bool") (by rfl) T.b_bool boot_bool rfl) pa_nil)))))))))
    (pss_one (ps_ret pe_bl)) pss_nil)
    (pss_cons (ps_set (i := 9) sc__law_m_is_against.nd rfl (by first | exact Or.inl rfl | exact Or.inr rfl) (pe_own O__law_m_after hr (by omega) (by rfl) (pa_cons (pv 0) (pa_cons (pv 1) (pa_cons (pv 3) (pa_cons (pv 7) (pa_cons (pe_ix (ix_seqK (K := K) rfl) (pv 8) pe_int (fun _ _ => rfl)) pa_nil)))))))
    (pss_one (ps_if (pt_not (pt_val (pe_own O__law_m_is_against hr (by omega) (by rfl) (pa_cons (pv 0) (pa_cons (pv 1) (pa_cons (pv 2) (pa_cons (pv 9) (pa_cons (pe_op op_sub (pv 4) pe_int) (pa_cons (pe_ix (ix_seqK (K := K) rfl) (pv 8) pe_int (fun _ _ => rfl)) pa_nil)))))))))
    (pss_one (ps_ret pe_bl)) pss_nil)))))
    (pss_one (ps_ret pe_bl))))))), ?_⟩
    let M := msk ns as
    have hM := msk_len ns as
    have lM : M.length = as.length := by show (as.map _).length = _; rw [List.length_map]
    let Γ (x6 x7 x8 x9 : Sv) : List Sv := [.dat (wsD ns), .dat (asD as), .dat (.int l), .dat (cD cs), .dat (.int (k : Int)), .dat d, x6, x7, x8, x9]
    have En : EnvOk X H (L2.start n__law_m_is_against [v1, v2, v3, v4, v5, v6]) (Γ .un .un .un .un) := ⟨rfl, fun i s e => by
      match i, e with
      | 0, e => cases e; exact ⟨_, rfl, r1⟩
      | 1, e => cases e; exact ⟨_, rfl, r2⟩
      | 2, e => cases e; exact ⟨_, rfl, r3⟩
      | 3, e => cases e; exact ⟨_, rfl, r4⟩
      | 4, e => cases e; exact ⟨_, rfl, r5⟩
      | 5, e => cases e; exact ⟨_, rfl, r6⟩
      | 6, e => cases e; trivial
      | 7, e => cases e; trivial
      | 8, e => cases e; trivial
      | 9, e => cases e; trivial
      | _ + 10, e => cases e⟩
    have noS : isSeq d = false → agB M ns l k cs d = false := fun hs => by
      cases k with
      | zero => show twoB _ d = false; unfold twoB; rw [hs]; rfl
      | succ k => show (okB M.length d && _) = false; unfold okB; rw [hs]; rfl
    refine q_if (b := !isSeq d) (gt_not (gt_B (g_isSeq (g_var (i := 5) (d := d) En rfl)))) (fun hb H1 s1 => ?_) fun hb H1 s1 => ?_
    · have := q H1 s1
      rw [noS (by simpa using hb)] at this
      exact k_ret (k_c this)
    have hs : isSeq d = true := by simpa using hb
    have E1 := En.same s1
    have t1 := t.mono s1
    refine q_set (i := 6) (d := wsD (leftL ns cs l)) E1 (g_mleft t1 (g_var (i := 0) (d := wsD ns) E1 rfl) (g_var (i := 3) (d := cD cs) E1 rfl) (g_var (i := 2) (d := .int l) E1 rfl) hl) fun H2 v2' s2 E2 => ?_
    have E2 : EnvOk X H2 _ (Γ (.dat (wsD (leftL ns cs l))) .un .un .un) := E2
    have t2 := t1.mono s2
    have s02 := s1.trans s2
    refine q_if (gt_eqI (K := K) t2 (g_var (i := 4) (d := .int (k : Int)) E2 rfl) g_int) (fun hb H3 s3 => ?_) fun hb H3 s3 => ?_
    · have k0 : k = 0 := by have := of_decide_eq_true hb; omega
      subst k0
      have E3 := E2.same s3
      have t3 := t2.mono s3
      have ok := strs_ok (left_ok (cs := cs) (l := l) hns)
      refine s_ret (X := X) (d := .bool (twoB (leftL ns cs l) d)) (g_is (g_and (a := decide (lenD d = 2)) (b := inL (leftL ns cs l) (it d 0) && (inL (leftL ns cs l) (it d 1) && !PyData.eqv (it d 0) (it d 1))) (g_is (g_eqD (K := K) t3 (g_len t3 (g_var (i := 5) (d := d) E3 rfl) (hasLen_seq hs)) g_int rfl rfl (shaped_int _) (shaped_int _)) (by rw [eqv_int]; exact congrArg PyData.bool (decide_eq_decide.mpr (by omega)))) fun hb => ?_) (by unfold twoB; rw [hs, Bool.true_and])) fun w H4 s4 dw => ?_
      · have l2 := of_decide_eq_true hb
        have li : (itemsD d).length = 2 := by rw [← lenD_seq hs]; exact l2
        have gx : ∀ (j : Nat), j < 2 → G X (tOp (rIx K) (tVar 5) (tC (.int (j : Int)))) _ H3 (it d j) := fun j hj => g_ix t3 (g_var (i := 5) (d := d) E3 rfl) hs g_int (it_at (i := j) rfl (by omega))
        have p0 := hg hs _ (it_mem (d := d) (i := 0) (by omega))
        have p1 := hg hs _ (it_mem (d := d) (i := 1) (by omega))
        exact g_and (g_inL t3 (gx 0 (by omega)) (g_var (i := 6) (d := wsD (leftL ns cs l)) E3 rfl) p0 ok) fun _ => g_and (g_inL t3 (gx 1 (by omega)) (g_var (i := 6) (d := wsD (leftL ns cs l)) E3 rfl) p1 ok) fun _ => g_op t3 (gx 0 (by omega)) (gx 1 (by omega)) (rb_neD p0.nd p1.nd p0.sh p1.sh).rd
      · rw [dw.bl_inv]
        exact q H4 ((s02.trans s3).trans s4)
    obtain ⟨k', rfl⟩ : ∃ k', k = k' + 1 := ⟨k - 1, by have := of_decide_eq_false hb; omega⟩
    have E3 := E2.same s3
    have t3 := t2.mono s3
    have no : okB M.length d = false → agB M ns l (k' + 1) cs d = false := fun h => by show (okB M.length d && _) = false; rw [h]; rfl
    have lenA : lenD (asD as) = M.length := by show (as.map wsD).length = _; rw [List.length_map, lM]
    refine q_if (b := !decide (lenD d = M.length)) (gt_is (gt_neD (K := K) t3 (g_len t3 (g_var (i := 5) (d := d) E3 rfl) (hasLen_seq hs)) (g_len t3 (g_var (i := 1) (d := asD as) E3 rfl) rfl) rfl rfl (shaped_int _) (shaped_int _)) (by rw [eqv_int, lenA]; congr 1; exact decide_eq_decide.mpr (by omega))) (fun hb H4 s4 => ?_) fun hb H4 s4 => ?_
    · have := q H4 ((s02.trans s3).trans s4)
      rw [no (by unfold okB; rw [show decide (lenD d = M.length) = false by simpa using hb]; simp)] at this
      exact k_ret (k_c this)
    have hl2 : lenD d = M.length := by simpa using hb
    have li : (itemsD d).length = M.length := by rw [← lenD_seq hs]; exact hl2
    have E4 := E3.same s4
    have t4 := t3.mono s4
    have s04 := (s02.trans s3).trans s4
    let goodI (i : Nat) : Prop := ∀ j, j < i → pairB (it d j) = true ∧ agB M ns l k' (an (blOf (it (it d j) 0)) cs (M.getD j [])) (it (it d j) 1) = true
    refine s_forD (gi_enumQ (K := K) (g_var (i := 5) (d := d) E4 rfl) hs) (fun Hb i σ' H' => Same H4 Hb ∧ Same Hb H' ∧ goodI i ∧ EnvOk X H' σ' (Γ (.dat (wsD (leftL ns cs l))) .un .un .un)) (fun Hb sb => ⟨sb, Same.refl _, fun j hj => by omega, E4.same sb⟩) (fun Hb i σ' H' p => ⟨Kp.of p.2.1, (t4.mono p.1).mono p.2.1⟩) (fun Hb i x z σ' H' H5 sb hz p s5 dx => ?_) (fun Hb σ' H' sb p => ?_)
    · obtain ⟨sb', p1, good, p3⟩ := p
      have hi : i < (itemsD d).length := by
        have := (List.getElem?_eq_some_iff.mp hz).1
        rw [enumD_len] at this
        exact this
      have ed : (itemsD d)[i]? = some (it d i) := by
        unfold it
        rw [List.getD_eq_getElem?_getD, List.getElem?_eq_getElem hi]
        rfl
      rw [enumD_get ed] at hz
      cases hz
      refine g_pair dx fun u1 u2 h1 h2 => ?_
      have E5 : EnvOk X H5 _ (Γ (.dat (wsD (leftL ns cs l))) (.dat (.int (i : Int))) (.dat (it d i)) .un) := ((p3.same s5).set (i := 7) h1).set (i := 8) h2
      have t5 := ((t4.mono sb').mono p1).mono s5
      have s05 := ((s04.trans sb').trans p1).trans s5
      have hmem : it d i ∈ itemsD d := it_mem hi
      -- a pair it is
      refine q_if (b := !pairB (it d i)) (gt_is (gt_or (gt_not (gt_B (g_isSeq (g_var (i := 8) (d := it d i) E5 rfl)))) fun hz => gt_or (a := !decide (lenD (it d i) = 2)) (gt_is (gt_neD (K := K) t5 (g_len t5 (g_var (i := 8) (d := it d i) E5 rfl) (hasLen_seq (by simpa using hz))) g_int rfl rfl (shaped_int _) (shaped_int _)) (by rw [eqv_int]; congr 1; exact decide_eq_decide.mpr (by omega))) fun hz2 => gt_not (gt_B (g_isBool (g_ix t5 (g_var (i := 8) (d := it d i) E5 rfl) (by simpa using hz) g_int (it_at (i := 0) rfl (by
        have h2 : lenD (it d i) = 2 := by simpa using hz2
        rw [← lenD_seq (by simpa using hz)]
        omega)))))) (by unfold pairB; cases isSeq (it d i) <;> cases decide (lenD (it d i) = 2) <;> cases isa_bool (it (it d i) 0) <;> rfl)) (fun hb H6 s6 => ?_) fun hb H6 s6 => ?_
      · have := q H6 (s05.trans s6)
        rw [no (by
          unfold okB
          have : (itemsD d).all pairB = false := by
            rw [List.all_eq_false]
            exact ⟨_, hmem, by simpa using hb⟩
          rw [this]
          simp)] at this
        exact k_ret (k_c this)
      have hp : pairB (it d i) = true := by simpa using hb
      obtain ⟨q1, q2, q3⟩ := pair_of hp
      have iM : i < M.length := by omega
      have lz : (itemsD (it d i)).length = 2 := by rw [q2]; rfl
      have E6 := E5.same s6
      have t6 := t5.mono s6
      have gz : ∀ {H : Hp} {σ : L2.St} {a : Sv} (j : Nat), j < 2 → Trk X H → EnvOk X H σ (Γ (.dat (wsD (leftL ns cs l))) (.dat (.int (i : Int))) (.dat (it d i)) a) → G X (tOp (rIx K) (tVar 8) (tC (.int (j : Int)))) σ H (it (it d i) j) := fun j hj t E => g_ix t (g_var (i := 8) (d := it d i) E rfl) q1 g_int (it_at (i := j) rfl (by omega))
      have eM : M.getD i [] = bitsOf ns (as.getD i []) := by
        show (as.map (bitsOf ns)).getD i [] = _
        have hi2 : i < as.length := by omega
        rw [List.getD_eq_getElem?_getD, List.getElem?_map, List.getD_eq_getElem?_getD, List.getElem?_eq_getElem hi2]
        rfl
      refine q_set (i := 9) (d := cD (an (blOf (it (it d i) 0)) cs (M.getD i []))) E6 (g_is (g_after (j := i) (b := blOf (it (it d i) 0)) (cs := cs) t6 (g_var (i := 0) (d := wsD ns) E6 rfl) (g_var (i := 1) (d := asD as) E6 rfl) (g_var (i := 3) (d := cD cs) E6 rfl) (g_var (i := 7) (d := .int (i : Int)) E6 rfl) (q3 ▸ gz 0 (by omega) t6 E6) hl (by omega)) (by rw [eM])) fun H7 v7 s7 E7 => ?_
      have E7 : EnvOk X H7 _ (Γ (.dat (wsD (leftL ns cs l))) (.dat (.int (i : Int))) (.dat (it d i)) (.dat (cD (an (blOf (it (it d i) 0)) cs (M.getD i []))))) := E7
      have t7 := t6.mono s7
      have lms : (M.getD i []).length = cs.length := by rw [List.getD_eq_getElem?_getD, List.getElem?_eq_getElem iM]; show (M[i]).length = _; rw [hM _ (List.getElem_mem iM), hcs]
      let r : Bool := agB M ns l k' (an (blOf (it (it d i) 0)) cs (M.getD i [])) (it (it d i) 1)
      refine s_if (b := !r) (gt_not (gt_B (g_mag (k := k') t7 (g_var (i := 0) (d := wsD ns) E7 rfl) (g_var (i := 1) (d := asD as) E7 rfl) (g_var (i := 2) (d := .int l) E7 rfl) (g_var (i := 9) (d := cD (an (blOf (it (it d i) 0)) cs (M.getD i []))) E7 rfl) (g_is (g_sub t7 (g_var (i := 4) (d := .int ((k' + 1 : Nat) : Int)) E7 rfl) g_int) (by rw [show ((k' + 1 : Nat) : Int) - 1 = (k' : Int) by omega])) (gz 1 (by omega) t7 E7) hns hl hla (by rw [an_len lms, hcs]) (hg hs _ hmem hp)))) (fun hb H8 s8 => ?_) fun hb H8 s8 => ?_
      · have hr0 : r = false := by simpa using hb
        have := q H8 (((s05.trans s6).trans s7).trans s8)
        have ef : agB M ns l (k' + 1) cs d = false := by
          show (okB M.length d && (List.range M.length).all fun i => agB M ns l k' (an (blOf (it (it d i) 0)) cs (M.getD i [])) (it (it d i) 1)) = false
          have : ((List.range M.length).all fun i => agB M ns l k' (an (blOf (it (it d i) 0)) cs (M.getD i [])) (it (it d i) 1)) = false := by
            rw [List.all_eq_false]
            exact ⟨i, List.mem_range.mpr iM, by rw [show agB M ns l k' (an (blOf (it (it d i) 0)) cs (M.getD i [])) (it (it d i) 1) = false from hr0]; simp⟩
          rw [this, Bool.and_false]
        rw [ef] at this
        exact k_ret (k_c this)
      · refine ⟨sb', ((p1.trans s5).trans (s6.trans (s7.trans s8))), fun j hj => ?_, envUn' (envUn' (envUn' (E7.same s8) 7) 8) 9⟩
        by_cases e : j = i
        · subst e
          have hr1 : r = true := by simpa using hb
          exact ⟨hp, hr1⟩
        · exact good j (by omega)
    · obtain ⟨sb', p1, good, _⟩ := p
      rw [enumD_len, li] at good
      have := q H' ((s04.trans sb').trans p1)
      have et : agB M ns l (k' + 1) cs d = true := by
        show (okB M.length d && (List.range M.length).all fun i => agB M ns l k' (an (blOf (it (it d i) 0)) cs (M.getD i [])) (it (it d i) 1)) = true
        rw [Bool.and_eq_true, List.all_eq_true]
        refine ⟨?_, fun i hi => (good i (List.mem_range.mp hi)).2⟩
        unfold okB
        rw [hs, decide_eq_true hl2, Bool.true_and, Bool.true_and, List.all_eq_true]
        intro z hz
        obtain ⟨i, hi, rfl⟩ := List.getElem_of_mem hz
        have := (good i (by omega)).1
        unfold it at this
        rw [List.getD_eq_getElem?_getD, List.getElem?_eq_getElem hi] at this
        exact this
      rw [et] at this
      exact this
theorem ok_m_against {f : Addr} {fd : FuncData} (F : Fun K "_law_m_is_against" "_law_m_is_against" s__law_m_is_against f fd) (T : Bl mg) (m1 : mg "_law_m_is_against" = some (.ref f)) (m2 : PySem.W.keepIn K (.ref f) = true) (m3 : Binds K fd ["_law_names", "_law_askings", "_law_lies", "_law_state", "_law_many", "_law_thing"] []) (O__law_m_left : Own P w K mg base CX0 1 "_law_m_left" ["_law_names", "_law_state", "_law_lies"] spMLeft) (O__law_m_after : Own P w K mg base CX0 1 "_law_m_after" ["_law_names", "_law_askings", "_law_state", "_law_index", "_law_answer"] spAfter) :
    ∀ k : Nat, FnOk P w K mg base CX0 (k + 2) f fd ["_law_names", "_law_askings", "_law_lies", "_law_state", "_law_many", "_law_thing"] (spMAg k)
  | 0 => ok_m_against_body F T O__law_m_left O__law_m_after ⟨f, fd, m1, m2, m3, F.ok (k := 0) sc__law_m_is_against (fun _ _ _ _ h => h.elim) (fun _ _ _ _ _ _ _ _ _ h => h.elim)⟩
  | k + 1 => ok_m_against_body F T O__law_m_left O__law_m_after ⟨f, fd, m1, m2, m3, ok_m_against F T m1 m2 m3 O__law_m_left O__law_m_after k⟩
/-- as it is told -/
def TP : Nat → PyData → Prop
  | 0, d => isa_tuple d = true
  | k + 1, d => ∃ ds, d = .list ds ∧ ds.length ≤ 1000 ∧ ∀ z ∈ ds, ∃ b e, z = .tuple [b, e] ∧ TP k e
def spIsTo (k : Nat) : Sp := fun us H Q _ => ∃ (X : Addr → Prop) (v1 v2 : V) (d : PyData), us = [v1, v2] ∧ Trk X H ∧ DX X H v1 d ∧ DX X H v2 (.int (k : Int)) ∧ TP k d ∧ ∀ H', Same H H' → Q (.bl true) H'
def spIsToP : Nat → Sp
  | 0 => fun _ _ _ _ => False
  | k + 1 => spIsTo k
theorem g_isto {X : Addr → Prop} {H : Hp} {σ : L2.St} {ta tb : TE} {E : XK} {d : PyData} {k : Nat} (t : Trk X H) (h1 : G X ta σ H d) (h2 : G X tb σ H (.int (k : Int))) (h : TP k d) : G X (tCall (spIsTo k) [] E (tCons ta (tCons tb tNil))) σ H (.bool true) :=
  g_call (ga_cons h1 (ga_cons h2 ga_nil)) fun vs H2 s2 rs Q2 q2 => by
    cases rs with
    | cons u1 rs =>
      cases rs with
      | cons u2 rs =>
        cases rs
        exact ⟨X, _, _, d, rfl, t.mono s2, u1, u2, h, fun H' s' => q2 _ H' s' (.bl _)⟩
-- HINT _law_is_told le (by omega)
-- HINT _law_is_told lcte#1 (tAndV (tCB (rIsi K) (tCons (tVar 2) (tCons (tC (.ty "tuple")) tNil))) (tCall (spIsToP k) [] E0 (tCons (tOp (rIx K) (tVar 2) (tC (.int 1))) (tCons (tOp (rI0 fun i j => V.int (i - j)) (tVar 1) (tC (.int 1))) tNil))))
abbrev s__law_is_told : Stmt := topS 47
abbrev n__law_is_told : List Str := ["_law_paper", "_law_many", "_law_pair"]
theorem sc__law_is_told : FnScope n__law_is_told ["_law_paper", "_law_many"] (defScope s__law_is_told) := ⟨rfl, rfl, rfl, by decide +kernel, rfl, by decide +kernel, by decide +kernel⟩
theorem ok_told_body {f : Addr} {fd : FuncData} {k : Nat} (F : Fun K "_law_is_told" "_law_is_told" s__law_is_told f fd) (T : Bl mg) (O__law_is_told : Own P w K mg base CX0 (k + 1) "_law_is_told" ["_law_paper", "_law_many"] (spIsToP k)) : FnOk P w K mg base CX0 (k + 2) f fd ["_law_paper", "_law_many"] (spIsTo k) := by
  refine F.ok sc__law_is_told (fun vs H Q E h => ?_) (fun cdv A outer s H vs Q E hr h => ?_)
  · obtain ⟨X, v1, v2, d, rfl, _⟩ := h
    rfl
  · obtain ⟨X, v1, v2, d, rfl, t, r1, r2, tp, q⟩ := h
    refine ⟨_, (pss_cons (ps_if (pt_cmpR (op_eqD hr.units) (pv 1) pe_int (nomark _))
    (pss_one (ps_ret (pe_callB call_isi (by rfl) T.b_isinstance boot_isinstance (pa_cons (pv 0) (pa_cons (pe_bltn (v := .ty "tuple") (by rfl) T.b_tuple boot_tuple rfl) pa_nil))))) pss_nil)
    (pss_cons (ps_if (pt_not (pt_val (pe_callB call_isi (by rfl) T.b_isinstance boot_isinstance (pa_cons (pv 0) (pa_cons (pe_bltn (v := .ty "list") (by rfl) T.b_list boot_list rfl) pa_nil)))))
    (pss_one (ps_ret pe_bl)) pss_nil)
    (pss_one (ps_ret (pe_callB (cr_all rfl) (by rfl) T.b_all boot_all (pa_cons (pe_lc (own := [("_law_pair", 2)]) (g := (gName 2)) (tt := tYes) (te := (tAndV (tCB (rIsi K) (tCons (tVar 2) (tCons (tC (.ty "tuple")) tNil))) (tCall (spIsToP k) [] E0 (tCons (tOp (rIx K) (tVar 2) (tC (.int 1))) (tCons (tOp (rI0 fun i j => V.int (i - j)) (tVar 1) (tC (.int 1))) tNil))))) rfl sc__law_is_told.nd (pi_list (pv 0)) (blkOk_by (N := n__law_is_told) (sc := defScope s__law_is_told) (by decide +kernel)) (fun _ _ _ _ _ => (pg_name (i := 2) sc__law_is_told.nd rfl (by first | exact Or.inl rfl | exact Or.inr rfl))) (fun _ _ _ _ _ => pts_nil) (fun _ _ _ _ _ => (pe_and (pe_callB call_isi (by rfl) T.b_isinstance boot_isinstance (pa_cons (pv 2) (pa_cons (pe_bltn (v := .ty "tuple") (by rfl) T.b_tuple boot_tuple rfl) pa_nil))) (pe_one (pe_own O__law_is_told hr (by omega) (by rfl) (pa_cons (pe_ix ix_seq (pv 2) pe_int (fun _ _ => rfl)) (pa_cons (pe_op op_sub (pv 1) pe_int) pa_nil))))))) pa_nil)))))), ?_⟩
    have En : EnvOk X H (L2.start n__law_is_told [v1, v2]) [.dat d, .dat (.int (k : Int)), .un] := env2 (N := n__law_is_told) r1 r2 (by decide)
    refine q_if (gt_eqI (K := K) t (g_var (i := 1) (d := .int (k : Int)) En rfl) g_int) (fun hb H1 s1 => ?_) fun hb H1 s1 => ?_
    · have k0 : k = 0 := by have := of_decide_eq_true hb; omega
      subst k0
      refine s_ret (X := X) (d := .bool true) (g_is (g_isTuple (g_var (i := 0) (d := d) (En.same s1) rfl)) (by rw [show isa_tuple d = true from tp])) fun w H2 s2 dw => ?_
      rw [dw.bl_inv]
      exact q H2 (s1.trans s2)
    obtain ⟨k', rfl⟩ : ∃ k', k = k' + 1 := ⟨k - 1, by have := of_decide_eq_false hb; omega⟩
    obtain ⟨es, rfl, le, each⟩ := tp
    have E1 := En.same s1
    have t1 := t.mono s1
    refine q_if (b := false) (gt_not (gt_B (g_isList (g_var (i := 0) (d := .list es) E1 rfl)))) (fun h => by cases h) fun _ H2 s2 => ?_
    have E2 := E1.same s2
    have t2 := t1.mono s2
    refine s_ret (X := X) (d := .bool true) (g_is (g_all t2 (bs := es.map fun _ => true) (g_is (g_lc1 (Γ2 := fun z => [.dat (.list es), .dat (.int ((k' + 1 : Nat) : Int)), .dat z]) (fun _ => .bool true) t2 (gi_list (K := K) (g_var (i := 0) (d := .list es) E2 rfl)) (by omega) (fun H3 s3 z hz => tgt_name (E2.same s3)) (fun X2 H3 σ2 z hz t3 E3 => ?_)) (by rw [List.map_map]; rfl))) (by simp)) fun w H3 s3 dw => ?_
    · obtain ⟨b, e, rfl, te⟩ := each z hz
      exact g_is (g_and (a := true) (b := true) (g_is (g_isTuple (g_var (i := 2) (d := .tuple [b, e]) E3 rfl)) rfl) fun _ => g_isto (k := k') t3 (g_ixT t3 (g_var (i := 2) (d := .tuple [b, e]) E3 rfl) g_int rfl) (g_is (g_sub t3 (g_var (i := 1) (d := .int ((k' + 1 : Nat) : Int)) E3 rfl) g_int) (by rw [show ((k' + 1 : Nat) : Int) - 1 = (k' : Int) by omega])) te) rfl
    · rw [dw.bl_inv]
      exact q H3 ((s1.trans s2).trans s3)
theorem ok_told {f : Addr} {fd : FuncData} (F : Fun K "_law_is_told" "_law_is_told" s__law_is_told f fd) (T : Bl mg) (m1 : mg "_law_is_told" = some (.ref f)) (m2 : PySem.W.keepIn K (.ref f) = true) (m3 : Binds K fd ["_law_paper", "_law_many"] []) : ∀ k : Nat, FnOk P w K mg base CX0 (k + 2) f fd ["_law_paper", "_law_many"] (spIsTo k)
  | 0 => ok_told_body F T ⟨f, fd, m1, m2, m3, F.ok (k := 0) sc__law_is_told (fun _ _ _ _ h => h.elim) (fun _ _ _ _ _ _ _ _ _ h => h.elim)⟩
  | k + 1 => ok_told_body F T ⟨f, fd, m1, m2, m3, ok_told F T m1 m2 m3 k⟩
end K80

/-! repr of data over the abstract heap. -/
namespace KD
open PySem PySem.Spec PyProof.Rows L2
mutual
/-- shown in short: its ints are small, its dicts are empty -/
def shw : PyData → Bool
  | .int i => decide (i.natAbs.log2 < 1920)
  | .list ds => shws ds
  | .tuple ds => shws ds
  | .dict ks => ks.isEmpty
  | _ => true
def shws : List PyData → Bool
  | [] => true
  | d :: ds => shw d && shws ds
end
section
variable {X : Cx} {pins : List (Addr × Obj)} {σ : L2.St} {H : Hp} {s : Shared} {X0 : Addr → Prop}
/-- addresses of data that are so deep at most -/
def Low (X0 : Addr → Prop) (H : Hp) (n : Nat) (bs : List Addr) : Prop := ∀ b ∈ bs, ∃ d, DX X0 H (.ref b) d ∧ d.depth ≤ n
theorem Low.mono {n m : Nat} {bs : List Addr} (h : Low X0 H n bs) (k : n ≤ m) : Low X0 H m bs := fun b hb => by
  obtain ⟨d, r, e⟩ := h b hb
  exact ⟨d, r, Nat.le_trans e k⟩
theorem Low.app {n : Nat} {bs cs : List Addr} (h : Low X0 H n bs) (k : Low X0 H n cs) : Low X0 H n (bs ++ cs) := fun b hb => (List.mem_append.mp hb).elim (h b) (k b)
theorem Low.not {n : Nat} {bs : List Addr} {a : Addr} {d : PyData} (h : Low X0 H n bs) (r : DX X0 H (.ref a) d) (k : n < d.depth) : a ∉ bs := fun hm => by
  obtain ⟨e, r2, q⟩ := h a hm
  rw [← r.fn r2] at q
  omega
theorem Low.cons {n : Nat} {bs : List Addr} {a : Addr} {d : PyData} (h : Low X0 H n bs) (r : DX X0 H (.ref a) d) (k : n ≤ d.depth) : Low X0 H d.depth (a :: bs) := fun b hb => by
  rcases List.mem_cons.mp hb with rfl | hb
  · exact ⟨d, r, Nat.le_refl _⟩
  · exact h.mono k b hb
mutual
theorem reprK_dx (I : L2.Inv X pins σ H s) : ∀ {v : V} {d : PyData} {u : Value}, DX X0 H v d → RelV v u → shw d = true → d.shown.length ≤ sizeLine → ∃ bs, Low X0 H d.depth bs ∧ ReprK X.prog X.w bs s.heap d.depth u d.shown
  | _, _, _, .non, r, _, _ => by
    cases r
    exact ⟨[], (fun _ h => by cases h), by simp only [PyData.shown]; exact .of_is ReprIs.none _ _ _⟩
  | _, _, _, .bl b, r, _, _ => by
    cases r
    exact ⟨[], (fun _ h => by cases h), by simp only [PyData.shown]; exact .of_is (ReprIs.bool b) _ _ _⟩
  | _, _, _, .int i, r, h, _ => by
    obtain ⟨t, rfl⟩ := r
    exact ⟨[], (fun _ h => by cases h), by simp only [PyData.shown]; exact .of_is (ReprIs.int t (by simpa [shw] using h)) _ _ _⟩
  | _, _, _, .str x, r, _, hz => by
    obtain ⟨t, rfl⟩ := r
    exact ⟨[], (fun _ h => by cases h), by simp only [PyData.shown]; exact .of_is (ReprIs.str x t (by simpa only [PyData.shown] using hz)) _ _ _⟩
  | _, _, _, .lst (a := a) (xs := xs) (ds := ds) n e r, ru, h, hz => by
    cases ru
    obtain ⟨its, rv, ⟨o, k, ho, hc, _, hd⟩, _⟩ := I.list (SqL.of e)
    have long : (listText (PyData.shownAll ds)).length ≤ sizeLine := by simpa only [PyData.shown] using hz
    obtain ⟨bs, low, all⟩ := reprAll_dx I r rv (by simpa [shw] using h) fun t ht => Nat.le_trans (listText_mem_le ht) long
    have whole : DX X0 H (.ref a) (.list ds) := .lst n e r
    have fresh : a ∉ bs := low.not whole (by simp only [PyData.depth]; omega)
    refine ⟨a :: bs, low.cons whole (by simp only [PyData.depth]; omega), ?_⟩
    simp only [PyData.depth, PyData.shown]
    cases its with
    | nil =>
      cases ds with
      | nil =>
        simp only [PyData.shownAll, listText_nil]
        exact ReprK.listEmpty ho hc hd
      | cons d ds => cases r; cases rv
    | cons y its => exact ReprK.list ho hc hd fresh (by simpa using all.length_eq) fun i z q => all.item i z (by simpa using q)
  | _, _, _, .tup (a := a) (xs := xs) (ds := ds) n e r, ru, h, hz => by
    cases ru
    obtain ⟨its, rv, ⟨o, ho, hc, k, hd⟩, _⟩ := I.tuple (SqT.of e)
    have long : (tupleText (PyData.shownAll ds)).length ≤ sizeLine := by simpa only [PyData.shown] using hz
    obtain ⟨bs, low, all⟩ := reprAll_dx I r rv (by simpa [shw] using h) fun t ht => Nat.le_trans (tupleText_mem_le ht) long
    have whole : DX X0 H (.ref a) (.tuple ds) := .tup n e r
    have fresh : a ∉ bs := low.not whole (by simp only [PyData.depth]; omega)
    refine ⟨a :: bs, low.cons whole (by simp only [PyData.depth]; omega), ?_⟩
    simp only [PyData.depth, PyData.shown]
    exact ReprK.tuple ho hc hd fresh all
  | _, _, _, .dic (a := a) (kvs := kvs) (ks := ks) n e r, ru, h, hz => by
    cases ru
    have e0 : ks = [] := by simpa [shw] using h
    subst e0
    cases r
    obtain ⟨_, hsys, vs, kv, o, es, ep, ho, ex, hd, _, pr, _⟩ := I.hok a _ e
    cases kv
    have whole : DX X0 H (.ref a) (.dict []) := .dic n e .nil
    refine ⟨a :: [], Low.cons (n := 0) (fun _ h => by cases h) whole (Nat.zero_le _), ?_⟩
    have he : es.toList = [] := by
      generalize es.toList = l at pr
      cases pr
      rfl
    have R : ReprEntriesK X.prog X.w [] s.heap 0 es.toList [] := by
      rw [he]
      exact .nil
    have := ReprK.dict ho ex.1 hd hsys (as := []) (by simp) R
    simpa [PyData.depth, PyData.depthKv, PyData.shown, PyData.shownKv] using this
theorem reprAll_dx (I : L2.Inv X pins σ H s) : ∀ {vs : List V} {ds : List PyData} {us : List Value}, DXs X0 H vs ds → Vals vs us → shws ds = true → (∀ t ∈ PyData.shownAll ds, t.length ≤ sizeLine) → ∃ bs, Low X0 H (PyData.depthAll ds) bs ∧ ReprAllK X.prog X.w bs s.heap (PyData.depthAll ds) us (PyData.shownAll ds)
  | _, _, _, .nil, r, _, _ => by
    cases r
    exact ⟨[], (fun _ h => by cases h), by simp only [PyData.shownAll]; exact .nil⟩
  | _, _, _, .cons (d := d) (ds := ds) h rs, r, hs, hz => by
    cases r with
    | cons r1 r2 =>
      have hs' : shw d = true ∧ shws ds = true := by simpa [shws] using hs
      obtain ⟨b1, l1, k1⟩ := reprK_dx I h r1 hs'.1 (hz _ (by simp only [PyData.shownAll]; exact List.mem_cons_self))
      obtain ⟨b2, l2, k2⟩ := reprAll_dx I rs r2 hs'.2 fun t ht => hz t (by simp only [PyData.shownAll]; exact List.mem_cons_of_mem _ ht)
      refine ⟨b1 ++ b2, ?_, ?_⟩
      · simp only [PyData.depthAll]
        exact (l1.mono (Nat.le_max_left _ _)).app (l2.mono (Nat.le_max_right _ _))
      · simp only [PyData.depthAll, PyData.shownAll]
        exact .cons ((k1.more fun b hb => List.mem_append_left _ hb).level_le (Nat.le_max_left _ _)) (k2.more_le (fun b hb => List.mem_append_right _ hb) (Nat.le_max_right _ _))
end
end
/-- repr of a list of data -/
def rReprL : List V → Hp → VK → Prop := fun xs H Q => ∃ (X0 : Addr → Prop) (v : V) (ds : List PyData), xs = [v] ∧ DX X0 H v (.list ds) ∧ ds ≠ [] ∧ shws ds = true ∧ PyData.depthAll ds ≤ 40 ∧ (PyData.shown (.list ds)).length ≤ sizeLine ∧ Q (.str (PyData.shown (.list ds))) H
theorem call_reprL {X : Cx} (hg : X.A.guards = some []) (hu : X.A.units + 64 < cLine) : CallR X (.builtin "repr") rReprL := by
  intro pins s σ H xs us Q I r h
  obtain ⟨X0, v, ds, rfl, hd, hne, hs, hdp, hz, q⟩ := h
  cases r with
  | cons ru rn =>
    cases rn
    cases hd with
    | @lst a xs _ n e rx =>
      cases ru
      obtain ⟨its, rv, ⟨o, k, ho, hc, _, hd⟩, _⟩ := I.list (SqL.of e)
      have long : (listText (PyData.shownAll ds)).length ≤ sizeLine := by simpa only [PyData.shown] using hz
      obtain ⟨bs, low, all⟩ := reprAll_dx I rx rv hs fun t ht => Nat.le_trans (listText_mem_le ht) long
      have whole : DX X0 H (.ref a) (.list ds) := .lst n e rx
      have fresh : a ∉ bs := low.not whole (by simp only [PyData.depth]; omega)
      cases its with
      | nil =>
        cases rv
        cases rx
        exact absurd rfl hne
      | cons y its =>
        refine call_repr_slot (T := "list") (idr := "list.__repr__") (by omega) ⟨o, ho, hc⟩ F.slot_list_repr.toG ?_
        refine call_list_reprK ho hc hd fresh (by simpa using all.length_eq) (fun i z q => all.item i z (by simpa using q)) hg (fun b _ => Clear.nil b) (by show X.A.units + 1 + (PyData.depthAll ds + 1) < cLine; omega) (fun _ _ z => z) (fun h' t tk hk => ?_) long
        refine ⟨_, _, rfl, .str (PyData.shown (.list ds)), H, I.kept hk, ⟨t, ?_⟩, q⟩
        simp only [PyData.shown]
end KD

/-! repr of any data. -/
namespace KD
open PySem PySem.Spec PyProof.Rows L2
def rReprD : List V → Hp → VK → Prop := fun xs H Q => ∃ (X0 : Addr → Prop) (v : V) (d : PyData), xs = [v] ∧ DX X0 H v d ∧ shw d = true ∧ d.depth ≤ 40 ∧ d.shown.length ≤ sizeLine ∧ Q (.str d.shown) H
theorem call_reprD {X : Cx} (hg : X.A.guards = some []) (hu : X.A.units + 64 < cLine) : CallR X (.builtin "repr") rReprD := by
  intro pins s σ H xs us Q I r h
  obtain ⟨X0, v, d, rfl, hd, hs, hdp, hz, q⟩ := h
  cases r with
  | cons ru rn =>
    cases rn
    cases hd with
    | non =>
      cases ru
      simp only [PyData.shown] at q
      exact P.repr_of_none ⟨.str _, H, I.tok _, ⟨_, rfl⟩, q⟩
    | bl b =>
      cases ru
      simp only [PyData.shown] at q
      exact P.repr_of_bool ⟨.str _, H, I.tok _, ⟨_, rfl⟩, q⟩
    | int i =>
      obtain ⟨t, rfl⟩ := ru
      simp only [PyData.shown] at q
      exact P.repr_of_int (by simpa [shw] using hs) ⟨.str _, H, I.tok _, ⟨_, rfl⟩, q⟩
    | str x =>
      obtain ⟨t, rfl⟩ := ru
      simp only [PyData.shown] at q
      exact P.repr_of_str ⟨.str _, H, I.tok _, ⟨_, rfl⟩, q⟩ (by simpa only [PyData.shown] using hz)
    | @lst a xs ds n e rx =>
      cases ru
      obtain ⟨its, rv, ⟨o, k, ho, hc, _, hd⟩, _⟩ := I.list (SqL.of e)
      have long : (listText (PyData.shownAll ds)).length ≤ sizeLine := by simpa only [PyData.shown] using hz
      obtain ⟨bs, low, all⟩ := reprAll_dx I rx rv (by simpa [shw] using hs) fun t ht => Nat.le_trans (listText_mem_le ht) long
      have whole : DX X0 H (.ref a) (.list ds) := .lst n e rx
      have fresh : a ∉ bs := low.not whole (by simp only [PyData.depth]; omega)
      simp only [PyData.shown] at q
      refine call_repr_slot (T := "list") (idr := "list.__repr__") (by omega) ⟨o, ho, hc⟩ F.slot_list_repr.toG ?_
      cases its with
      | nil =>
        cases rv
        cases rx
        refine call_list_repr_empty ⟨o, ho, hc⟩ ho hd ?_
        refine ⟨_, _, rfl, .str _, H, I.tok _, ⟨_, rfl⟩, ?_⟩
        simp only [PyData.shownAll, listText_nil] at q
        exact q
      | cons y its =>
        simp only [PyData.depth] at hdp
        refine call_list_reprK ho hc hd fresh (by simpa using all.length_eq) (fun i z q => all.item i z (by simpa using q)) hg (fun b _ => Clear.nil b) (by show X.A.units + 1 + (PyData.depthAll ds + 1) < cLine; omega) (fun _ _ z => z) (fun h' t tk hk => ?_) long
        exact ⟨_, _, rfl, .str _, H, I.kept hk, ⟨t, rfl⟩, q⟩
    | @tup a xs ds n e rx =>
      cases ru
      obtain ⟨its, rv, ⟨o, ho, hc, k, hd⟩, _⟩ := I.tuple (SqT.of e)
      have long : (tupleText (PyData.shownAll ds)).length ≤ sizeLine := by simpa only [PyData.shown] using hz
      obtain ⟨bs, low, all⟩ := reprAll_dx I rx rv (by simpa [shw] using hs) fun t ht => Nat.le_trans (tupleText_mem_le ht) long
      have whole : DX X0 H (.ref a) (.tuple ds) := .tup n e rx
      have fresh : a ∉ bs := low.not whole (by simp only [PyData.depth]; omega)
      simp only [PyData.shown] at q
      simp only [PyData.depth] at hdp
      refine call_repr_slot (T := "tuple") (idr := "tuple.__repr__") (by omega) ⟨o, ho, hc⟩ F.slot_tuple_repr ?_
      refine call_tuple_reprK ho hc hd fresh all hg (fun b _ => Clear.nil b) (by show X.A.units + 1 + (PyData.depthAll ds + 1) < cLine; omega) (fun _ _ z => z) (fun h' t tk hk => ?_) long
      exact ⟨_, _, rfl, .str _, H, I.kept hk, ⟨t, rfl⟩, q⟩
    | @dic a kvs ks n e rx =>
      cases ru
      have e0 : ks = [] := by simpa [shw] using hs
      subst e0
      cases rx
      obtain ⟨_, hsys, vs, kv, o, es, ep, ho, ex, hd, _, pr, _⟩ := I.hok a _ e
      cases kv
      have he : es.toList = [] := by
        generalize es.toList = l at pr
        cases pr
        rfl
      have R : ReprEntriesK X.prog X.w [] s.heap 0 es.toList [] := by
        rw [he]
        exact .nil
      have e1 : PyData.shown (.dict []) = dictText [] := by simp [PyData.shown, PyData.shownKv]
      rw [e1] at q
      refine call_repr_slot (T := "dict") (idr := "dict.__repr__") (by omega) ⟨o, ho, ex.1⟩ F.slot_dict_repr ?_
      refine call_dict_reprK ho ex.1 hd hsys (as := []) (by simp) R hg (fun b _ => Clear.nil b) (by show X.A.units + 1 + (0 + 1) < cLine; omega) (fun _ _ z => z) (fun h' t tk hk => ?_) (by decide)
      exact ⟨_, _, rfl, .str _, H, I.kept hk, ⟨t, rfl⟩, q⟩
theorem g_reprD {X : Addr → Prop} {σ : L2.St} {H : Hp} {te : TE} {d : PyData} (h : G X te σ H d) (hs : shw d = true) (hd : d.depth ≤ 40) (hz : d.shown.length ≤ sizeLine) : G X (tCB rReprD (tCons te tNil)) σ H (.str d.shown) := fun H1 s Q q =>
  h H1 s _ fun v H2 s2 r => ⟨X, v, d, rfl, r, hs, hd, hz, q _ H2 s2 (.str _)⟩
end KD

/-! Papers, bent. -/
namespace K80
open PySem PySem.Spec PyProof.Rows L2 KD KS
variable {P : Program} {w : World} {K : PySem.W.Frag} {mg : Str → Option Value} {base : Heap}
/-! ### how great a thing is -/
mutual
def nn : PyData → Nat
  | .none => 1
  | .bool _ => 1
  | .int _ => 1
  | .str _ => 1
  | .list ds => 1 + nnAll ds
  | .tuple ds => 1 + nnAll ds
  | .dict _ => 1
def nnAll : List PyData → Nat
  | [] => 0
  | d :: ds => nn d + nnAll ds
end
theorem nn_pos (d : PyData) : 0 < nn d := by cases d <;> simp [nn] <;> omega
theorem gd_int {i : Int} (h1 : -1 ≤ i) (h2 : i ≤ 100) : gdD (.int i) = true := by
  rw [gdD, decide_eq_true h1, decide_eq_true h2]
  rfl
theorem g_dic0 {X : Addr → Prop} {σ : L2.St} {H : Hp} (t : Trk X H) : G X tDNewK σ H (.dict []) := fun H1 s Q q p hp => q _ _ (Same.upd hp) (.dic ((t.mono s).new hp) upd_same .nil)
theorem k_ext {X : Addr → Prop} {σ : L2.St} {H : Hp} {ta : TE} {i : Nat} {R : Addr} {ys : List V} {ds : List PyData} {Q : VK} (g : σ[i]? = some (some (.ref R))) (xR : X R) (hR : H R = some (.lst ys)) (hl : ys.length + ds.length < 1000) (ha : G X ta σ H (.list ds)) (q : ∀ vs H1, Same H H1 → DXs X H1 vs ds → Q .non (upd H1 R (.lst (ys ++ vs)))) : tBM K "list" rExtend (tVar i) (tCons ta tNil) σ H Q :=
  ⟨.ref R, g, .inl ⟨rfl, ys, SqL.of hR⟩, ha H (Same.refl H) _ fun v H1 s r => by
    obtain ⟨b, zs, rfl, nb, eb, rb⟩ := r.lst_inv
    exact ⟨R, b, ys, zs, rfl, rfl, s _ _ hR, eb, by rw [rb.length, sizeLine_eq]; omega, q zs H1 s rb⟩⟩
theorem k_ifC {tt : TT} {tu tz : TS} {D : Ends} {σ : L2.St} {H : Hp} (J : Bool → Hp → Prop) (h : ∀ Q' : Bool → Hp → Prop, (∀ b H1, J b H1 → Q' b H1) → tt σ H Q') (h1 : ∀ H1, J true H1 → tu { D with nx := tz D } σ H1) (h0 : ∀ H1, J false H1 → tz D σ H1) : tSeq (tIfS tt tu tNext) tz D σ H := h _ fun b H1 j => by
  cases b with
  | true => exact iteT (h1 H1 j)
  | false => exact iteF (h0 H1 j)
/-- a list of things that grows, beside a stream -/
structure Bs (X : Addr → Prop) (st cl : Addr) (n : Nat) (H0 : Hp) (L : Addr) (es : List PyData) (Γ : List Sv) (σ : L2.St) (H : Hp) : Prop where
  S : Sg (fun a => X a ∨ a = L) st cl n H
  k : KpS st cl H0 H
  l : ∃ xs, H L = some (.lst xs) ∧ DXs (fun a => X a ∨ a = L) H xs es
  E : EnvOk (fun a => X a ∨ a = L) H σ Γ
theorem kps_upd {st cl L : Addr} {H H' : Hp} {o : HO} (k : KpS st cl H H') (h : H L = none) : KpS st cl H (upd H' L o) := fun a u n1 n2 e => by
  have ne : a ≠ L := fun c => by
    rw [c, h] at e
    cases e
  rw [upd_ne ne]
  exact k a u n1 n2 e
section
variable {X : Addr → Prop} {st cl : Addr} {n : Nat} {H0 : Hp} {L : Addr} {es ds : List PyData} {Γ : List Sv} {σ : L2.St} {H : Hp} {ta : TE} {tz : TS} {D : Ends} {i : Nat}
theorem ext_by {Q : VK} (B : Bs X st cl n H0 L es Γ σ H) (h0 : H0 L = none) (n1 : L ≠ st) (n2 : L ≠ cl) (hi : Γ[i]? = some (.val (.ref L))) (hl : es.length + ds.length < 1000) (ha : G (fun a => X a ∨ a = L) ta σ H (.list ds)) (k : ∀ H2, Bs X st cl n H0 L (es ++ ds) Γ σ H2 → Q .non H2) : tBM K "list" rExtend (tVar i) (tCons ta tNil) σ H Q := by
  obtain ⟨S, kk, ⟨xs, hL, dx⟩, E⟩ := B
  refine k_ext (R := L) (E.get i _ hi) (.inr rfl) hL (by rw [dx.length]; exact hl) ha fun vs H1 s1 rs => k _ ⟨(S.same s1).put n1 n2, kps_upd (kk.trans (KpS.of s1)) h0, ⟨_, upd_same, ?_⟩, (E.same s1).mono (Kp.put (.inr rfl))⟩
  exact (((dx.mono (Kp.of s1)).append rs).mono (Kp.put (.inr rfl)))
theorem q_ext (B : Bs X st cl n H0 L es Γ σ H) (h0 : H0 L = none) (n1 : L ≠ st) (n2 : L ≠ cl) (hi : Γ[i]? = some (.val (.ref L))) (hl : es.length + ds.length < 1000) (ha : G (fun a => X a ∨ a = L) ta σ H (.list ds)) (k : ∀ H2, Bs X st cl n H0 L (es ++ ds) Γ σ H2 → tz D σ H2) : tSeq (tDrop (tBM K "list" rExtend (tVar i) (tCons ta tNil))) tz D σ H :=
  k_dropQ (ext_by B h0 n1 n2 hi hl ha k)
theorem s_ext (B : Bs X st cl n H0 L es Γ σ H) (h0 : H0 L = none) (n1 : L ≠ st) (n2 : L ≠ cl) (hi : Γ[i]? = some (.val (.ref L))) (hl : es.length + ds.length < 1000) (ha : G (fun a => X a ∨ a = L) ta σ H (.list ds)) (k : ∀ H2, Bs X st cl n H0 L (es ++ ds) Γ σ H2 → D.nx σ H2) : tDrop (tBM K "list" rExtend (tVar i) (tCons ta tNil)) D σ H :=
  k_dropE (ext_by B h0 n1 n2 hi hl ha k)
theorem Bs.same {H2 : Hp} (B : Bs X st cl n H0 L es Γ σ H) (s : Same H H2) : Bs X st cl n H0 L es Γ σ H2 := ⟨B.S.same s, B.k.trans (KpS.of s), let ⟨xs, h, d⟩ := B.l; ⟨xs, s _ _ h, d.mono (Kp.of s)⟩, B.E.same s⟩
theorem Bs.kps {H2 : Hp} {m : Nat} (B : Bs X st cl n H0 L es Γ σ H) (n1 : L ≠ st) (n2 : L ≠ cl) (S : Sg (fun a => X a ∨ a = L) st cl m H2) (k : KpS st cl H H2) : Bs X st cl m H0 L es Γ σ H2 := ⟨S, B.k.trans k, let ⟨xs, h, d⟩ := B.l; ⟨xs, k _ _ n1 n2 h, d.mono (B.S.kp k)⟩, B.E.kps B.S k⟩
theorem Bs.sg (B : Bs X st cl n H0 L es Γ σ H) (n1 : L ≠ st) (n2 : L ≠ cl) : Sg X st cl n H := ⟨B.S.ok, B.S.x1.elim id fun e => absurd e.symm n1, B.S.x2.elim id fun e => absurd e.symm n2, fun a h => B.S.t a (.inl h)⟩
end
/-! ### how a thing is shown -/
theorem int_short {i : Int} (h1 : -1 ≤ i) (h2 : i ≤ 100) : (PyData.shown (.int i)).length ≤ 14 := by
  have h : ∀ j : Nat, j < 102 → (PyData.shown (.int ((j : Int) - 1))).length ≤ 14 := by decide +kernel
  have := h (i + 1).toNat (by omega)
  rwa [show (((i + 1).toNat : Nat) : Int) - 1 = i by omega] at this
def sumL (ts : List Str) : Nat := (ts.map fun t => t.length + 2).sum
theorem from_le : ∀ (ts : List Str) (k : Nat) (acc : Str), (textFrom k acc ts).length ≤ acc.length + sumL ts
  | [], k, acc => by show acc.length ≤ _; omega
  | t :: r, k, acc => by
    have ih := from_le r (k + 1) (acc ++ (if k > 0 then ", " else "" : String) ++ t)
    have e : (acc ++ (if k > 0 then ", " else "" : String) ++ t).length ≤ acc.length + 2 + t.length := by
      rw [strLen_append, strLen_append]
      by_cases h : k > 0
      · rw [if_pos h]
        show acc.length + 2 + t.length ≤ _
        omega
      · rw [if_neg h]
        show acc.length + 0 + t.length ≤ _
        omega
    show (textFrom (k + 1) (acc ++ (if k > 0 then ", " else "" : String) ++ t) r).length ≤ _
    have es : sumL (t :: r) = t.length + 2 + sumL r := by simp [sumL]
    omega
theorem list_le (ts : List Str) : (listText ts).length ≤ sumL ts + 2 := by
  have h := from_le ts 0 "["
  unfold listText
  rw [strLen_append]
  show _ + 1 ≤ _
  have : ("[" : Str).length = 1 := rfl
  omega
theorem piled_is (ts : List Str) : piled ts = sumL ts := by
  induction ts with
  | nil => rfl
  | cons t r ih =>
    have : sumL (t :: r) = t.length + 2 + sumL r := by simp [sumL]
    rw [this, ← ih]
    simp [piled]
    try omega
theorem tuple_le (ts : List Str) : (tupleText ts).length ≤ sumL ts + 3 := by
  have h : (Str.join ", " ts).length ≤ sumL ts := by
    by_cases e : ts = []
    · subst e
      exact Nat.zero_le _
    · have := join_length_add ts e
      rw [piled_is] at this
      omega
  unfold tupleText
  rw [strLen_append, strLen_append]
  have e1 : ("(" : Str).length = 1 := rfl
  by_cases c : (ts.length == 1) = true
  · rw [if_pos c]
    show _ + 2 ≤ _
    omega
  · rw [if_neg c]
    show _ + 1 ≤ _
    omega
mutual
theorem shown_le : ∀ d : PyData, gdD d = true → d.shown.length + 2 ≤ 16 * nn d
  | .none, _ => by decide +kernel
  | .bool b, _ => by cases b <;> decide +kernel
  | .int i, h => by
    rw [gdD, Bool.and_eq_true, decide_eq_true_eq, decide_eq_true_eq] at h
    have := int_short h.1 h.2
    simp only [nn]
    omega
  | .str s, h => by
    rw [gdD, decide_eq_true_eq] at h
    have := (tNames_ok s h).2
    simp only [nn]
    omega
  | .list ds, h => by
    rw [gdD] at h
    have h1 := shown_all ds h
    have h2 := list_le (PyData.shownAll ds)
    simp only [PyData.shown, nn]
    omega
  | .tuple ds, h => by
    rw [gdD] at h
    have h1 := shown_all ds h
    have h2 := tuple_le (PyData.shownAll ds)
    simp only [PyData.shown, nn]
    omega
  | .dict kvs, h => by
    rw [gdD] at h
    have e : kvs = [] := List.isEmpty_iff.mp h
    subst e
    decide +kernel
theorem shown_all : ∀ ds : List PyData, gdAll ds = true → sumL (PyData.shownAll ds) ≤ 16 * nnAll ds
  | [], _ => Nat.zero_le _
  | d :: ds, h => by
    rw [gdAll, Bool.and_eq_true] at h
    have h1 := shown_le d h.1
    have h2 := shown_all ds h.2
    have e : sumL (PyData.shownAll (d :: ds)) = d.shown.length + 2 + sumL (PyData.shownAll ds) := by
      simp only [PyData.shownAll]
      simp [sumL]
    rw [e]
    simp only [nnAll]
    omega
end
mutual
theorem gd_shw : ∀ d : PyData, gdD d = true → shw d = true
  | .none, _ => by simp [shw]
  | .bool b, _ => by simp [shw]
  | .int i, h => by
    rw [gdD, Bool.and_eq_true, decide_eq_true_eq, decide_eq_true_eq] at h
    have hk : ∀ j : Nat, j < 102 → shw (.int ((j : Int) - 1)) = true := by decide +kernel
    have := hk (i + 1).toNat (by omega)
    rwa [show (((i + 1).toNat : Nat) : Int) - 1 = i by omega] at this
  | .str s, _ => by simp [shw]
  | .list ds, h => by
    rw [gdD] at h
    rw [shw]
    exact gd_shws ds h
  | .tuple ds, h => by
    rw [gdD] at h
    rw [shw]
    exact gd_shws ds h
  | .dict kvs, h => by
    rw [gdD] at h
    have e : kvs = [] := List.isEmpty_iff.mp h
    subst e
    simp [shw]
theorem gd_shws : ∀ ds : List PyData, gdAll ds = true → shws ds = true
  | [], _ => by simp [shws]
  | d :: ds, h => by
    rw [gdAll, Bool.and_eq_true] at h
    rw [shws, gd_shw d h.1, gd_shws ds h.2]
    rfl
end
structure Th (e : PyData) : Prop where
  gd : gdD e = true
  dp : e.depth < 20
  sz : nn e ≤ 600000
theorem Th.shown {e : PyData} (h : Th e) : shw e = true ∧ e.depth ≤ 40 ∧ e.shown.length ≤ sizeLine := ⟨gd_shw e h.gd, by have := h.dp; omega, by
  have h1 := shown_le e h.gd
  have h2 := h.sz
  rw [sizeLine_eq]
  omega⟩
/-! ### papers as they are told -/
def PD : Nat → PyData → Prop
  | 0, d => ∃ ws : List Str, d = .tuple (ws.map PyData.str) ∧ ws.length ≤ 2 ∧ ∀ z ∈ ws, z ∈ sNames
  | j + 1, d => ∃ ds, d = .list ds ∧ ds.length ≤ 4 ∧ ∀ z ∈ ds, ∃ b e, z = .tuple [.bool b, e] ∧ PD j e
theorem gd_name {z : Str} (h : z ∈ sNames) : gdD (.str z) = true := by rw [gdD]; exact decide_eq_true (List.mem_append_left _ h)
theorem gd_two {b : Bool} {e : PyData} (h : gdD e = true) : gdD (.tuple [.bool b, e]) = true := by rw [gdD, gdAll, gdAll, gdAll, gdD, h]; rfl
theorem PD.gd : ∀ {j : Nat} {d : PyData}, PD j d → gdD d = true
  | 0, _, ⟨ws, e, _, h⟩ => by
    rw [e, gdD]
    refine gd_all fun z hz => ?_
    obtain ⟨x, hx, rfl⟩ := List.mem_map.mp hz
    exact gd_name (h x hx)
  | j + 1, _, ⟨ds, e, _, h⟩ => by
    rw [e, gdD]
    refine gd_all fun z hz => ?_
    obtain ⟨b, e, rfl, he⟩ := h z hz
    exact gd_two he.gd
theorem nds_all {ds : List PyData} (h : ∀ z ∈ ds, noDict z = true) : noDicts ds = true := by
  induction ds with
  | nil => rfl
  | cons d ds ih =>
    rw [noDicts, h d List.mem_cons_self, ih fun z hz => h z (List.mem_cons_of_mem _ hz)]
    rfl
theorem cls_all {ds : List PyData} (h : ∀ z ∈ ds, z.canLay0 = true) : PyData.canLayAll0 ds = true := by
  induction ds with
  | nil => simp [PyData.canLayAll0]
  | cons d ds ih =>
    rw [PyData.canLayAll0, h d List.mem_cons_self, ih fun z hz => h z (List.mem_cons_of_mem _ hz)]
    rfl
theorem dps_all {n : Nat} {ds : List PyData} (h : ∀ z ∈ ds, z.depth ≤ n) : PyData.depthAll ds ≤ n := by
  induction ds with
  | nil => simp [PyData.depthAll]
  | cons d ds ih =>
    have := h d List.mem_cons_self
    have := ih fun z hz => h z (List.mem_cons_of_mem _ hz)
    rw [PyData.depthAll]
    omega
theorem nns_all {n : Nat} {ds : List PyData} (h : ∀ z ∈ ds, nn z ≤ n) : nnAll ds ≤ ds.length * n := by
  induction ds with
  | nil => simp [nnAll]
  | cons d ds ih =>
    have := h d List.mem_cons_self
    have := ih fun z hz => h z (List.mem_cons_of_mem _ hz)
    rw [nnAll, List.length_cons, Nat.add_mul]
    omega
theorem eqs_all {ds : List PyData} (h : ∀ z ∈ ds, PyData.eqv z z = true) : PyData.eqvAll ds ds = true := by
  induction ds with
  | nil => simp [PyData.eqvAll]
  | cons d ds ih =>
    rw [PyData.eqvAll, h d List.mem_cons_self, ih fun z hz => h z (List.mem_cons_of_mem _ hz)]
    rfl
theorem PD.depth : ∀ {j : Nat} {d : PyData}, PD j d → d.depth ≤ 2 * j + 1
  | 0, _, ⟨ws, e, _, h⟩ => by
    rw [e, PyData.depth]
    have : PyData.depthAll (ws.map PyData.str) ≤ 0 := dps_all fun z hz => by
      obtain ⟨x, _, rfl⟩ := List.mem_map.mp hz
      simp [PyData.depth]
    omega
  | j + 1, _, ⟨ds, e, _, h⟩ => by
    rw [e, PyData.depth]
    have : PyData.depthAll ds ≤ 2 * j + 2 := dps_all fun z hz => by
      obtain ⟨b, e, rfl, he⟩ := h z hz
      have := he.depth
      simp only [PyData.depth, PyData.depthAll]
      omega
    omega
theorem PD.flat : ∀ {j : Nat} {d : PyData}, PD j d → noDict d = true ∧ d.canLay0 = true ∧ PyData.eqv d d = true
  | 0, _, ⟨ws, e, _, h⟩ => by
    rw [e]
    refine ⟨nds_all fun z hz => ?_, ?_, ?_⟩
    · obtain ⟨x, _, rfl⟩ := List.mem_map.mp hz
      rfl
    · simp only [PyData.canLay0]
      refine cls_all fun z hz => ?_
      obtain ⟨x, hx, rfl⟩ := List.mem_map.mp hz
      rw [PyData.canLay0]
      exact (tNames_ok x (List.mem_append_left _ (h x hx))).1
    · simp only [PyData.eqv]
      refine eqs_all fun z hz => ?_
      obtain ⟨x, hx, rfl⟩ := List.mem_map.mp hz
      simp [PyData.eqv]
  | j + 1, _, ⟨ds, e, _, h⟩ => by
    rw [e]
    refine ⟨nds_all fun z hz => ?_, ?_, ?_⟩
    · obtain ⟨b, e, rfl, he⟩ := h z hz
      simp [noDict, noDicts, he.flat.1]
    · simp only [PyData.canLay0]
      refine cls_all fun z hz => ?_
      obtain ⟨b, e, rfl, he⟩ := h z hz
      simp [PyData.canLay0, PyData.canLayAll0, he.flat.2.1]
    · simp only [PyData.eqv]
      refine eqs_all fun z hz => ?_
      obtain ⟨b, e, rfl, he⟩ := h z hz
      simp [PyData.eqv, PyData.eqvAll, he.flat.2.2]
def szP : Nat → Nat
  | 0 => 3
  | j + 1 => 1 + 4 * (2 + szP j)
theorem PD.size : ∀ {j : Nat} {d : PyData}, PD j d → nn d ≤ szP j
  | 0, _, ⟨ws, e, h2, h⟩ => by
    rw [e, nn]
    have : nnAll (ws.map PyData.str) ≤ (ws.map PyData.str).length * 1 := nns_all fun z hz => by
      obtain ⟨x, _, rfl⟩ := List.mem_map.mp hz
      simp [nn]
    rw [List.length_map] at this
    show 1 + _ ≤ 3
    omega
  | j + 1, _, ⟨ds, e, h4, h⟩ => by
    rw [e, nn]
    have : nnAll ds ≤ ds.length * (2 + szP j) := nns_all fun z hz => by
      obtain ⟨b, e, rfl, he⟩ := h z hz
      have := he.size
      simp only [nn, nnAll]
      omega
    have h5 := Nat.mul_le_mul_right (2 + szP j) h4
    show 1 + _ ≤ 1 + 4 * (2 + szP j)
    omega
theorem szP_le {j : Nat} (h : j ≤ 3) : szP j ≤ 381 := by
  match j, h with
  | 0, _ => decide
  | 1, _ => decide
  | 2, _ => decide
  | 3, _ => decide
theorem PD.pl {j : Nat} {d : PyData} (h : PD j d) (hj : j ≤ 3) : Pl d := ⟨h.flat.1, h.flat.2.1, by have := h.depth; omega⟩
theorem nd_mem {z : PyData} : ∀ {ds : List PyData}, noDicts ds = true → z ∈ ds → noDict z = true
  | d :: ds, h, hz => by
    rw [noDicts, Bool.and_eq_true] at h
    rcases List.mem_cons.mp hz with rfl | hz
    · exact h.1
    · exact nd_mem h.2 hz
theorem cl_mem {z : PyData} : ∀ {ds : List PyData}, PyData.canLayAll0 ds = true → z ∈ ds → z.canLay0 = true
  | d :: ds, h, hz => by
    rw [PyData.canLayAll0, Bool.and_eq_true] at h
    rcases List.mem_cons.mp hz with rfl | hz
    · exact h.1
    · exact cl_mem h.2 hz
theorem Pl.items {d z : PyData} (h : Pl d) (hs : isSeq d = true) (hz : z ∈ itemsD d) : Pl z := by
  obtain ⟨h1, h2, h3⟩ := h
  cases d with
  | list ds => exact ⟨nd_mem h1 hz, cl_mem (by rwa [PyData.canLay0] at h2) hz, by have := depth_mem (ds := ds) hz; rw [PyData.depth] at h3; omega⟩
  | tuple ds => exact ⟨nd_mem h1 hz, cl_mem (by rwa [PyData.canLay0] at h2) hz, by have := depth_mem (ds := ds) hz; rw [PyData.depth] at h3; omega⟩
  | _ => cases hs
theorem GT.of : ∀ {k : Nat} {d : PyData}, Pl d → GT k d
  | 0, d, h => fun hs z hz => h.items hs hz
  | k + 1, d, h => fun hs z hz hp => by
    obtain ⟨p1, p2, _⟩ := pair_of hp
    exact GT.of ((h.items hs hz).items p1 (it_mem (d := z) (i := 1) (by rw [p2]; exact Nat.lt_succ_self 1)))
theorem GT.not {k : Nat} {d : PyData} (h : isSeq d = false) : GT k d := by
  cases k with
  | zero => exact fun hs => by rw [h] at hs; cases hs
  | succ k => exact fun hs => by rw [h] at hs; cases hs
/-- what comes of a paper that is bent -/
structure Bt (k : Nat) (t e : PyData) : Prop where
  gt : GT k e
  gd : gdD e = true
  dp : e.depth ≤ t.depth + 3
  sz : nn e ≤ 3 * nn t + 20
theorem cutP_from (xs : List PyData) {p : Int} (hp : 0 ≤ p) : cutPD xs (some p) none = xs.drop p.toNat := by
  unfold cutPD
  rw [sIx_nn hp]
  show (xs.drop (min p.toNat xs.length)).take (xs.length - min p.toNat xs.length) = _
  by_cases h : p.toNat ≤ xs.length
  · rw [Nat.min_eq_left h, List.take_of_length_le (by rw [List.length_drop]; omega)]
  · rw [Nat.min_eq_right (by omega), List.drop_of_length_le (by omega), List.drop_of_length_le (i := p.toNat) (by omega)]
    simp
theorem dxs_revP {X : Addr → Prop} {H : Hp} : ∀ {xs : List V} {ds : List PyData}, DXs X H xs ds → DXs X H xs.reverse ds.reverse
  | _, _, .nil => .nil
  | _, _, .cons h r => by
    rw [List.reverse_cons, List.reverse_cons]
    exact (dxs_revP r).append (.cons h .nil)
theorem g_revP {X : Addr → Prop} {H : Hp} {σ : L2.St} {te : TE} {ds : List PyData} (t : Trk X H) (h : G X te σ H (.list ds)) : G X (tRevL K te) σ H (.list ds.reverse) := fun H1 s Q q =>
  h H1 s _ fun v H2 s2 r => by
    obtain ⟨a, us, rfl, _, ha, rs⟩ := r.lst_inv
    exact ⟨a, us, rfl, SqL.of ha, fun p hp => q _ _ (s2.trans (Same.upd hp)) (DX.newL ((t.mono s).mono s2) (dxs_revP rs) hp)⟩
theorem bt_of {k : Nat} {t e : PyData} (h : Pl e) (g : gdD e = true) (d : e.depth ≤ t.depth + 3) (s : nn e ≤ 3 * nn t + 20) : Bt k t e := ⟨GT.of h, g, d, s⟩
def spBent (k : Nat) : Sp := fun us H Q _ => ∃ (X : Addr → Prop) (st cl : Addr) (n j : Nat) (v1 v2 : V) (t : PyData) (ns : List Str), us = [.ref st, v1, v2, .int (k : Int)] ∧ Sg X st cl n H ∧ n + 10 + 5 * k ≤ 1000000000 ∧ DX X H v1 t ∧ DX X H v2 (wsD ns) ∧ PD j t ∧ j ≤ 3 ∧ 0 < ns.length ∧ ns.length ≤ 1000 ∧ (∀ z ∈ ns, z ∈ sNames) ∧
  ∀ w e H', Bt k t e → Sg X st cl (n + 6 + 5 * k) H' → KpS st cl H H' → DX X H' w e → Q w H'
def spBentP : Nat → Sp
  | 0 => fun _ _ _ _ => False
  | k + 1 => spBent k
theorem c_bent {X : Addr → Prop} {st cl : Addr} {n k j : Nat} {H : Hp} {σ : L2.St} {ts ta tn tk : TE} {E : XK} {t : PyData} {ns : List Str} {Q : VK} (S : Sg X st cl n H) (hv : GV ts σ H (.ref st)) (ha : G X ta σ H t) (hn : G X tn σ H (wsD ns)) (hk : G X tk σ H (.int (k : Int))) (h1 : n + 10 + 5 * k ≤ 1000000000) (ht : PD j t) (hj : j ≤ 3) (h2 : 0 < ns.length) (h3 : ns.length ≤ 1000) (h4 : ∀ z ∈ ns, z ∈ sNames)
    (q : ∀ w e H', Bt k t e → Sg X st cl (n + 6 + 5 * k) H' → KpS st cl H H' → DX X H' w e → Q w H') : tCall (spBent k) [] E (tCons ts (tCons ta (tCons tn (tCons tk tNil)))) σ H Q :=
  hv H (Same.refl H) _ (ha H (Same.refl H) _ fun v1 H1 s1 r1 => hn H1 s1 _ fun v2 H2 s2 r2 => hk H2 (s1.trans s2) _ fun v3 H3 s3 r3 => ⟨X, st, cl, n, j, v1, v2, t, ns, by rw [r3.int_inv]; rfl, S.same ((s1.trans s2).trans s3), h1, r1.mono (Kp.of (s2.trans s3)), r2.mono (Kp.of s3), ht, hj, h2, h3, h4, fun w e H' hg S' k' d' => q w e H' hg S' ((KpS.of ((s1.trans s2).trans s3)).trans k') d'⟩)
theorem cat_at {X : Addr → Prop} {H : Hp} {u v : V} {xs ys : List PyData} {Q : VK} (t : Trk X H) (ru : DX X H u (.list xs)) (rv : DX X H v (.list ys)) (hl : xs.length + ys.length ≤ 1000000) (q : ∀ w H', Same H H' → DX X H' w (.list (xs ++ ys)) → Q w H') : rAddA u v H Q :=
  (RD.or2 (RD.or1 (rd_cat hl)) : RD X rAddA (.list xs) (.list ys) (.list (xs ++ ys))) H u v t ru rv Q q
/-- one pair is put in the place of another -/
theorem put_good {k a : Nat} {ds : List PyData} {b : Bool} {e z : PyData} (ld : ds.length ≤ 4) (pd : Pl (.list ds)) (gd : gdD (.list ds) = true) (ha : ds[a]? = some (.tuple [.bool b, e])) (hz : ∃ c e', z = .tuple [.bool c, e'] ∧ Bt k e e') : Bt (k + 1) (.list ds) (.list (ds.take a ++ [z] ++ ds.drop (a + 1))) := by
  obtain ⟨c, e', rfl, bt⟩ := hz
  have la := (List.getElem?_eq_some_iff.mp ha).1
  have me : ∀ y ∈ ds.take a ++ [.tuple [.bool c, e']] ++ ds.drop (a + 1), y ∈ ds ∨ y = .tuple [.bool c, e'] := fun y hy => by
    rcases List.mem_append.mp hy with hy | hy
    · rcases List.mem_append.mp hy with hy | hy
      · exact .inl (List.mem_of_mem_take hy)
      · exact .inr (List.mem_singleton.mp hy)
    · exact .inl (List.mem_of_mem_drop hy)
  have mem := List.mem_of_getElem? ha
  have gall : gdAll ds = true := by rwa [gdD] at gd
  have dall : ∀ y ∈ ds, y.depth ≤ PyData.depthAll ds := fun y hy => depth_mem hy
  have de : (PyData.tuple [.bool b, e]).depth ≤ PyData.depthAll ds := dall _ mem
  refine ⟨fun _ y hy hp => ?_, ?_, ?_, ?_⟩
  · rcases me y hy with h | rfl
    · obtain ⟨p1, p2, _⟩ := pair_of hp
      exact GT.of ((pd.items rfl h).items p1 (it_mem (d := y) (i := 1) (by rw [p2]; exact Nat.lt_succ_self 1)))
    · exact bt.gt
  · rw [gdD]
    refine gd_all fun y hy => ?_
    rcases me y hy with h | rfl
    · exact gd_mem gall h
    · exact gd_two bt.gd
  · have h1 : PyData.depthAll (ds.take a ++ [.tuple [.bool c, e']] ++ ds.drop (a + 1)) ≤ PyData.depthAll ds + 3 := dps_all fun y hy => by
      rcases me y hy with h | rfl
      · have := dall y h
        omega
      · have := bt.dp
        simp only [PyData.depth, PyData.depthAll] at de ⊢
        omega
    rw [PyData.depth, PyData.depth]
    omega
  · have app : ∀ xs ys : List PyData, nnAll (xs ++ ys) = nnAll xs + nnAll ys := fun xs ys => by
      induction xs with
      | nil => simp [nnAll]
      | cons x xs ih => rw [List.cons_append, nnAll, nnAll, ih]; omega
    have split : ds = ds.take a ++ [.tuple [.bool b, e]] ++ ds.drop (a + 1) := by
      have h1 : ds.drop a = .tuple [.bool b, e] :: ds.drop (a + 1) := by
        rw [List.drop_eq_getElem_cons la]
        rw [List.getElem?_eq_getElem la] at ha
        rw [Option.some.inj ha]
      rw [List.append_assoc, List.singleton_append, ← h1, List.take_append_drop]
    have s1 : nnAll ds = nnAll (ds.take a) + (nnAll [.tuple [.bool b, e]] + 0) + nnAll (ds.drop (a + 1)) := by
      have h := congrArg nnAll split
      rw [app, app] at h
      omega
    have := bt.sz
    rw [nn, nn, app, app]
    simp only [nn, nnAll] at s1 this ⊢
    omega
-- HINT _law_bent le (by omega)
-- HINT _law_bent slice (sl_listK (K := K) rfl)
-- HINT _law_bent ix (ix_seqK (K := K) rfl)
-- HINT _law_bent lcte#1 (tCB (fun xs H Q => ∃ p ys, xs = [V.ref p] ∧ (SqL K H p ys ∨ SqT K H p ys) ∧ ∀ l, H l = none → Q (V.ref l) (upd H l (.lst ys))) (tCons (tVar 10) tNil))
abbrev s__law_bent : Stmt := topS 46
abbrev n__law_bent : List Str := ["_law_stream", "_law_paper", "_law_names", "_law_many", "_law_at", "_law_answer", "_law_inner", "_law_one", "_law_other", "_law_some", "_law_pair"]
theorem sc__law_bent : FnScope n__law_bent ["_law_stream", "_law_paper", "_law_names", "_law_many"] (defScope s__law_bent) := ⟨rfl, rfl, rfl, by decide +kernel, rfl, by decide +kernel, by decide +kernel⟩
theorem ok_bent_body {f : Addr} {fd : FuncData} {k : Nat} (F : Fun K "_law_bent" "_law_bent" s__law_bent f fd) (T : Bl mg) (O__law_draw : Own P w K mg base CX0 1 "_law_draw" ["_law_stream", "_law_many"] spDraw) (O__law_pick : Own P w K mg base CX0 2 "_law_pick" ["_law_stream", "_law_some"] spPick)
    (O__law_bent : Own P w K mg base CX0 (k + 2) "_law_bent" ["_law_stream", "_law_paper", "_law_names", "_law_many"] (spBentP k)) : FnOk P w K mg base CX0 (k + 3) f fd ["_law_stream", "_law_paper", "_law_names", "_law_many"] (spBent k) := by
  refine F.ok sc__law_bent (fun vs H Q E h => ?_) (fun cdv A outer s H vs Q E hr h => ?_)
  · obtain ⟨X, st, cl, n, j, v1, v2, t, ns, rfl, _⟩ := h
    rfl
  · obtain ⟨X, st, cl, n, j, v1, v2, t, ns, rfl, S, hn, r1, r2, told, hj, l0, l1, lns, q⟩ := h
    refine ⟨_, (pss_cons (ps_if (PW.pt (pw_and (pt_cmpR op_gt (pv 3) pe_int (nomark _)) (pw_and (pt_cmpR op_gt (pe_own O__law_draw hr (by omega) (by rfl) (pa_cons (pv 0) (pa_cons pe_int pa_nil))) pe_int (nomark _)) (pw_and (pt_val (pe_callB call_isi (by rfl) T.b_isinstance boot_isinstance (pa_cons (pv 1) (pa_cons (pe_bltn (v := .ty "list") (by rfl) T.b_list boot_list rfl) pa_nil)))) (pw_and1 (pt_cmpR (op_neD hr.units) (pv 1) (pe_lst pa_nil) (nomark _)))))))
    (pss_cons (ps_set (i := 4) sc__law_bent.nd rfl (by first | exact Or.inl rfl | exact Or.inr rfl) (pe_own O__law_draw hr (by omega) (by rfl) (pa_cons (pv 0) (pa_cons (pe_callB call_len (by rfl) T.b_len boot_len (pa_cons (pv 1) pa_nil)) pa_nil))))
    (pss_cons (ps_asg (pe_ix (ix_seqK (K := K) rfl) (pv 1) (pv 4) (fun _ _ => rfl)) (pg_tup (n := 2) rfl (pgs_cons (pg_name (i := 5) sc__law_bent.nd rfl (by first | exact Or.inl rfl | exact Or.inr rfl)) (pgs_cons (pg_name (i := 6) sc__law_bent.nd rfl (by first | exact Or.inl rfl | exact Or.inr rfl)) pgs_nil))))
    (pss_cons (ps_if (pt_cmpR (op_eqD hr.units) (pe_own O__law_draw hr (by omega) (by rfl) (pa_cons (pv 0) (pa_cons pe_int pa_nil))) pe_int (nomark _))
    (pss_one (ps_ret (pe_op op_addA (pe_op op_addA (pe_slice (sl_listK (K := K) rfl) (pv 1) po_none (po_some (pv 4))) (pe_lst (pa_cons (pe_tup (pa_cons (pe_not (pv 5)) (pa_cons (pv 6) pa_nil))) pa_nil))) (pe_slice (sl_listK (K := K) rfl) (pv 1) (po_some (pe_op op_addA (pv 4) pe_int)) po_none)))) pss_nil)
    (pss_one (ps_ret (pe_op op_addA (pe_op op_addA (pe_slice (sl_listK (K := K) rfl) (pv 1) po_none (po_some (pv 4))) (pe_lst (pa_cons (pe_tup (pa_cons (pv 5) (pa_cons (pe_own O__law_bent hr (by omega) (by rfl) (pa_cons (pv 0) (pa_cons (pv 6) (pa_cons (pv 2) (pa_cons (pe_op op_sub (pv 3) pe_int) pa_nil))))) pa_nil))) pa_nil))) (pe_slice (sl_listK (K := K) rfl) (pv 1) (po_some (pe_op op_addA (pv 4) pe_int)) po_none))))))) pss_nil)
    (pss_cons (ps_par (i := 7) (j := 8) (by rfl) sc__law_bent.nd rfl rfl (by decide) rfl rfl (pa_cons (pe_own O__law_pick hr (by omega) (by rfl) (pa_cons (pv 0) (pa_cons (pv 2) pa_nil))) (pa_cons (pe_own O__law_pick hr (by omega) (by rfl) (pa_cons (pv 0) (pa_cons (pv 2) pa_nil))) pa_nil)) (by rfl))
    (pss_cons (ps_set (i := 9) sc__law_bent.nd rfl (by first | exact Or.inl rfl | exact Or.inr rfl) (pe_lst (pa_cons (pe_tup (pa_cons (pv 7) (pa_cons (pv 8) pa_nil))) (pa_cons (pe_lst (pa_cons (pv 7) (pa_cons (pv 8) pa_nil))) (pa_cons (pe_tup (pa_cons (pv 7) pa_nil)) (pa_cons (pe_tup (pa_cons (pv 7) (pa_cons (pv 8) (pa_cons (pv 7) pa_nil)))) (pa_cons pe_non (pa_cons pe_int (pa_cons pe_str (pa_cons pe_dnewK (pa_cons (pe_lst pa_nil) (pa_cons (pe_tup pa_nil) (pa_cons (pe_lst (pa_cons (pe_tup (pa_cons pe_bl (pa_cons (pv 1) pa_nil))) pa_nil)) pa_nil)))))))))))))
    (pss_cons (ps_expr (pe_bm PySem.F.plainAttrs_list PySem.F.slot_list_extend PySem.F.type_list_extend mt_extend (pv 9) (pa_cons (pe_lst (pa_cons (pe_lst (pa_cons (pe_tup (pa_cons pe_int (pa_cons (pv 1) pa_nil))) pa_nil)) (pa_cons (pe_lst (pa_cons (pv 1) pa_nil)) (pa_cons (pe_tup (pa_cons pe_non (pa_cons (pv 7) pa_nil))) (pa_cons (pe_tup (pa_cons pe_str (pa_cons pe_non pa_nil))) pa_nil))))) pa_nil)))
    (pss_cons (ps_if (pt_val (pe_callB call_isi (by rfl) T.b_isinstance boot_isinstance (pa_cons (pv 1) (pa_cons (pe_bltn (v := .ty "list") (by rfl) T.b_list boot_list rfl) pa_nil))))
    (pss_one (ps_expr (pe_bm PySem.F.plainAttrs_list PySem.F.slot_list_extend PySem.F.type_list_extend mt_extend (pv 9) (pa_cons (pe_lst (pa_cons (pe_slice (sl_listK (K := K) rfl) (pv 1) po_none (po_some (pe_un un_neg pe_int))) (pa_cons (pe_op op_addA (pv 1) (pe_slice (sl_listK (K := K) rfl) (pv 1) po_none (po_some pe_int))) (pa_cons (pe_callTy call_tuple_of (by rfl) T.b_tuple boot_tuple (pa_cons (pv 1) pa_nil)) (pa_cons (pe_lc (own := [("_law_pair", 10)]) (g := (gName 10)) (tt := tYes) (te := (tCB (fun xs H Q => ∃ p ys, xs = [V.ref p] ∧ (SqL K H p ys ∨ SqT K H p ys) ∧ ∀ l, H l = none → Q (V.ref l) (upd H l (.lst ys))) (tCons (tVar 10) tNil))) rfl sc__law_bent.nd (pi_list (pv 1)) (blkOk_by (N := n__law_bent) (sc := defScope s__law_bent) (by decide +kernel)) (fun _ _ _ _ _ => (pg_name (i := 10) sc__law_bent.nd rfl (by first | exact Or.inl rfl | exact Or.inr rfl))) (fun _ _ _ _ _ => pts_nil) (fun _ _ _ _ _ => (pe_callTy call_list_of (by rfl) T.b_list boot_list (pa_cons (pv 10) pa_nil)))) (pa_cons (pe_revL (pv 1)) pa_nil)))))) pa_nil)))) pss_nil)
    (pss_one (ps_ret (pe_own O__law_pick hr (by omega) (by rfl) (pa_cons (pv 0) (pa_cons (pv 9) pa_nil)))))))))), ?_⟩
    let Γ (x4 x5 x6 x7 x8 x9 : Sv) : List Sv := [.val (.ref st), .dat t, .dat (wsD ns), .dat (.int (k : Int)), x4, x5, x6, x7, x8, x9, .un]
    have En : EnvOk X H (L2.start n__law_bent [.ref st, v1, v2, .int (k : Int)]) (Γ .un .un .un .un .un .un) := ⟨rfl, fun i s e => by
      match i, e with
      | 0, e => cases e; rfl
      | 1, e => cases e; exact ⟨_, rfl, r1⟩
      | 2, e => cases e; exact ⟨_, rfl, r2⟩
      | 3, e => cases e; exact ⟨_, rfl, .int _⟩
      | 4, e => cases e; trivial
      | 5, e => cases e; trivial
      | 6, e => cases e; trivial
      | 7, e => cases e; trivial
      | 8, e => cases e; trivial
      | 9, e => cases e; trivial
      | 10, e => cases e; trivial
      | _ + 11, e => cases e⟩
    have pt := told.pl hj
    have gt' := told.gd
    refine k_ifC (fun b H1 => Sg X st cl (n + 1) H1 ∧ KpS st cl H H1 ∧ (b = true → 0 < k ∧ ∃ j' ds, j = j' + 1 ∧ t = .list ds ∧ 0 < ds.length)) (fun Q' q' => ?_) (fun H1 ⟨S1, k1, hb⟩ => ?_) fun H1 ⟨S1, k1, _⟩ => ?_
    · refine gt_cmpI S.t (g := fun i j => decide (i > j)) (g_var (i := 3) (d := .int (k : Int)) En rfl) g_int H (Same.refl _) _ fun H1 s1 => ?_
      have S1 := S.same s1
      have E1 := En.same s1
      cases hk : decide ((k : Int) > 0) with
      | false => exact iteF (q' _ _ ⟨S1.le (by omega), KpS.of s1, fun h => by cases h⟩)
      | true =>
        refine iteT (k_test (k_op (c_draw (m := 3) S1 (gv_var (i := 0) E1 rfl) g_int (by omega) (by decide) (by decide) fun jj H2 j0 j1 S2 k2 => g_int (X := X) (i := 0) H2 (Same.refl _) _ fun v H3 s3 r3 => ⟨jj, 0, rfl, r3.int_inv, _, rfl, ?_⟩)))
        have S3 := S2.same s3
        have k3 := ((KpS.of s1).trans k2).trans (KpS.of s3)
        have E3 := (E1.kps S1 k2).same s3
        cases hd : decide (jj > 0) with
        | false => exact iteF (q' _ _ ⟨S3, k3, fun h => by cases h⟩)
        | true =>
          refine iteT (gt_B (g_isList (g_var (i := 1) (d := t) E3 rfl)) H3 (Same.refl _) _ fun H4 s4 => ?_)
          cases hl : isa_list t with
          | false => exact iteF (q' _ _ ⟨S3.same s4, k3.trans (KpS.of s4), fun h => by cases h⟩)
          | true =>
            refine iteT (gt_neD (K := K) (S3.t.mono s4) (g_var (i := 1) (d := t) (E3.same s4) rfl) (g_lst (S3.t.mono s4) ga_nil (by simp)) pt.nd rfl pt.sh (shaped_ints []) H4 (Same.refl _) _ fun H5 s5 => q' _ _ ⟨(S3.same s4).same s5, k3.trans (KpS.of (s4.trans s5)), fun hne => ⟨by have := of_decide_eq_true hk; omega, ?_⟩⟩)
            cases j with
            | zero =>
              obtain ⟨ws, rfl, _⟩ := told
              cases hl
            | succ j' =>
              obtain ⟨ds, rfl, _, _⟩ := told
              refine ⟨j', ds, rfl, rfl, ?_⟩
              cases ds with
              | nil => simp [PyData.eqv, PyData.eqvAll] at hne
              | cons d ds => exact Nat.succ_pos _
    · -- one pair otherwise
      obtain ⟨hk, j', ds, rfl, rfl, hpos⟩ := hb rfl
      obtain ⟨k', rfl⟩ : ∃ k', k = k' + 1 := ⟨k - 1, by omega⟩
      obtain ⟨ds', e', ld, each⟩ := told
      cases e'
      have E1 := En.kps S k1
      refine k_set (c_draw (m := (ds.length : Int)) S1 (gv_var (i := 0) E1 rfl) (g_len (K := K) S1.t (g_var (i := 1) (d := .list ds) E1 rfl) rfl) (by omega) (by omega) (by omega) fun at_ H2 a0 a1 S2 k2 => ?_)
      obtain ⟨a, rfl⟩ : ∃ a : Nat, at_ = (a : Int) := ⟨at_.toNat, by omega⟩
      have la : a < ds.length := by omega
      have E2 : EnvOk X H2 _ (Γ (.dat (.int (a : Int))) .un .un .un .un .un) := (E1.kps S1 k2).set (i := 4) (v := .int (a : Int)) (.int _)
      have ha : ds[a]? = some ds[a] := List.getElem?_eq_getElem la
      obtain ⟨b, e, hz, he⟩ := each _ (List.getElem_mem la)
      rw [hz] at ha
      refine k_asgQ (g_ixL S2.t (g_var (i := 1) (d := .list ds) E2 rfl) (g_var (i := 4) (d := .int (a : Int)) E2 rfl) (atI_nat ha) H2 (Same.refl _) _ fun v3 H3 s3 r3 => g_pair r3 fun u5 u6 y5 y6 => ?_)
      have S3 := S2.same s3
      have E3 : EnvOk X H3 _ (Γ (.dat (.int (a : Int))) (.dat (.bool b)) (.dat e) .un .un .un) := ((E2.same s3).set (i := 5) y5).set (i := 6) y6
      have k03 := (k1.trans k2).trans (KpS.of s3)
      have g1 : ∀ {H : Hp} {σ : L2.St}, Trk X H → EnvOk X H σ (Γ (.dat (.int (a : Int))) (.dat (.bool b)) (.dat e) .un .un .un) → G X (tSl (rSlL K) (tVar 1) tNoPart (tPart (tVar 4))) σ H (.list (ds.take a)) := fun t E => g_is (g_sl (K := K) (lo := none) (hi := some (a : Int)) t (g_var (i := 1) (d := .list ds) E rfl) go_none (go_some (g_var (i := 4) (d := .int (a : Int)) E rfl))) (by rw [cutP_to _ (by omega)]; rfl)
      have g2 : ∀ {H : Hp} {σ : L2.St}, Trk X H → EnvOk X H σ (Γ (.dat (.int (a : Int))) (.dat (.bool b)) (.dat e) .un .un .un) → G X (tSl (rSlL K) (tVar 1) (tPart (tOp rAddA (tVar 4) (tC (.int 1)))) tNoPart) σ H (.list (ds.drop (a + 1))) := fun t E => g_is (g_sl (K := K) (lo := some ((a : Int) + 1)) (hi := none) t (g_var (i := 1) (d := .list ds) E rfl) (go_some (g_addI t (g_var (i := 4) (d := .int (a : Int)) E rfl) g_int)) go_none) (by rw [cutP_from _ (by omega), show ((a : Int) + 1).toNat = a + 1 by omega])
      have lt : (ds.take a).length ≤ 4 := by rw [List.length_take]; omega
      have ldr : (ds.drop (a + 1)).length ≤ 4 := by rw [List.length_drop]; omega
      have pe : Pl e := by
        have h0 := pt.items (d := .list ds) rfl (List.getElem_mem la)
        rw [hz] at h0
        exact h0.items (d := .tuple [.bool b, e]) rfl (by simp [itemsD])
      have ge : gdD e = true := he.gd
      refine k_ifC (fun b H4 => Sg X st cl (n + 3) H4 ∧ KpS st cl H3 H4) (fun Q' q' => ?_) (fun H4 ⟨S4, k4⟩ => ?_) fun H4 ⟨S4, k4⟩ => ?_
      · refine k_test (k_op (c_draw (m := 4) S3 (gv_var (i := 0) E3 rfl) g_int (by omega) (by decide) (by decide) fun jj H4 j0 j1 S4 k4 => g_int (X := X) (i := 0) H4 (Same.refl _) _ fun v H5 s5 r5 => rb_eqD (K := K) (X := X) (x := .int jj) (y := .int 0) rfl rfl (shaped_int _) (shaped_int _) H5 _ _ (S4.t.mono s5) (.int _) r5 _ ⟨_, rfl, q' _ H5 ⟨S4.same s5, k4.trans (KpS.of s5)⟩⟩))
      · have E4 := E3.kps S3 k4
        have t4 := S4.t
        refine s_ret (X := X) (d := .list (ds.take a ++ [.tuple [.bool (!b), e]] ++ ds.drop (a + 1))) (g_cat t4 (xs := ds.take a ++ [.tuple [.bool (!b), e]]) (g_cat t4 (g1 t4 E4) (g_lst t4 (ga_cons (g_tup t4 (ga_cons (g_not (g_var (i := 5) (d := .bool b) E4 rfl)) (ga_cons (g_var (i := 6) (d := e) E4 rfl) ga_nil)) (by simp)) ga_nil) (by simp)) (by simp; omega)) (g2 t4 E4) (by simp; omega)) fun w H5 s5 dw => q w _ H5 ?_ ((S4.same s5).le (by omega)) ((k03.trans k4).trans (KpS.of s5)) dw
        exact put_good ld pt gt' ha ⟨!b, e, rfl, bt_of pe ge (by omega) (by omega)⟩
      · have E4 := E3.kps S3 k4
        have t4 := S4.t
        refine k_ret (k_op (k_op (g1 t4 E4 H4 (Same.refl _) _ fun v5 H5 s5 r5 => k_lst (k_cons (k_tup (k_cons (g_var (i := 5) (d := .bool b) (E4.same s5) rfl H5 (Same.refl _) _ fun v6 H6 s6 r6 => k_cons (c_bent (k := k') (t := e) (j := j') (ns := ns) ((S4.same s5).same s6) (gv_var (i := 0) ((E4.same s5).same s6) rfl) (g_var (i := 6) (d := e) ((E4.same s5).same s6) rfl) (g_var (i := 2) (d := wsD ns) ((E4.same s5).same s6) rfl) (g_is (g_sub ((t4.mono s5).mono s6) (g_var (i := 3) (d := .int ((k' + 1 : Nat) : Int)) ((E4.same s5).same s6) rfl) g_int) (by rw [show ((k' + 1 : Nat) : Int) - 1 = (k' : Int) by omega])) (by omega) he (by omega) l0 l1 lns fun w7 e7 H7 hg7 S7 k7 d7 => k_nil ⟨by show 2 ≤ sizeLine; decide, fun p hp => k_nil ⟨by show 1 ≤ sizeLine; decide, fun L hL => ?_⟩⟩))))))))
        have sp : Same H7 (upd H7 p (.tup [v6, w7])) := Same.upd hp
        have sL : Same (upd H7 p (.tup [v6, w7])) (upd (upd H7 p (.tup [v6, w7])) L (.lst [.ref p])) := Same.upd hL
        have d6 := r6.mono (((S4.same s5).same s6).kp k7)
        have dp : DX X (upd H7 p (.tup [v6, w7])) (.ref p) (.tuple [.bool b, e7]) := DX.newT S7.t (.cons d6 (.cons d7 .nil)) hp
        have tL := (S7.t.mono sp).mono sL
        have dL : DX X (upd (upd H7 p (.tup [v6, w7])) L (.lst [.ref p])) (.ref L) (.list [.tuple [.bool b, e7]]) := DX.newL (S7.t.mono sp) (.cons dp .nil) hL
        have d5 := ((r5.mono (Kp.of s6)).mono (((S4.same s5).same s6).kp k7)).mono (Kp.of (sp.trans sL))
        have S8 := (S7.same sp).same sL
        have E8 := ((((E4.same s5).same s6).kps ((S4.same s5).same s6) k7).same sp).same sL
        have k8 : KpS st cl H4 (upd (upd H7 p (.tup [v6, w7])) L (.lst [.ref p])) := ((KpS.of (s5.trans s6)).trans k7).trans (KpS.of (sp.trans sL))
        generalize upd (upd H7 p (.tup [v6, w7])) L (.lst [.ref p]) = H8 at *
        refine cat_at tL d5 dL (by simp; omega) fun w9 H9 s9 d9 => ?_
        refine g2 (tL.mono s9) (E8.same s9) H9 (Same.refl _) _ fun vA HA sA rA => ?_
        refine cat_at ((tL.mono s9).mono sA) (d9.mono (Kp.of sA)) rA (by simp; omega) fun wB HB sB dB => q wB _ HB ?_ ((((S8.same s9).same sA).same sB).le (by omega)) (((k03.trans k4).trans k8).trans (KpS.of ((s9.trans sA).trans sB))) dB
        exact put_good ld pt gt' ha ⟨b, e7, rfl, hg7⟩
    · -- something else
      have E1 := En.kps S k1
      refine k_par (c_pick (ds := ns.map PyData.str) S1 (gv_var (i := 0) E1 rfl) (g_var (i := 2) (d := wsD ns) E1 rfl) (by omega) (by rw [List.length_map]; exact l0) (by rw [List.length_map]; omega) fun w1 d1 H2 hd1 S2 k2 dw1 => ?_)
      have E2 := E1.kps S1 k2
      refine c_pick (ds := ns.map PyData.str) S2 (gv_var (i := 0) E2 rfl) (g_var (i := 2) (d := wsD ns) E2 rfl) (by omega) (by rw [List.length_map]; exact l0) (by rw [List.length_map]; omega) fun w2 d2 H3 hd2 S3 k3 dw2 => ⟨_, _, rfl, ?_⟩
      obtain ⟨o1, ho1, rfl⟩ := List.mem_map.mp hd1
      obtain ⟨o2, ho2, rfl⟩ := List.mem_map.mp hd2
      have E3 : EnvOk X H3 _ (Γ .un .un .un (.dat (.str o1)) (.dat (.str o2)) .un) := ((E2.kps S2 k3).set (i := 7) (dw1.mono (S2.kp k3))).set (i := 8) dw2
      have k03 := (k1.trans k2).trans k3
      have t3 := S3.t
      have g7 := g_var (i := 7) (d := .str o1) E3 rfl
      have g8 := g_var (i := 8) (d := .str o2) E3 rfl
      have gT : ∀ {H : Hp} {σ : L2.St} {Γ : List Sv} {X : Addr → Prop}, EnvOk X H σ Γ → Γ[1]? = some (.dat t) → G X (tVar 1) σ H t := fun E h => g_var (i := 1) (d := t) E h
      let es0 : List PyData := [.tuple [.str o1, .str o2], .list [.str o1, .str o2], .tuple [.str o1], .tuple [.str o1, .str o2, .str o1], .none, .int 5, .str "ab", .dict [], .list [], .tuple [], .list [.tuple [.bool true, t]]]
      refine k_own (i := 9) E3 t3 (show GN X _ _ H3 (.list es0) from gn_lst t3 (ga_cons (g_tup t3 (ga_cons g7 (ga_cons g8 ga_nil)) (by simp)) (ga_cons (g_lst t3 (ga_cons g7 (ga_cons g8 ga_nil)) (by simp)) (ga_cons (g_tup t3 (ga_cons g7 ga_nil) (by simp)) (ga_cons (g_tup t3 (ga_cons g7 (ga_cons g8 (ga_cons g7 ga_nil))) (by simp)) (ga_cons g_non (ga_cons g_int (ga_cons g_str (ga_cons (g_dic0 t3) (ga_cons (g_lst t3 ga_nil (by simp)) (ga_cons (g_tup t3 ga_nil (by simp)) (ga_cons (g_lst t3 (ga_cons (g_tup t3 (ga_cons g_bl (ga_cons (gT E3 rfl) ga_nil)) (by simp)) ga_nil) (by simp)) ga_nil))))))))))) (by simp [es0])) fun L H4 xs4 hL s4 h4 dx4 E4 t4 => ?_
      have n1 := S3.ne1 hL
      have n2 := S3.ne2 hL
      have nX : ¬ X L := t3.new hL
      have h0 : H L = none := kps_none k03 n1 n2 hL
      let Γ9 : List Sv := Γ .un .un .un (.dat (.str o1)) (.dat (.str o2)) (.val (.ref L))
      have B0 : Bs X st cl (n + 3) H L es0 Γ9 _ H4 := ⟨⟨S3.ok.same s4, .inl S3.x1, .inl S3.x2, t4⟩, k03.trans (KpS.of s4), ⟨xs4, h4, dx4⟩, E4⟩
      have t0 := B0.S.t
      have gV0 := gT B0.E rfl
      have go1 := g_var (i := 7) (d := .str o1) B0.E rfl
      refine q_ext (i := 9) (ds := [.list [.tuple [.int 1, t]], .list [t], .tuple [.none, .str o1], .tuple [.str "a", .none]]) B0 h0 n1 n2 rfl (by simp [es0]) (g_lst t0 (ga_cons (g_lst t0 (ga_cons (g_tup t0 (ga_cons g_int (ga_cons gV0 ga_nil)) (by simp)) ga_nil) (by simp)) (ga_cons (g_lst t0 (ga_cons gV0 ga_nil) (by simp)) (ga_cons (g_tup t0 (ga_cons g_non (ga_cons go1 ga_nil)) (by simp)) (ga_cons (g_tup t0 (ga_cons g_str (ga_cons g_non ga_nil)) (by simp)) ga_nil)))) (by simp)) fun H5 B1 => ?_
      let es1 : List PyData := es0 ++ [.list [.tuple [.int 1, t]], .list [t], .tuple [.none, .str o1], .tuple [.str "a", .none]]
      have B1 : Bs X st cl (n + 3) H L es1 Γ9 _ H5 := B1
      have s1 := (tNames_ok o1 (List.mem_append_left _ (lns _ ho1))).1
      have s2 := (tNames_ok o2 (List.mem_append_left _ (lns _ ho2))).1
      have sa := (tNames_ok "a" (by decide +kernel)).1
      have sab := (tNames_ok "ab" (by decide +kernel)).1
      have f1 := gd_name (lns _ ho1)
      have f2 := gd_name (lns _ ho2)
      have fa : gdD (.str "a") = true := by decide +kernel
      have fab : gdD (.str "ab") = true := by decide +kernel
      have i1 : gdD (.int 1) = true := by decide +kernel
      have i5 : gdD (.int 5) = true := by decide +kernel
      have bb : gdD (.bool true) = true := by rw [gdD]
      have nn0 : gdD .none = true := by rw [gdD]
      have tn := nn_pos t
      have pd := pt.nd
      have pc := pt.cl
      have dd := told.depth
      have good1 : ∀ e ∈ es1, Bt k t e := fun e he => by
        simp only [es1, es0, List.mem_append, List.mem_cons, List.not_mem_nil, or_false] at he
        rcases he with (rfl | rfl | rfl | rfl | rfl | rfl | rfl | rfl | rfl | rfl | rfl) | (rfl | rfl | rfl | rfl)
        case inl.inr.inr.inr.inr.inr.inr.inr.inl => exact ⟨GT.not rfl, by rw [gdD]; rfl, by simp [PyData.depth, PyData.depthKv], by simp only [nn]; omega⟩
        all_goals refine bt_of ⟨?_, ?_, ?_⟩ ?_ ?_ ?_
        all_goals first
          | (simp only [noDict, noDicts, pd, Bool.and_true, Bool.and_self]; done)
          | (simp only [PyData.canLay0, PyData.canLayAll0, s1, s2, sa, sab, pc, Bool.and_true, Bool.and_self]; done)
          | (simp only [PyData.depth, PyData.depthAll]; omega)
          | (simp only [nn, nnAll]; omega)
          | assumption
          | (rw [gdD]; simp only [gdAll, f1, f2, fa, fab, i1, i5, bb, nn0, gt', Bool.and_true, Bool.and_self]; done)
          | (rw [gdD]; simp only [gdAll, Bool.and_true]; rw [gdD]; simp only [gdAll, f1, f2, fa, fab, i1, i5, bb, nn0, gt', Bool.and_true, Bool.and_self]; done)
      refine q_ifJ (b := isa_list t) (gt_B (g_isList (gT B1.E rfl))) (fun σ' H' => ∃ es, Bs X st cl (n + 3) H L es Γ9 σ' H' ∧ (∀ e ∈ es, Bt k t e) ∧ 0 < es.length ∧ es.length ≤ 30) (fun σ8 H8 ⟨es', B', good', e0', e1'⟩ => ?_) (fun hb hJ H8 s8 => ?_) fun hb H8 s8 => ⟨es1, B1.same s8, good1, by simp [es1, es0], by simp [es1, es0]⟩
      · obtain ⟨xs, hLx, dxs⟩ := B'.l
        have EG := EnvOk.give (i := 9) B'.E rfl nX hLx dxs
        exact k_ret (c_pick (ds := es') (B'.sg n1 n2) (gv_var (i := 0) EG rfl) (g_var (i := 9) (d := .list es') EG rfl) (by omega) e0' (by omega) fun w d H9 hd' S9 k9 dw => q w d H9 (good' d hd') (S9.le (by omega)) (B'.k.trans k9) dw)
      · have B2 := B1.same s8
        have t2 := B2.S.t
        obtain ⟨j', ds, rfl, rfl, ld, each⟩ : ∃ j' ds, j = j' + 1 ∧ t = .list ds ∧ ds.length ≤ 4 ∧ ∀ z ∈ ds, ∃ b e, z = .tuple [.bool b, e] ∧ PD j' e := by
          cases j with
          | zero =>
            obtain ⟨ws, rfl, _⟩ := told
            cases hb
          | succ j' =>
            obtain ⟨ds, rfl, h1, h2⟩ := told
            exact ⟨j', ds, rfl, rfl, h1, h2⟩
        have gV2 : G (fun a => X a ∨ a = L) (tVar 1) _ H8 (.list ds) := gT B2.E rfl
        let X2 : Addr → Prop := fun a => X a ∨ a = L
        have hps : ∀ z ∈ ds, noDict z = true ∧ z.canLay0 = true ∧ z.depth ≤ PyData.depthAll ds ∧ gdD z = true := fun z hz => by
          have p := pt.items (d := .list ds) rfl hz
          have gall : gdAll ds = true := by have := gt'; rwa [gdD] at this
          exact ⟨p.nd, p.cl, depth_mem hz, gd_mem gall hz⟩
        have sub : ∀ es : List PyData, (∀ z ∈ es, z ∈ ds) → nnAll es ≤ 2 * nnAll ds + 10 → Bt k (.list ds) (.list es) ∧ Bt k (.list ds) (.tuple es) := fun es hs hn => by
          have a1 : noDicts es = true := nds_all fun z hz => (hps z (hs z hz)).1
          have a2 : PyData.canLayAll0 es = true := cls_all fun z hz => (hps z (hs z hz)).2.1
          have a3 : PyData.depthAll es ≤ PyData.depthAll ds := dps_all fun z hz => (hps z (hs z hz)).2.2.1
          have a4 : gdAll es = true := gd_all fun z hz => (hps z (hs z hz)).2.2.2
          have a5 : (PyData.list ds).depth = PyData.depthAll ds + 1 := by rw [PyData.depth]
          exact ⟨bt_of ⟨a1, by rw [PyData.canLay0]; exact a2, by rw [PyData.depth]; omega⟩ (by rw [gdD]; exact a4) (by rw [a5, PyData.depth]; omega) (by rw [nn, nn]; omega), bt_of ⟨a1, by rw [PyData.canLay0]; exact a2, by rw [PyData.depth]; omega⟩ (by rw [gdD]; exact a4) (by rw [a5, PyData.depth]; omega) (by rw [nn, nn]; omega)⟩
        have nnT : ∀ (m : Nat) (xs : List PyData), nnAll (xs.take m) ≤ nnAll xs := fun m xs => by
          induction xs generalizing m with
          | nil => simp
          | cons x xs ih =>
            cases m with
            | zero => simp [nnAll]
            | succ m => rw [List.take_succ_cons, nnAll, nnAll]; have := ih m; omega
        have nnP : ∀ (xs ys : List PyData), nnAll (xs ++ ys) = nnAll xs + nnAll ys := fun xs ys => by
          induction xs with
          | nil => simp [nnAll]
          | cons x xs ih => rw [List.cons_append, nnAll, nnAll, ih]; omega
        have nnR : ∀ xs : List PyData, nnAll xs.reverse = nnAll xs := fun xs => by
          induction xs with
          | nil => rfl
          | cons x xs ih => rw [List.reverse_cons, nnP, nnAll, ih, nnAll, nnAll]; omega
        have cuts : ∀ lo hi, (∀ z ∈ cutPD ds lo hi, z ∈ ds) ∧ nnAll (cutPD ds lo hi) ≤ nnAll ds ∧ (cutPD ds lo hi).length ≤ ds.length := fun lo hi => by
          have nnD : ∀ (m : Nat) (xs : List PyData), nnAll (xs.drop m) ≤ nnAll xs := fun m xs => by
            induction xs generalizing m with
            | nil => simp
            | cons x xs ih =>
              cases m with
              | zero => simp
              | succ m => rw [List.drop_succ_cons, nnAll]; have := ih m; omega
          unfold cutPD
          exact ⟨fun z hz => List.mem_of_mem_drop (List.mem_of_mem_take hz), Nat.le_trans (nnT _ _) (nnD _ _), by rw [List.length_take, List.length_drop]; omega⟩
        let dsl : List PyData := ds.map fun z => .list (itemsD z)
        have gl : G X2 (tLc (iList K (tVar 1)) (gName 10) tYes (tCB (fun xs H Q => ∃ p ys, xs = [V.ref p] ∧ (SqL K H p ys ∨ SqT K H p ys) ∧ ∀ l, H l = none → Q (V.ref l) (upd H l (.lst ys))) (tCons (tVar 10) tNil)) [10]) _ H8 (.list dsl) := g_lc1 (Γ2 := fun z => [.val (.ref st), .dat (.list ds), .dat (wsD ns), .dat (.int (k : Int)), .un, .un, .un, .dat (.str o1), .dat (.str o2), .val (.ref L), .dat z]) (fun z => .list (itemsD z)) t2 (gi_list (K := K) gV2) (by omega) (fun H1 s z hz => tgt_name (B2.E.same s)) (fun X' H1 σ2 z hz t E => by
          obtain ⟨b, e, rfl, he⟩ := each z hz
          exact g_listOf (K := K) t (g_var (i := 10) (d := .tuple [.bool b, e]) E rfl) rfl)
        refine s_ext (i := 9) (ds := [.list (cutPD ds none (some (-1))), .list (ds ++ cutPD ds none (some 1)), .tuple ds, .list dsl, .list ds.reverse]) B2 h0 n1 n2 rfl (by simp [es1, es0]) (g_lst t2 (ga_cons (g_sl (K := K) t2 gV2 go_none (go_some (X := X2) g_neg1)) (ga_cons (g_cat t2 gV2 (g_sl (K := K) t2 gV2 go_none (go_some (X := X2) g_int)) (by have := (cuts none (some 1)).2.2; omega)) (ga_cons (g_is (g_cb t2 (ga_cons gV2 ga_nil) (rf_tuple (K := K) rfl)) rfl) (ga_cons gl (ga_cons (g_revP t2 gV2) ga_nil))))) (by simp)) fun H9 B6 => ?_
        refine hJ _ _ ⟨_, B6, fun e he => ?_, by simp [es1, es0], by simp [es1, es0]⟩
        rcases List.mem_append.mp he with he | he
        · exact good1 e he
        · simp only [List.mem_cons, List.not_mem_nil, or_false] at he
          rcases he with rfl | rfl | rfl | rfl | rfl
          · exact (sub _ (cuts _ _).1 (by have := (cuts none (some (-1))).2.1; omega)).1
          · exact (sub _ (fun z hz => (List.mem_append.mp hz).elim id ((cuts _ _).1 z)) (by rw [nnP]; have := (cuts none (some 1)).2.1; omega)).1
          · exact (sub ds (fun z hz => hz) (by omega)).2
          · have e1 : ∀ z ∈ dsl, ∃ b e, z = .list [.bool b, e] ∧ PD j' e ∧ (.tuple [.bool b, e]) ∈ ds := fun z hz => by
              obtain ⟨y, hy, rfl⟩ := List.mem_map.mp hz
              obtain ⟨b, e, rfl, he⟩ := each y hy
              exact ⟨b, e, rfl, he, hy⟩
            have a1 : noDicts dsl = true := nds_all fun z hz => by
              obtain ⟨b, e, rfl, he, _⟩ := e1 z hz
              simp [noDict, noDicts, he.flat.1]
            have a2 : PyData.canLayAll0 dsl = true := cls_all fun z hz => by
              obtain ⟨b, e, rfl, he, _⟩ := e1 z hz
              simp [PyData.canLay0, PyData.canLayAll0, he.flat.2.1]
            have a3 : PyData.depthAll dsl ≤ PyData.depthAll ds := dps_all fun z hz => by
              obtain ⟨b, e, rfl, he, hm⟩ := e1 z hz
              have := depth_mem hm
              simp only [PyData.depth, PyData.depthAll] at this ⊢
              omega
            have a4 : gdAll dsl = true := gd_all fun z hz => by
              obtain ⟨b, e, rfl, he, _⟩ := e1 z hz
              rw [gdD, gdAll, gdAll, gdAll, gdD, he.gd]
              rfl
            have a5 : (PyData.list ds).depth = PyData.depthAll ds + 1 := by rw [PyData.depth]
            have a6 : nnAll dsl = nnAll ds := by
              show nnAll (ds.map fun z => .list (itemsD z)) = nnAll ds
              have key : ∀ xs : List PyData, (∀ z ∈ xs, ∃ b e, z = .tuple [.bool b, e] ∧ PD j' e) → nnAll (xs.map fun z => .list (itemsD z)) = nnAll xs := fun xs => by
                induction xs with
                | nil => intro _; rfl
                | cons x xs ih =>
                  intro h
                  obtain ⟨b, e, rfl, _⟩ := h x List.mem_cons_self
                  rw [List.map_cons, nnAll, nnAll, ih fun z hz => h z (List.mem_cons_of_mem _ hz)]
                  rfl
              exact key ds each
            exact bt_of ⟨a1, by rw [PyData.canLay0]; exact a2, by rw [PyData.depth]; omega⟩ (by rw [gdD]; exact a4) (by rw [a5, PyData.depth]; omega) (by rw [nn, nn, a6]; omega)
          · exact (sub _ (fun z hz => List.mem_reverse.mp hz) (by rw [nnR]; omega)).1
theorem ok_bent {f : Addr} {fd : FuncData} (F : Fun K "_law_bent" "_law_bent" s__law_bent f fd) (T : Bl mg) (m1 : mg "_law_bent" = some (.ref f)) (m2 : PySem.W.keepIn K (.ref f) = true) (m3 : Binds K fd ["_law_stream", "_law_paper", "_law_names", "_law_many"] []) (O__law_draw : Own P w K mg base CX0 1 "_law_draw" ["_law_stream", "_law_many"] spDraw) (O__law_pick : Own P w K mg base CX0 2 "_law_pick" ["_law_stream", "_law_some"] spPick) :
    ∀ k : Nat, FnOk P w K mg base CX0 (k + 3) f fd ["_law_stream", "_law_paper", "_law_names", "_law_many"] (spBent k)
  | 0 => ok_bent_body F T O__law_draw O__law_pick ⟨f, fd, m1, m2, m3, (F.ok (k := 0) sc__law_bent (fun _ _ _ _ h => h.elim) (fun _ _ _ _ _ _ _ _ _ h => h.elim) : FnOk P w K mg base CX0 1 f fd ["_law_stream", "_law_paper", "_law_names", "_law_many"] (spBentP 0)).mono (by omega)⟩
  | k + 1 => ok_bent_body F T O__law_draw O__law_pick ⟨f, fd, m1, m2, m3, ok_bent F T m1 m2 m3 O__law_draw O__law_pick k⟩
end K80

/-! Defs with a default, called. -/
namespace K80
open PySem PySem.Spec PyProof.Rows L2 KD KS
variable {P : Program} {w : World} {K : PySem.W.Frag} {mg : Str → Option Value} {base : Heap}
structure OwnD (P : Program) (w : World) (K : PySem.W.Frag) (mg : Str → Option Value) (base : Heap) (k : Nat) (x : Str) (ps : List Str) (n : Nat) (ks : List Str) (dv : V) (sp : Sp) : Prop where
  ex : ∃ (f : Addr) (fd : FuncData) (ds : List Value), mg x = some (.ref f) ∧ PySem.W.keepIn K (.ref f) = true ∧ Binds K fd ps [] ∧ Vals [dv] ds ∧ Binds K fd ps ds ∧ KBn K fd ps n ks (fun us ws => us ++ ws) (fun vs zs => vs ++ zs) ∧ FnOk P w K mg base CX0 k f fd ps sp
section
variable {X : Cx} {k j n : Nat} {x : Str} {ps ks : List Str} {sp : Sp} {dv : V} {e : Expr} {es : List Expr} {p pos : Pos} {ta tk : TA} {kws : List Keyword}
theorem pe_ownA (O : OwnD X.prog X.w X.K X.mg X.base k x ps n ks dv sp) (hr : Room j X.A) (hk : k ≤ j) (hg : Gl X x) (ha : PA X (e :: es) ta) (hdb : (x == ("__debug__" : Str)) = false := by decide)
    (he : starEach (e :: es) X.env = (false, eval e X.env) :: starEach es X.env := by rfl) (hpl : (backTo pos (starEach es X.env)).any (·.1) = false := by rfl) : PE X (.Call (.Name x p) (e :: es) [] pos) (tCall sp [] E0 ta) := by
  obtain ⟨f, fd, ds, h1, h2, h3, h4, h5, h6, h7⟩ := O.ex
  exact pe_call h7 (hr.mono hk) hg h1 h2 h3 .nil pass0 ha hdb he hpl
theorem pe_ownF (O : OwnD X.prog X.w X.K X.mg X.base k x ps n ks dv sp) (hr : Room j X.A) (hk : k ≤ j) (hg : Gl X x) (ha : PA X (e :: es) ta) (hdb : (x == ("__debug__" : Str)) = false := by decide)
    (he : starEach (e :: es) X.env = (false, eval e X.env) :: starEach es X.env := by rfl) (hpl : (backTo pos (starEach es X.env)).any (·.1) = false := by rfl) : PE X (.Call (.Name x p) (e :: es) [] pos) (tCall sp [dv] E0 ta) := by
  obtain ⟨f, fd, ds, h1, h2, h3, h4, h5, h6, h7⟩ := O.ex
  exact pe_call h7 (hr.mono hk) hg h1 h2 h5 h4 pass0 ha hdb he hpl
theorem pe_ownK (O : OwnD X.prog X.w X.K X.mg X.base k x ps n ks dv sp) (hr : Room j X.A) (hk : k ≤ j) (hg : Gl X x) (ha : PA X (e :: es) ta) (hkw : PK X kws tk)
    (hall : (backToKw pos (keywordEach kws X.env)).all (·.1.isSome) = true := by rfl) (hks : (backToKw pos (keywordEach kws X.env)).filterMap (·.1) = ks := by rfl)
    (hdb : (x == ("__debug__" : Str)) = false := by decide) (he : starEach (e :: es) X.env = (false, eval e X.env) :: starEach es X.env := by rfl)
    (hpl : ((backTo pos (starEach (e :: es) X.env)).any (·.1) || (backToKw pos (keywordEach kws X.env)).any (·.1.isNone)) = false := by rfl) :
    PE X (.Call (.Name x p) (e :: es) kws pos) (tCallN n ks.length sp (fun vs zs => vs ++ zs) E0 ta tk) := by
  obtain ⟨f, fd, ds, h1, h2, h3, h4, h5, h6, h7⟩ := O.ex
  exact pe_callN h7 (hr.mono hk) hg h1 h2 h6 pass0 ha hkw hall hks hdb he hpl
end
theorem own_fewest {f : Addr} {fd : FuncData} (F : FunD K "fewest_askings" "fewest_askings" (defArgs s_fewest_askings) (defBody s_fewest_askings) (defScope s_fewest_askings) [.int 0] [] f fd) (h1 : mg "fewest_askings" = some (.ref f))
    (ok : FnOk P w K mg base CX0 35 f fd ["suspects", "askings", "lies"] spFew) : OwnD P w K mg base 35 "fewest_askings" ["suspects", "askings", "lies"] 2 ["lies"] (.int 0) spFew := by
  obtain ⟨ds, r1, b1⟩ := F.binds1 (ps := ["suspects", "askings", "lies"]) 2 0 (by simp) rfl fun T kV doc pm an cdv ct us its hu hi => match us, its, hu, hi with
    | [_, _], [_], _, _ => ⟨_, rfl, rfl⟩
  obtain ⟨ds0, r0, b0⟩ := F.binds1 (ps := ["suspects", "askings", "lies"]) 3 1 (by simp) rfl fun T kV doc pm an cdv ct us its hu hi => match us, its, hu, hi with
    | [_, _, _], [_], _, _ => ⟨_, rfl, rfl⟩
  cases r0
  refine ⟨f, fd, ds, h1, F.kp, b0, r1, b1, ⟨fun s us ws X l1 l2 => ?_, fun r s => r.append s⟩, ok⟩
  obtain ⟨oc, od, dV, kV, doc, pm, an, cdv, ct, osl, rfl, lk, hcd, hD, hK⟩ := F.ex
  rcases hD with ⟨e, _⟩ | ⟨_, T, o, its, m, rfl, lT, oT, rT⟩
  · cases e
  refine BindsTo.of_looks fun M => ?_
  match us, ws, l1, l2 with
  | [_, _], [_], _, _ =>
    cases rT with
    | cons _ r =>
      cases r
      exact looks_items X lT oT (.of_pure rfl)
theorem own_answers {f : Addr} {fd : FuncData} (F : FunD K "answers_against" "answers_against" (defArgs s_answers_against) (defBody s_answers_against) (defScope s_answers_against) [.int 0] [] f fd) (h1 : mg "answers_against" = some (.ref f))
    (ok : FnOk P w K mg base CX0 40 f fd ["suspects", "askings", "many", "lies"] spAgn) : OwnD P w K mg base 40 "answers_against" ["suspects", "askings", "many", "lies"] 3 ["lies"] (.int 0) spAgn := by
  obtain ⟨ds, r1, b1⟩ := F.binds1 (ps := ["suspects", "askings", "many", "lies"]) 3 0 (by simp) rfl fun T kV doc pm an cdv ct us its hu hi => match us, its, hu, hi with
    | [_, _, _], [_], _, _ => ⟨_, rfl, rfl⟩
  obtain ⟨ds0, r0, b0⟩ := F.binds1 (ps := ["suspects", "askings", "many", "lies"]) 4 1 (by simp) rfl fun T kV doc pm an cdv ct us its hu hi => match us, its, hu, hi with
    | [_, _, _, _], [_], _, _ => ⟨_, rfl, rfl⟩
  cases r0
  refine ⟨f, fd, ds, h1, F.kp, b0, r1, b1, ⟨fun s us ws X l1 l2 => ?_, fun r s => r.append s⟩, ok⟩
  obtain ⟨oc, od, dV, kV, doc, pm, an, cdv, ct, osl, rfl, lk, hcd, hD, hK⟩ := F.ex
  rcases hD with ⟨e, _⟩ | ⟨_, T, o, its, m, rfl, lT, oT, rT⟩
  · cases e
  refine BindsTo.of_looks fun M => ?_
  match us, ws, l1, l2 with
  | [_, _, _], [_], _, _ =>
    cases rT with
    | cons _ r =>
      cases r
      exact looks_items X lT oT (.of_pure rfl)
theorem own_are {f : Addr} {fd : FuncData} {sp : Sp} (F : FunD K "are_against" "are_against" (defArgs s_are_against) (defBody s_are_against) (defScope s_are_against) [.int 0] [] f fd) (h1 : mg "are_against" = some (.ref f))
    (ok : FnOk P w K mg base CX0 5 f fd ["suspects", "askings", "many", "thing", "lies"] sp) : OwnD P w K mg base 5 "are_against" ["suspects", "askings", "many", "thing", "lies"] 4 ["lies"] (.int 0) sp := by
  obtain ⟨ds, r1, b1⟩ := F.binds1 (ps := ["suspects", "askings", "many", "thing", "lies"]) 4 0 (by simp) rfl fun T kV doc pm an cdv ct us its hu hi => match us, its, hu, hi with
    | [_, _, _, _], [_], _, _ => ⟨_, rfl, rfl⟩
  obtain ⟨ds0, r0, b0⟩ := F.binds1 (ps := ["suspects", "askings", "many", "thing", "lies"]) 5 1 (by simp) rfl fun T kV doc pm an cdv ct us its hu hi => match us, its, hu, hi with
    | [_, _, _, _, _], [_], _, _ => ⟨_, rfl, rfl⟩
  cases r0
  refine ⟨f, fd, ds, h1, F.kp, b0, r1, b1, ⟨fun s us ws X l1 l2 => ?_, fun r s => r.append s⟩, ok⟩
  obtain ⟨oc, od, dV, kV, doc, pm, an, cdv, ct, osl, rfl, lk, hcd, hD, hK⟩ := F.ex
  rcases hD with ⟨e, _⟩ | ⟨_, T, o, its, m, rfl, lT, oT, rT⟩
  · cases e
  refine BindsTo.of_looks fun M => ?_
  match us, ws, l1, l2 with
  | [_, _, _, _], [_], _, _ =>
    cases rT with
    | cons _ r =>
      cases r
      exact looks_items X lT oT (.of_pure rfl)
/-- so many at most -/
def up (N : Nat) (sp : Nat → Sp) : Sp := fun us H Q E => ∃ m, m ≤ N ∧ sp m us H Q E
theorem ok_upto {f : Addr} {fd : FuncData} {ps : List Str} {sp : Nat → Sp} {j : Nat → Nat} {N J : Nat} (h : ∀ m, m ≤ N → FnOk P w K mg base CX0 (j m) f fd ps (sp m)) (hj : ∀ m, m ≤ N → j m ≤ J) (N0 : 0 ≤ N) : FnOk P w K mg base CX0 J f fd ps (up N sp) :=
  ⟨fun vs H Q E ⟨m, hm, q⟩ => (h m hm).len vs H Q E q, fun A outer s H args us vs Q E hr he hb hv ⟨m, hm, q⟩ => ((h m hm).mono (hj m hm)).run A outer s H args us vs Q E hr he hb hv q⟩
end K80

/-! The law. -/
namespace K80
open PySem PySem.Spec PyProof.Rows L2 KD KS KDN
-- HINT law mul (KT1.op_repA (K := K) rfl)
-- HINT law repr call_reprD
-- HINT law dnew KDN.pe_dnewN
-- HINT law ix (ix_seqK (K := K) rfl)
-- HINT law lcte#1 (tTup (tCons (tC (.bl true)) (tCons (tTup (tCons (tOp (rIx K) (tVar 3) (tC (.int 0))) (tCons (tOp (rIx K) (tVar 3) (tUn (rU fun i => V.int (-i)) (tC (.int 1)))) tNil))) tNil)))
section
variable {P : Program} {w : World} {K : PySem.W.Frag} {mg : Str → Option Value} {base : Heap}
def spEnA (P : Program) (w : World) : Sp := fun us H Q E => ∃ m, m ≤ 20 ∧ spEn P w m us H Q E
theorem ok_enA {f : Addr} {fd : FuncData} (h : ∀ m : Nat, FnOk P w K mg base CX0 (m + 2) f fd ["_law_names", "_law_askings", "_law_lies", "_law_state", "_law_many", "_law_known"] (spEn P w m)) : FnOk P w K mg base CX0 22 f fd ["_law_names", "_law_askings", "_law_lies", "_law_state", "_law_many", "_law_known"] (spEnA P w) :=
  ⟨fun vs H Q E ⟨m, _, q⟩ => (h m).len vs H Q E q, fun A outer s H args us vs Q E hr he hb hv ⟨m, hm, q⟩ => ((h m).mono (by omega)).run A outer s H args us vs Q E hr he hb hv q⟩
/-! ### a paper is there just where so many are not enough -/
theorem fnd_en {M : List (List Bool)} {l : Nat} {k : Nat} {cs : List Nat} (h : fnd l cs = true) : enB M l k cs = true := by
  cases k with
  | zero => exact h
  | succ k => unfold enB; rw [h]; rfl
theorem fw_an {l : Nat} {b : Bool} : ∀ {cs : List Nat} {ms : List Bool}, ms.length = cs.length → fw l (an b cs ms) ≤ fw l cs
  | [], [], _ => Nat.le_refl _
  | c :: cs, m :: ms, hl => by
    have ih := fw_an (l := l) (b := b) (cs := cs) (ms := ms) (by simpa using hl)
    unfold fw an at ih ⊢
    rw [List.zipWith_cons_cons, List.filter_cons, List.filter_cons]
    by_cases h1 : m = b
    · rw [if_pos h1]
      split
      · rw [List.length_cons, List.length_cons]; omega
      · exact ih
    · rw [if_neg h1]
      by_cases h2 : c ≤ l
      · rw [if_pos (c := decide (c ≤ l) = true) (decide_eq_true h2), List.length_cons]
        split
        · rw [List.length_cons]; omega
        · omega
      · rw [if_neg (c := decide (c ≤ l) = true) (by simpa using h2), if_neg (by simp; omega)]
        exact ih
  | [], _ :: _, h => by cases h
  | _ :: _, [], h => by cases h
theorem inL_str {ls : List Str} {d : PyData} (h : inL ls d = true) : ∃ s ∈ ls, d = .str s := by
  unfold inL at h
  rw [List.any_eq_true] at h
  obtain ⟨z, hz, e⟩ := h
  obtain ⟨s, hs, rfl⟩ := List.mem_map.mp hz
  refine ⟨s, hs, ?_⟩
  cases d with
  | str x =>
    have : s = x := by simpa [PyData.eqv] using e
    rw [this]
  | _ => simp [PyData.eqv] at e
theorem inL_mem {ls : List Str} {s : Str} (h : s ∈ ls) : inL ls (.str s) = true := by
  unfold inL
  rw [List.any_eq_true]
  exact ⟨.str s, List.mem_map.mpr ⟨s, h, rfl⟩, by simp [PyData.eqv]⟩
theorem two_len {ls : List Str} {x y : Str} (hx : x ∈ ls) (hy : y ∈ ls) (h : x ≠ y) : 2 ≤ ls.length := by
  match ls, hx, hy with
  | [a], hx, hy => rw [List.mem_singleton] at hx hy; exact absurd (hx.trans hy.symm) h
  | _ :: _ :: _, _, _ => simp
theorem ag_not {M : List (List Bool)} {ns : List Str} {l : Int} (lie : lieI (.int l)) (hM : ∀ ms ∈ M, ms.length = ns.length) (hp : 0 < M.length) : ∀ (k : Nat) (cs : List Nat) (d : PyData), cs.length = ns.length → agB M ns l k cs d = true → enB M l.toNat k cs = false
  | 0, cs, d, hn, h => by
    have h : twoB (leftL ns cs l) d = true := h
    unfold twoB at h
    simp only [Bool.and_eq_true, Bool.not_eq_true'] at h
    obtain ⟨_, h1, h2, h3⟩ := h
    obtain ⟨x, hx, ex⟩ := inL_str h1
    obtain ⟨y, hy, ey⟩ := inL_str h2
    rw [ex, ey] at h3
    have ne : x ≠ y := fun z => by rw [z] at h3; simp [PyData.eqv] at h3
    have l2 := two_len hx hy ne
    rw [left_len lie ns cs hn] at l2
    show fnd l.toNat cs = false
    exact decide_eq_false (by omega)
  | k + 1, cs, d, hn, h => by
    have h : (okB M.length d && (List.range M.length).all fun i => agB M ns l k (an (blOf (it (it d i) 0)) cs (M.getD i [])) (it (it d i) 1)) = true := h
    rw [Bool.and_eq_true, List.all_eq_true] at h
    have each : ∀ i (hi : i < M.length), enB M l.toNat k (an (blOf (it (it d i) 0)) cs M[i]) = false := fun i hi => by
      have lm : M[i].length = cs.length := by rw [hM _ (List.getElem_mem hi), hn]
      have e2 : M.getD i [] = M[i] := by rw [List.getD_eq_getElem?_getD, List.getElem?_eq_getElem hi]; rfl
      have := h.2 i (List.mem_range.mpr hi)
      rw [e2] at this
      exact ag_not lie hM hp k _ _ (by rw [an_len lm, hn]) this
    have nf : fnd l.toNat cs = false := by
      cases e : fnd l.toNat cs with
      | false => rfl
      | true =>
        have lm : M[0].length = cs.length := by rw [hM _ (List.getElem_mem hp), hn]
        have h1 : fw l.toNat cs ≤ 1 := of_decide_eq_true e
        have h2 : fnd l.toNat (an (blOf (it (it d 0) 0)) cs M[0]) = true := decide_eq_true (Nat.le_trans (fw_an lm) h1)
        have := each 0 hp
        rw [fnd_en h2] at this
        cases this
    unfold enB
    rw [nf, Bool.false_or, List.any_eq_false]
    intro ms hms
    obtain ⟨i, hi, rfl⟩ := List.getElem_of_mem hms
    have := each i hi
    cases hb : blOf (it (it d i) 0) with
    | true => rw [hb] at this; rw [this]; simp
    | false => rw [hb] at this; rw [this]; simp
theorem left_nd {ns : List Str} {cs : List Nat} {l : Int} (nd : ns.Nodup) : (leftL ns cs l).Nodup := by
  have sub : ∀ (ns : List Str) (cs : List Nat), (leftL ns cs l).Sublist ns := fun ns => by
    induction ns with
    | nil => intro cs; exact List.nil_sublist _
    | cons n ns ih =>
      intro cs
      cases cs with
      | nil => exact List.nil_sublist _
      | cons c cs =>
        have := ih cs
        unfold leftL at this ⊢
        rw [List.zip_cons_cons, List.filter_cons]
        split
        · exact List.Sublist.cons_cons _ this
        · exact List.Sublist.cons _ this
  exact nd.sublist (sub ns cs)
theorem pa_ag {M : List (List Bool)} {ns : List Str} {l : Int} (lie : lieI (.int l)) (nd : ns.Nodup) (hM : ∀ ms ∈ M, ms.length = ns.length) : ∀ (k : Nat) (cs : List Nat), cs.length = ns.length → enB M l.toNat k cs = false → agB M ns l k cs (paD M ns l k cs) = true
  | 0, cs, hn, h => by
    have h1 : ¬ fw l.toNat cs ≤ 1 := of_decide_eq_false h
    rw [← left_len lie ns cs hn] at h1
    have n2 := left_nd (cs := cs) (l := l) nd
    show twoB (leftL ns cs l) (.tuple (((leftL ns cs l).take 2).map PyData.str)) = true
    match e : leftL ns cs l with
    | [] => rw [e] at h1; simp at h1
    | [x] => rw [e] at h1; simp at h1
    | x :: y :: r =>
      rw [e] at n2
      have ne : x ≠ y := fun z => by rw [z] at n2; simp at n2
      have a1 := inL_mem (ls := x :: y :: r) (s := x) (by simp)
      have a2 := inL_mem (ls := x :: y :: r) (s := y) (by simp)
      show ((true && true) && (inL (x :: y :: r) (.str x) && (inL (x :: y :: r) (.str y) && !PyData.eqv (.str x) (.str y)))) = true
      rw [a1, a2]
      simp [PyData.eqv, ne]
  | k + 1, cs, hn, h => by
    unfold enB at h
    rw [Bool.or_eq_false_iff, List.any_eq_false] at h
    show (okB M.length (.list (M.map (paP M ns l k cs))) && (List.range M.length).all fun i => agB M ns l k (an (blOf (it (it (.list (M.map (paP M ns l k cs))) i) 0)) cs (M.getD i [])) (it (it (.list (M.map (paP M ns l k cs))) i) 1)) = true
    rw [Bool.and_eq_true, List.all_eq_true]
    constructor
    · unfold okB
      rw [Bool.and_eq_true, Bool.and_eq_true, decide_eq_true_iff, List.all_eq_true]
      refine ⟨rfl, by show (M.map _).length = _; rw [List.length_map], fun z hz => ?_⟩
      obtain ⟨ms, _, rfl⟩ := List.mem_map.mp hz
      rfl
    · intro i hi
      have hi := List.mem_range.mp hi
      have e1 : it (.list (M.map (paP M ns l k cs))) i = paP M ns l k cs M[i] := by
        unfold it itemsD
        rw [List.getD_eq_getElem?_getD, List.getElem?_map, List.getElem?_eq_getElem hi]
        rfl
      have e2 : M.getD i [] = M[i] := by rw [List.getD_eq_getElem?_getD, List.getElem?_eq_getElem hi]; rfl
      have lm : M[i].length = cs.length := by rw [hM _ (List.getElem_mem hi), hn]
      rw [e1, e2]
      show agB M ns l k (an (!enB M l.toNat k (an true cs M[i])) cs M[i]) (paD M ns l k (an (!enB M l.toNat k (an true cs M[i])) cs M[i])) = true
      refine pa_ag lie nd hM k _ (by rw [an_len lm, hn]) ?_
      have hh := h.2 _ (List.getElem_mem hi)
      cases e : enB M l.toNat k (an true cs M[i]) with
      | false => exact e
      | true =>
        rw [e, Bool.true_and] at hh
        simpa using hh
theorem pa_pd {M : List (List Bool)} {ns : List Str} {l : Int} (hns : ∀ z ∈ ns, z ∈ sNames) (h4 : M.length ≤ 4) : ∀ (k : Nat) (cs : List Nat), PD k (paD M ns l k cs)
  | 0, cs => ⟨(leftL ns cs l).take 2, rfl, by rw [List.length_take]; omega, fun z hz => left_ok hns z (List.mem_of_mem_take hz)⟩
  | k + 1, cs => ⟨_, rfl, by rw [List.length_map]; exact h4, fun z hz => by
    obtain ⟨ms, _, rfl⟩ := List.mem_map.mp hz
    exact ⟨_, _, rfl, pa_pd hns h4 k _⟩⟩
theorem pa_tp {M : List (List Bool)} {ns : List Str} {l : Int} (h4 : M.length ≤ 4) : ∀ (k : Nat) (cs : List Nat), TP k (paD M ns l k cs)
  | 0, cs => rfl
  | k + 1, cs => ⟨_, rfl, by rw [List.length_map]; omega, fun z hz => by
    obtain ⟨ms, _, rfl⟩ := List.mem_map.mp hz
    exact ⟨_, _, rfl, pa_tp h4 k _⟩⟩
section
variable {X : Addr → Prop} {H : Hp} {σ : L2.St} {Γ : List Sv} {ta tb tc td te tf : TE} {E : XK} {d : PyData}
theorem En_weak {Δ : List Sv} (E : EnvOk X H σ Γ) (hl : Γ.length = Δ.length) (h : ∀ (i : Nat) (s : Sv), Δ[i]? = some s → s = .un ∨ Γ[i]? = some s) : EnvOk X H σ Δ := ⟨E.len.trans hl, fun i s e => by
  rcases h i s e with rfl | h
  · trivial
  · exact E.get i s h⟩
theorem g_same {n : Nat} (t : Trk X H) (ha : G X ta σ H d) (hb : G X tb σ H d) (hs : sm n d) : G X (tCall (spSame n) [] E (tCons ta (tCons tb tNil))) σ H (.bool true) :=
  g_call (ga_cons ha (ga_cons hb ga_nil)) fun vs H2 s2 rs Q2 q2 => by
    cases rs with
    | cons u1 rs =>
      cases rs with
      | cons u2 rs =>
        cases rs
        exact ⟨X, _, _, d, rfl, t.mono s2, u1, u2, hs, fun H' s' => q2 _ H' s' (.bl true)⟩
theorem gt_neS {a b : Str} (h1 : G X ta σ H (.str a)) (h2 : G X tb σ H (.str b)) : KD.GT (tTest (tOp rNe ta tb)) σ H (!decide (a = b)) := fun H1 s Q q =>
  h1 H1 s _ fun u H2 s2 r1 => h2 H2 (s.trans s2) _ fun v H3 s3 r2 => by
    rw [r1.str_inv, r2.str_inv]
    refine ⟨rfl, _, rfl, ?_⟩
    have e : decide (V.str a = V.str b) = decide (a = b) := decide_eq_decide.mpr ⟨fun z => by cases z; rfl, fun z => by rw [z]⟩
    rw [e]
    exact q H3 (s2.trans s3)
theorem g_tupOf (t : Trk X H) (h : G X te σ H d) (hs : isSeq d = true) : G X (tCB (fun xs H Q => ∃ p ys, xs = [V.ref p] ∧ ((SqL K H p ys ∧ ∀ l, H l = none → Q (.ref l) (upd H l (.tup ys))) ∨ (SqT K H p ys ∧ Q (.ref p) H))) (tCons te tNil)) σ H (.tuple (itemsD d)) := g_cb t (ga_cons h ga_nil) (rf_tuple hs)
theorem g_few {s a : PyData} {l : Int} {ns : List Str} {as : List (List Str)} (t : Trk X H) (h1 : G X ta σ H s) (h2 : G X tb σ H a) (h3 : G X tc σ H (.int l)) (S : Sus s ns) (A : Ask a as) (lie : lieI (.int l)) : G X (tCall spFew [] E (tCons ta (tCons tb (tCons tc tNil)))) σ H (hD (hh (msk ns as) l.toNat (zs ns.length))) :=
  g_call (ga_cons h1 (ga_cons h2 (ga_cons h3 ga_nil))) fun vs H2 s2 rs Q2 q2 => by
    cases rs with
    | cons u1 rs =>
      cases rs with
      | cons u2 rs =>
        cases rs with
        | cons u3 rs =>
          cases rs
          exact ⟨X, _, _, _, s, a, l, ns, as, rfl, t.mono s2, u1, u2, u3, S, A, lie, fun H' s' => q2 _ H' s' (hV_D _)⟩
theorem g_agn {s a : PyData} {m : Nat} {l : Int} {ns : List Str} {as : List (List Str)} (t : Trk X H) (h1 : G X ta σ H s) (h2 : G X tb σ H a) (h3 : G X tc σ H (.int (m : Int))) (h4 : G X td σ H (.int l)) (S : Sus s ns) (A : Ask a as) (lie : lieI (.int l)) (hm : m ≤ 3) : G X (tCall spAgn [] E (tCons ta (tCons tb (tCons tc (tCons td tNil))))) σ H (agD ns as l m) :=
  g_call (ga_cons h1 (ga_cons h2 (ga_cons h3 (ga_cons h4 ga_nil)))) fun vs H2 s2 rs Q2 q2 => by
    cases rs with
    | cons u1 rs =>
      cases rs with
      | cons u2 rs =>
        cases rs with
        | cons u3 rs =>
          cases rs with
          | cons u4 rs =>
            cases rs
            exact ⟨X, _, _, _, _, s, a, m, l, ns, as, rfl, t.mono s2, u1, u2, u3, u4, S, A, lie, hm, fun w H' s' d' => q2 w H' s' d'⟩
theorem g_agnK {s a : PyData} {m : Nat} {l : Int} {ns : List Str} {as : List (List Str)} (t : Trk X H) (h1 : G X ta σ H s) (h2 : G X tb σ H a) (h3 : G X tc σ H (.int (m : Int))) (h4 : G X td σ H (.int l)) (S : Sus s ns) (A : Ask a as) (lie : lieI (.int l)) (hm : m ≤ 3) : G X (tCallN 3 1 spAgn (fun vs zs => vs ++ zs) E (tCons ta (tCons tb (tCons tc tNil))) (tCons td tNil)) σ H (agD ns as l m) := fun H1 s1 Q q =>
  h1 H1 s1 _ fun v1 H2 s2 r1 => h2 H2 (s1.trans s2) _ fun v2 H3 s3 r2 => h3 H3 ((s1.trans s2).trans s3) _ fun v3 H4 s4 r3 => h4 H4 (((s1.trans s2).trans s3).trans s4) _ fun v4 H5 s5 r4 =>
    ⟨rfl, rfl, X, v1, v2, v3, v4, s, a, m, l, ns, as, rfl, ((((t.mono s1).mono s2).mono s3).mono s4).mono s5, r1.mono (Kp.of ((s3.trans s4).trans s5)), r2.mono (Kp.of (s4.trans s5)), r3.mono (Kp.of s5), r4, S, A, lie, hm, fun w H' s' d' => q w H' (((s2.trans s3).trans s4).trans s5 |>.trans s') d'⟩
theorem g_are {s a : PyData} {m : Nat} {l : Int} {ns : List Str} {as : List (List Str)} (t : Trk X H) (h1 : G X ta σ H s) (h2 : G X tb σ H a) (h3 : G X tc σ H (.int (m : Int))) (h4 : G X td σ H d) (h5 : G X te σ H (.int l)) (S : Sus s ns) (A : Ask a as) (lie : lieI (.int l)) (hm : m ≤ 3) (h1000 : (as.length + 1) ^ m ≤ 1000) (hg : K80.GT m d) : G X (tCall (up 3 spAg) [] E (tCons ta (tCons tb (tCons tc (tCons td (tCons te tNil)))))) σ H (.bool (agB (msk ns as) ns l m (zs ns.length) d)) :=
  g_call (ga_cons h1 (ga_cons h2 (ga_cons h3 (ga_cons h4 (ga_cons h5 ga_nil))))) fun vs H2 s2 rs Q2 q2 => by
    cases rs with
    | cons u1 rs =>
      cases rs with
      | cons u2 rs =>
        cases rs with
        | cons u3 rs =>
          cases rs with
          | cons u4 rs =>
            cases rs with
            | cons u5 rs =>
              cases rs
              exact ⟨m, hm, X, _, _, _, _, _, s, a, d, l, ns, as, rfl, t.mono s2, u1, u2, u3, u4, u5, S, A, lie, h1000, hg, fun H' s' => q2 _ H' s' (.bl _)⟩
theorem g_magA {ns : List Str} {as : List (List Str)} {cs : List Nat} {l : Int} {k : Nat} (hk : k ≤ 3) (t : Trk X H) (h1 : G X ta σ H (wsD ns)) (h2 : G X tb σ H (asD as)) (h3 : G X tc σ H (.int l)) (h4 : G X td σ H (cD cs)) (h5 : G X te σ H (.int (k : Int))) (h6 : G X tf σ H d) (hns : ∀ z ∈ ns, z ∈ sNames) (hl : ns.length ≤ 1000) (hla : as.length ≤ 1000) (hcs : cs.length = ns.length) (hg : K80.GT k d) :
    G X (tCall (up 3 spMAg) [] E (tCons ta (tCons tb (tCons tc (tCons td (tCons te (tCons tf tNil))))))) σ H (.bool (agB (msk ns as) ns l k cs d)) :=
  g_call (ga_cons h1 (ga_cons h2 (ga_cons h3 (ga_cons h4 (ga_cons h5 (ga_cons h6 ga_nil)))))) fun vs H2 s2 rs Q2 q2 => by
    cases rs with
    | cons u1 rs =>
      cases rs with
      | cons u2 rs =>
        cases rs with
        | cons u3 rs =>
          cases rs with
          | cons u4 rs =>
            cases rs with
            | cons u5 rs =>
              cases rs with
              | cons u6 rs =>
                cases rs
                exact ⟨k, hk, X, _, _, _, _, _, _, ns, as, l, cs, d, rfl, t.mono s2, u1, u2, u3, u4, u5, u6, hns, hl, hla, hcs, hg, fun H' s' => q2 _ H' s' (.bl _)⟩
theorem g_istoA {k : Nat} (hk : k ≤ 3) (t : Trk X H) (h1 : G X ta σ H d) (h2 : G X tb σ H (.int (k : Int))) (h : TP k d) : G X (tCall (up 3 spIsTo) [] E (tCons ta (tCons tb tNil))) σ H (.bool true) :=
  g_call (ga_cons h1 (ga_cons h2 ga_nil)) fun vs H2 s2 rs Q2 q2 => by
    cases rs with
    | cons u1 rs =>
      cases rs with
      | cons u2 rs =>
        cases rs
        exact ⟨k, hk, X, _, _, d, rfl, t.mono s2, u1, u2, h, fun H' s' => q2 _ H' s' (.bl _)⟩
theorem c_bentA {st cl : Addr} {n k j : Nat} {ts tn tk : TE} {t : PyData} {ns : List Str} {Q : VK} (k3 : k ≤ 3) (S : Sg X st cl n H) (hv : GV ts σ H (.ref st)) (ha : G X ta σ H t) (hn : G X tn σ H (wsD ns)) (hk : G X tk σ H (.int (k : Int))) (h1 : n + 10 + 5 * k ≤ 1000000000) (ht : PD j t) (hj : j ≤ 3) (h2 : 0 < ns.length) (h3 : ns.length ≤ 1000) (h4 : ∀ z ∈ ns, z ∈ sNames)
    (q : ∀ w e H', Bt k t e → Sg X st cl (n + 6 + 5 * k) H' → KpS st cl H H' → DX X H' w e → Q w H') : tCall (up 3 spBent) [] E (tCons ts (tCons ta (tCons tn (tCons tk tNil)))) σ H Q :=
  hv H (Same.refl H) _ (ha H (Same.refl H) _ fun v1 H1 s1 r1 => hn H1 s1 _ fun v2 H2 s2 r2 => hk H2 (s1.trans s2) _ fun v3 H3 s3 r3 => ⟨k, k3, X, st, cl, n, j, v1, v2, t, ns, by rw [r3.int_inv]; rfl, S.same ((s1.trans s2).trans s3), h1, r1.mono (Kp.of (s2.trans s3)), r2.mono (Kp.of s3), ht, hj, h2, h3, h4, fun w e H' hg S' k' d' => q w e H' hg S' ((KpS.of ((s1.trans s2).trans s3)).trans k') d'⟩)
theorem g_en {ns : List Str} {as : List (List Str)} {l : Int} {cs : List Nat} {m : Nat} (t : Trk X H) (h1 : G X ta σ H (wsD ns)) (h2 : G X tb σ H (asD as)) (h3 : G X tc σ H (.int l)) (h4 : G X td σ H (cD cs)) (h5 : G X te σ H (.int (m : Int))) (hn : cs.length = ns.length) (n8 : ns.length ≤ 8) (a100 : as.length ≤ 100) (lie : lieI (.int l)) (m20 : m ≤ 20) :
    G X (tCall (spEnA P w) [] E (tCons ta (tCons tb (tCons tc (tCons td (tCons te (tCons (tNNew P w) tNil))))))) σ H (.bool (enB (msk ns as) l.toNat m cs)) := fun H0 s0 Q q =>
  h1 H0 s0 _ fun v1 H1 s1 r1 => h2 H1 (s0.trans s1) _ fun v2 H2 s2 r2 => h3 H2 ((s0.trans s1).trans s2) _ fun v3 H3 s3 r3 => h4 H3 (((s0.trans s1).trans s2).trans s3) _ fun v4 H4 s4 r4 => h5 H4 ((((s0.trans s1).trans s2).trans s3).trans s4) _ fun v5 H5 s5 r5 L hL => by
    have t5 : Trk X H5 := (((((t.mono s0).mono s1).mono s2).mono s3).mono s4).mono s5
    have m2 : More X (fun a => X a ∨ a = L) H5 := More.one hL
    have sN : Same H5 (upd H5 L (DN P w L [])) := Same.upd hL
    rw [r5.int_inv]
    refine ⟨m, m20, fun a => X a ∨ a = L, v1, v2, v3, v4, L, ns, as, l, cs, [], rfl, ⟨t5.one hL, .inr rfl, upd_same, ⟨.nil, fun x hx => by cases hx⟩, (fun x hx => by cases hx), fun _ _ _ _ v hv => by cases hv⟩, ((r1.mono (Kp.of (((s2.trans s3).trans s4).trans s5))).more m2).mono (Kp.of sN), ((r2.mono (Kp.of ((s3.trans s4).trans s5))).more m2).mono (Kp.of sN), ((r3.mono (Kp.of (s4.trans s5))).more m2).mono (Kp.of sN), ((r4.mono (Kp.of s5)).more m2).mono (Kp.of sN), hn, n8, a100, lie, m20, fun H' kvs' k _ _ _ _ _ => q _ H' (fun a o e => ?_) (.bl _)⟩
    have e5 := ((((s1.trans s2).trans s3).trans s4).trans s5) a o e
    exact k a o (ne_of_none e5 hL) (sN a o e5)
theorem g_enough {M : List (List Bool)} {l : Nat} {m n : Nat} {cs : List Nat} (t : Trk X H) (h1 : G X ta σ H (hD (hh M l cs))) (h2 : G X tb σ H (.int (m : Int))) (hM : ∀ ms ∈ M, ms.length = n) (hn : cs.length = n) : G X (tAndV (tOp (fun x y H Q => y = V.non ∧ Q (.bl (!decide (x = V.non))) H) ta (tC .non)) (tOp (rI0 fun i j => V.bl (decide (i ≤ j))) ta tb)) σ H (.bool (enB M l m cs)) := by
  have en := en_iff (l := l) hM m hn
  refine g_is (g_and (a := !isNone (hD (hh M l cs))) (b := enB M l m cs) (g_op t h1 g_non rb_notN.rd) fun hb => ?_) (congrArg PyData.bool ?_)
  · obtain ⟨h, e⟩ : ∃ h, hh M l cs = some h := by
      cases e : hh M l cs with
      | none => rw [e] at hb; cases hb
      | some h => exact ⟨h, rfl⟩
    refine g_is (g_cmpI t (i := (h : Int)) (j := (m : Int)) (g := fun i j => decide (i ≤ j)) (g_is h1 (by rw [e]; rfl)) h2) (congrArg PyData.bool ?_)
    rw [Bool.eq_iff_iff, decide_eq_true_iff, en]
    exact ⟨fun z => ⟨h, e, by omega⟩, fun ⟨h', e', z⟩ => by
      rw [e] at e'
      cases e'
      omega⟩
  · cases e : hh M l cs with
    | none =>
      cases eb : enB M l m cs with
      | false => rfl
      | true =>
        obtain ⟨h, e', _⟩ := en.mp eb
        rw [e] at e'
        cases e'
    | some h => rfl
end
theorem k_par3 {i j l : Nat} {ta tb tc : TE} {tz : TS} {D : Ends} {σ : L2.St} {H : Hp} (h : ta σ H fun x H1 => tb σ H1 fun y H2 => tc σ H2 fun z H3 => ∃ u v w, [x, y, z] = [u, v, w] ∧ tz D (((σ.set i (some u)).set j (some v)).set l (some w)) H3) : tSeq (tPar3 i j l (tCons ta (tCons tb (tCons tc tNil)))) tz D σ H := h
theorem k_callS0 {sp : Sp} {E : XK} {Q : VK} {tl : TA} {σ : L2.St} {H : Hp} (h : tl σ H fun vs H1 => sp (vs ++ []) H1 Q E) : tCall sp [] E tl σ H Q := h
/-- what can be looked at and shown -/
structure Tg (m : Nat) (e : PyData) : Prop where
  gt : K80.GT m e
  th : Th e
theorem tg_pd {m j : Nat} {e : PyData} (h : PD j e) (hj : j ≤ 3) : Tg m e := ⟨GT.of (h.pl hj), ⟨h.gd, by have := h.depth; omega, by have := h.size; have := szP_le hj; omega⟩⟩
theorem tg_bt {m j : Nat} {t e : PyData} (h : PD j t) (hj : j ≤ 3) (b : Bt m t e) : Tg m e := ⟨b.gt, ⟨b.gd, by have := h.depth; have := b.dp; omega, by have := h.size; have := szP_le hj; have := b.sz; omega⟩⟩
theorem eqv_bool (a b : Bool) : PyData.eqv (.bool a) (.bool b) = decide (a = b) := by cases a <;> cases b <;> simp [PyData.eqv]
theorem shaped_bool (b : Bool) : SeqAt.shaped (.bool b) = true := by cases b <;> rfl
theorem cutP_4 (as : List (List Str)) : PyData.list (cutPD (as.map wsD) none (some 4)) = asD (as.take 4) := by
  rw [cutP_to _ (by decide), ← List.map_take]
  rfl
abbrev s_law : Stmt := topS 48
abbrev n_law : List Str := ["_law_script", "_law_stream", "_law_turn", "_law_names", "_law_askings", "_law_lies", "_law_state", "_law_few", "_law_many", "_law_told", "_law_is_enough", "_law_base", "_law_thing", "_law_due", "_law_held", "_law_row", "_law_k"]
theorem sc_law : FnScope n_law ["_law_script"] (defScope s_law) := ⟨rfl, rfl, rfl, by decide +kernel, rfl, by decide +kernel, by decide +kernel⟩
structure Lib (P : Program) (w : World) (K : PySem.W.Frag) (mg : Str → Option Value) (base : Heap) : Prop where
  T : Bl mg
  start : Own P w K mg base CX0 1 "_law_start" ["_law_script"] (spStart K)
  draw : Own P w K mg base CX0 1 "_law_draw" ["_law_stream", "_law_many"] spDraw
  pick : Own P w K mg base CX0 2 "_law_pick" ["_law_stream", "_law_some"] spPick
  msus : Own P w K mg base CX0 3 "_law_m_suspects" ["_law_stream", "_law_most"] spMSus
  few : OwnD P w K mg base 35 "fewest_askings" ["suspects", "askings", "lies"] 2 ["lies"] (.int 0) spFew
  agn : OwnD P w K mg base 40 "answers_against" ["suspects", "askings", "many", "lies"] 3 ["lies"] (.int 0) spAgn
  en : Own P w K mg base CX0 22 "_law_m_is_enough" ["_law_names", "_law_askings", "_law_lies", "_law_state", "_law_many", "_law_known"] (spEnA P w)
  mag : Own P w K mg base CX0 5 "_law_m_is_against" ["_law_names", "_law_askings", "_law_lies", "_law_state", "_law_many", "_law_thing"] (up 3 spMAg)
  told : Own P w K mg base CX0 5 "_law_is_told" ["_law_paper", "_law_many"] (up 3 spIsTo)
  bent : Own P w K mg base CX0 6 "_law_bent" ["_law_stream", "_law_paper", "_law_names", "_law_many"] (up 3 spBent)
  same : Own P w K mg base CX0 2 "_law_same" ["_law_found", "_law_due"] (spSame 0)
  are : OwnD P w K mg base 5 "are_against" ["suspects", "askings", "many", "thing", "lies"] 4 ["lies"] (.int 0) (up 3 spAg)
def Gm0 (st : Addr) : List Sv := .un :: .val (.ref st) :: List.replicate 15 .un
def Gm1 (st : Addr) (ns : List Str) (as : List (List Str)) (l : Int) (hv : Option Nat) : List Sv := [.un, .val (.ref st), .un, .dat (wsD ns), .dat (asD as), .dat (.int l), .dat (cD (zs ns.length)), .dat (hD hv), .un, .un, .un, .un, .un, .un, .un, .un, .un]
def Gm2 (st : Addr) (ns : List Str) (as : List (List Str)) (l : Int) (hv : Option Nat) (m : Nat) (b : Bool) (bs : PyData) (x12 x13 x14 : Sv) : List Sv := [.un, .val (.ref st), .un, .dat (wsD ns), .dat (asD as), .dat (.int l), .dat (cD (zs ns.length)), .dat (hD hv), .dat (.int (m : Int)), .un, .dat (.bool b), .dat bs, x12, x13, x14, .un, .un]
theorem law_reads {f a : Addr} {cdv : Value} {s : Shared} {H : Hp} {E : XK} {ns : List Int} (L : Lib P w K mg base) (hr : Room 60 (callerA.deeper (envOfC "law" (defScope s_law) s.heap.objs.size f cdv))) (hS : SqL K H a (ns.map V.int)) (hl : ns.length ≤ 63) :
    ∃ t, PSs (cxOf CX0 P w K mg base n_law "law" (defScope s_law) f cdv callerA [] s H E).nox (defBody s_law) t ∧ t { nx := fun _ _ => V.non = V.bl true, rt := fun v _ => v = V.bl true } (L2.start n_law [.ref a]) H := by
  obtain ⟨T, O__law_start, O__law_draw, O__law_pick, O__law_m_suspects, O_fewest_askings, O_answers_against, O__law_m_is_enough, O__law_m_is_against, O__law_is_told, O__law_bent, O__law_same, O_are_against⟩ := L
  refine ⟨_, (pss_cons (ps_set (i := 1) sc_law.nd rfl (by first | exact Or.inl rfl | exact Or.inr rfl) (pe_own O__law_start hr (by decide) (by rfl) (pa_cons (pv 0) pa_nil)))
    (pss_cons (ps_for PassesOwn.never rfl (pi_range1 (by rfl) T.b_range (pa_cons pe_int pa_nil)) (pg_name (i := 2) sc_law.nd rfl (by first | exact Or.inl rfl | exact Or.inr rfl))
    (pss_cons (ps_asg (pe_own O__law_m_suspects hr (by decide) (by rfl) (pa_cons (pv 1) (pa_cons pe_int pa_nil))) (pg_tup (n := 2) rfl (pgs_cons (pg_name (i := 3) sc_law.nd rfl (by first | exact Or.inl rfl | exact Or.inr rfl)) (pgs_cons (pg_name (i := 4) sc_law.nd rfl (by first | exact Or.inl rfl | exact Or.inr rfl)) pgs_nil))))
    (pss_cons (ps_par3 (i := 5) (j := 4) (l := 6) (by rfl) sc_law.nd rfl rfl rfl (by decide) (by decide) (by decide) rfl rfl rfl (pa_cons (pe_own O__law_draw hr (by decide) (by rfl) (pa_cons (pv 1) (pa_cons pe_int pa_nil))) (pa_cons (pe_slice sl_list (pv 4) po_none (po_some pe_int)) (pa_cons (pe_op (KT1.op_repA (K := K) rfl) (pe_tup (pa_cons pe_int pa_nil)) (pe_callB call_len (by rfl) T.b_len boot_len (pa_cons (pv 3) pa_nil))) pa_nil))) (by rfl))
    (pss_cons (ps_set (i := 7) sc_law.nd rfl (by first | exact Or.inl rfl | exact Or.inr rfl) (pe_ownA O_fewest_askings hr (by decide) (by rfl) (pa_cons (pv 3) (pa_cons (pv 4) (pa_cons (pv 5) pa_nil)))))
    (pss_one (ps_for PassesOwn.never rfl (pi_range1 (by rfl) T.b_range (pa_cons pe_int pa_nil)) (pg_name (i := 8) sc_law.nd rfl (by first | exact Or.inl rfl | exact Or.inr rfl))
    (pss_cons (ps_set (i := 9) sc_law.nd rfl (by first | exact Or.inl rfl | exact Or.inr rfl) (pe_ownA O_answers_against hr (by decide) (by rfl) (pa_cons (pv 3) (pa_cons (pe_own O__law_pick hr (by decide) (by rfl) (pa_cons (pv 1) (pa_cons (pe_lst (pa_cons (pv 4) (pa_cons (pe_callTy call_tuple_of (by rfl) T.b_tuple boot_tuple (pa_cons (pv 4) pa_nil)) pa_nil))) pa_nil))) (pa_cons (pv 8) (pa_cons (pv 5) pa_nil))))))
    (pss_cons (ps_set (i := 10) sc_law.nd rfl (by first | exact Or.inl rfl | exact Or.inr rfl) (pe_and (pe_cmpR op_notN (pv 7) pe_non (nomark _)) (pe_one (pe_cmpR op_le (pv 7) (pv 8) (nomark _)))))
    (pss_cons (ps_if (PW.pt (pw_or (pt_cmpR (op_neD hr.units) (pe_cmpR op_isN (pv 9) pe_non (nomark _)) (pv 10) (nomark _)) (pw_or1 (pt_cmpR (op_neD hr.units) (pv 10) (pe_own O__law_m_is_enough hr (by decide) (by rfl) (pa_cons (pv 3) (pa_cons (pv 4) (pa_cons (pv 5) (pa_cons (pv 6) (pa_cons (pv 8) (pa_cons KDN.pe_dnewN pa_nil))))))) (nomark _)))))
    (pss_one (ps_ret pe_bl)) pss_nil)
    (pss_cons (ps_if (PW.pt (pw_and (pt_cmpR op_notN (pv 9) pe_non (nomark _)) (pw_and1 (pt_not (pt_val (pe_own O__law_m_is_against hr (by decide) (by rfl) (pa_cons (pv 3) (pa_cons (pv 4) (pa_cons (pv 5) (pa_cons (pv 6) (pa_cons (pv 8) (pa_cons (pv 9) pa_nil))))))))))))
    (pss_one (ps_ret pe_bl)) pss_nil)
    (pss_cons (ps_if (PW.pt (pw_and (pt_cmpR op_notN (pv 9) pe_non (nomark _)) (pw_and1 (pt_not (pt_val (pe_own O__law_is_told hr (by decide) (by rfl) (pa_cons (pv 9) (pa_cons (pv 8) pa_nil))))))))
    (pss_one (ps_ret pe_bl)) pss_nil)
    (pss_cons (ps_if (pt_cmpR (op_neD hr.units) (pe_ownK O_answers_against hr (by decide) (by rfl) (pa_cons (pv 3) (pa_cons (pv 4) (pa_cons (pv 8) pa_nil))) (pk_cons (pv 5) pk_nil)) (pv 9) (nomark _))
    (pss_one (ps_ret pe_bl)) pss_nil)
    (pss_cons (ps_set (i := 11) sc_law.nd rfl (by first | exact Or.inl rfl | exact Or.inr rfl) (pe_ifExp (pt_cmpR op_notN (pv 9) pe_non (nomark _)) (pv 9) (pe_lc (own := [("_law_row", 15)]) (g := (gName 15)) (tt := tYes) (te := (tTup (tCons (tC (.bl true)) (tCons (tTup (tCons (tOp (rIx K) (tVar 3) (tC (.int 0))) (tCons (tOp (rIx K) (tVar 3) (tUn (rU fun i => V.int (-i)) (tC (.int 1)))) tNil))) tNil)))) rfl sc_law.nd (pi_list (pv 4)) (blkOk_by (N := n_law) (sc := defScope s_law) (by decide +kernel)) (fun _ _ _ _ _ => (pg_name (i := 15) sc_law.nd rfl (by first | exact Or.inl rfl | exact Or.inr rfl))) (fun _ _ _ _ _ => pts_nil) (fun _ _ _ _ _ => (pe_tup (pa_cons pe_bl (pa_cons (pe_tup (pa_cons (pe_ix (ix_seqK (K := K) rfl) (pv 3) pe_int (fun _ _ => rfl)) (pa_cons (pe_ix (ix_seqK (K := K) rfl) (pv 3) (pe_un un_neg pe_int) (fun _ _ => rfl)) pa_nil))) pa_nil)))))))
    (pss_one (ps_for PassesOwn.never rfl (pi_list (pe_op op_addA (pe_lst (pa_cons (pv 11) pa_nil)) (pe_lc (own := [("_law_k", 16)]) (g := (gName 16)) (tt := tYes) rfl sc_law.nd (pi_range1 (by rfl) T.b_range (pa_cons pe_int pa_nil)) (blkOk_by (N := n_law) (sc := defScope s_law) (by decide +kernel)) (fun _ _ _ _ _ => (pg_name (i := 16) sc_law.nd rfl (by first | exact Or.inl rfl | exact Or.inr rfl))) (fun _ _ _ _ _ => pts_nil) (fun _ _ _ _ _ => (pe_own O__law_bent hr (by decide) (by rfl) (pa_cons (pv 1) (pa_cons (pv 11) (pa_cons (pv 3) (pa_cons (pv 8) pa_nil))))))))) (pg_name (i := 12) sc_law.nd rfl (by first | exact Or.inl rfl | exact Or.inr rfl))
    (pss_cons (ps_par (i := 13) (j := 14) (by rfl) sc_law.nd rfl rfl (by decide) rfl rfl (pa_cons (pe_own O__law_m_is_against hr (by decide) (by rfl) (pa_cons (pv 3) (pa_cons (pv 4) (pa_cons (pv 5) (pa_cons (pv 6) (pa_cons (pv 8) (pa_cons (pv 12) pa_nil))))))) (pa_cons (pe_callB (call_reprD rfl hr.units) (by rfl) T.b_repr boot_repr (pa_cons (pv 12) pa_nil)) pa_nil)) (by rfl))
    (pss_cons (ps_if (PW.pt (pw_and (pt_val (pv 13)) (pw_and1 (pt_val (pv 10)))))
    (pss_one (ps_ret pe_bl)) pss_nil)
    (pss_one (ps_if (PW.pt (pw_or (pt_not (pt_val (pe_own O__law_same hr (by decide) (by rfl) (pa_cons (pe_ownA O_are_against hr (by decide) (by rfl) (pa_cons (pv 3) (pa_cons (pv 4) (pa_cons (pv 8) (pa_cons (pv 12) (pa_cons (pv 5) pa_nil)))))) (pa_cons (pv 13) pa_nil))))) (pw_or1 (pt_cmpR op_ne (pe_callB (call_reprD rfl hr.units) (by rfl) T.b_repr boot_repr (pa_cons (pv 12) pa_nil)) (pv 14) (nomark _)))))
    (pss_one (ps_ret pe_bl)) pss_nil)))))))))))))))))))
    (pss_one (ps_ret pe_bl)))), ?_⟩
  -- the spring
  refine k_set ?_
  refine ⟨.ref a, rfl, a, ns, rfl, hS, hl, fun st cl H1 s1 h1 h2 so => ?_⟩
  have hst : ∃ ms x y z, SpAt st cl ms x y z H1 := by
    obtain ⟨ms, x, y, z, S, _⟩ := so
    exact ⟨ms, x, y, z, S⟩
  let X : Addr → Prop := fun b => b = st ∨ b = cl
  have Z1 : Sg X st cl 0 H1 := ⟨so, .inl rfl, .inr rfl, fun b hb => by
    obtain ⟨ms, x, y, z, S⟩ := hst
    rcases hb with rfl | rfl
    · exact ⟨_, S.hs⟩
    · exact ⟨_, S.hc⟩⟩
  have E1 : EnvOk X H1 ((L2.start n_law [.ref a]).set 1 (some (.ref st))) (Gm0 st) := ⟨rfl, fun i s e => by
    rcases i with _ | _ | _ | _ | _ | _ | _ | _ | _ | _ | _ | _ | _ | _ | _ | _ | _ | i
    all_goals first | (cases e; first | rfl | trivial) | cases e⟩
  clear hst so h1 h2 s1
  refine ⟨5, rfl, by decide, by decide, ?_⟩
  refine for_it walk_range (fun i σ H' => Sg X st cl (i * 10000) H' ∧ EnvOk X H' σ (Gm0 st)) ⟨Z1, E1⟩ (fun _ _ _ _ _ => trivial) (fun i x σ H2 H3 hi p y => ?_) (fun σ H2 p => rfl)
  obtain ⟨rfl, rfl⟩ := y
  obtain ⟨Z2, E2⟩ := p
  have hi5 : i < 5 := hi
  clear Z1 E1
  refine k_name ?_
  have E3 := E2.setV (i := 2) (v := .int (0 + (i : Int)))
  clear E2
  -- suspects, askings
  refine k_asg (k_callS0 (k_cons ⟨.ref st, E3.get 1 _ rfl, k_cons (k_c (k_nil ⟨X, st, cl, _, 5, rfl, Z2, by omega, by decide, by decide, fun w4 ns as0 H4 SU AS0 l5 Z4 k4 d4 => ?_⟩))⟩))
  have E4 := E3.kps Z2 k4
  refine g_pair d4 fun u4 v4 r4 q4 => ?_
  have E5 := (E4.set (i := 3) r4).set (i := 4) q4
  have few8 := SU.few
  clear E3 E4 Z2 d4 r4 q4 k4
  -- lies, askings, state
  refine k_par3 (c_draw (m := 2) Z4 (gv_var (i := 1) E5 rfl) g_int (by omega) (by decide) (by decide) fun l H6 l0 l1 Z6 k6 => ?_)
  have E6 := E5.kps Z4 k6
  have lie : lieI (.int l) := by
    by_cases h : l = 0
    · subst h; exact .inl rfl
    · have : l = 1 := by omega
      subst this; exact .inr rfl
  let as : List (List Str) := as0.take 4
  have las : as.length ≤ 4 := by show (as0.take 4).length ≤ 4; rw [List.length_take]; omega
  have AS : Ask (asD as) as := Ask.wsL (by show 0 < (as0.take 4).length; rw [List.length_take]; have := AS0.pos; omega) (by omega) (fun a ha => AS0.nd a (List.mem_of_mem_take ha)) fun a ha => AS0.ok a (List.mem_of_mem_take ha)
  refine g_is (g_sl (K := K) (lo := none) (hi := some 4) Z6.t (g_var (i := 4) (d := .list (as0.map wsD)) E6 rfl) go_none (go_some (X := X) g_int)) (cutP_4 as0) H6 (Same.refl _) _ fun v7 H7 s7 r7 => ?_
  have E7' := E6.same s7
  have t7 := Z6.t.mono s7
  refine KT1.g_times (K := K) (d := .int 0) (n := ns.length) t7 (g_tup t7 (ga_cons g_int ga_nil) (by simp)) (g_is (g_len (K := K) t7 (g_var (i := 3) (d := wsD ns) E7' rfl) rfl) (by show PyData.int (((ns.map PyData.str).length : Nat) : Int) = _; rw [List.length_map])) SU.pos (by omega) H7 (Same.refl _) _ fun v8 H8 s8 r8 => ⟨_, _, _, rfl, ?_⟩
  have e8 : PyData.tuple (List.replicate ns.length (.int 0)) = cD (zs ns.length) := by
    show _ = PyData.tuple ((List.replicate ns.length 0).map fun c : Nat => .int (c : Int))
    rw [List.map_replicate]
    rfl
  rw [e8] at r8
  let cs := zs ns.length
  have Z8 := Z6.same (s7.trans s8)
  have E8 := (((E7'.same s8).set (i := 5) (v := .int l) (d := .int l) (.int _)).set (i := 4) (d := asD as) (r7.mono (Kp.of s8))).set (i := 6) (d := cD cs) r8
  let M := msk ns as
  have hM := msk_len ns as
  have lM : M.length = as.length := by show (as.map _).length = _; rw [List.length_map]
  let hv := hh M l.toNat cs
  refine q_set (i := 7) (d := hD hv) E8 (g_few Z8.t (g_var (i := 3) (d := wsD ns) E8 rfl) (g_var (i := 4) (d := asD as) E8 rfl) (g_var (i := 5) (d := .int l) E8 rfl) SU AS lie) fun H9 v9 s9 E9' => ?_
  have Z9 := Z8.same s9
  have E9 : EnvOk X H9 _ (Gm1 st ns as l hv) := En_weak E9' rfl fun i s e => by
    rcases i with _ | _ | _ | _ | _ | _ | _ | _ | _ | _ | _ | _ | _ | _ | _ | _ | _ | i
    all_goals first | (cases e; first | exact .inl rfl | exact .inr rfl) | cases e
  clear E9' E8 E7' E6 E5 Z4 Z6 Z8 k6 r7 r8
  -- many
  refine ⟨4, rfl, by decide, by decide, ?_⟩
  refine for_it walk_range (fun j σ' H' => Sg X st cl (i * 10000 + 200 + j * 1000) H' ∧ EnvOk X H' σ' (Gm1 st ns as l hv)) ⟨Z9.le (by omega), E9⟩ (fun _ _ _ _ _ => trivial) (fun m x σ' HA HB hm p y => ?_) (fun σ' HA p => ⟨p.1.le (by show i * 10000 + 200 + 4 * 1000 ≤ _; omega), En_weak p.2 rfl fun i s e => by
    rcases i with _ | _ | _ | _ | _ | _ | _ | _ | _ | _ | _ | _ | _ | _ | _ | _ | _ | i
    all_goals first | (cases e; first | exact .inl rfl | exact .inr rfl) | cases e⟩)
  obtain ⟨rfl, rfl⟩ := y
  obtain ⟨ZA, EA⟩ := p
  have hm4 : m < 4 := hm
  have hm3 : m ≤ 3 := by omega
  clear Z9 E9
  refine k_name ?_
  have EB := EA.set (i := 8) (v := .int (0 + (m : Int))) (d := .int (m : Int)) (by rw [Int.zero_add]; exact .int _)
  clear EA
  let en : Bool := enB M l.toNat m cs
  -- told
  obtain ⟨u3, g3, y3⟩ := EB.get 3 (.dat (wsD ns)) rfl
  refine k_set (k_callS0 (k_cons ⟨u3, g3, k_cons (c_pick (ds := [asD as, .tuple (as.map wsD)]) ZA (gv_var (i := 1) EB rfl) (g_lst ZA.t (ga_cons (g_var (i := 4) (d := asD as) EB rfl) (ga_cons (g_tupOf (K := K) ZA.t (g_var (i := 4) (d := asD as) EB rfl) rfl) ga_nil)) (by simp)) (by omega) (by simp) (by simp) fun w9 d9 HC hd9 ZC kC rC => ?_)⟩))
  have AK : Ask d9 as := by
    rcases List.mem_cons.mp hd9 with rfl | hd9
    · exact AS
    · rw [List.mem_singleton.mp hd9]
      exact ⟨rfl, fun z hz => AS.rows z hz, AS.its, AS.pos, AS.few, AS.nd, AS.ok⟩
  have EC := EB.kps ZA kC
  obtain ⟨u8, g8, y8⟩ := EC.get 8 (.dat (.int (m : Int))) rfl
  obtain ⟨u5, g5, y5⟩ := EC.get 5 (.dat (.int l)) rfl
  refine k_cons ⟨u8, g8, k_cons ⟨u5, g5, k_nil ⟨X, u3, w9, u8, u5, wsD ns, d9, m, l, ns, as, rfl, ZC.t, y3.mono (ZA.kp kC), rC, y8, y5, SU, AK, lie, hm3, fun wT HD sD dT => ?_⟩⟩⟩
  have ZD := ZC.same sD
  have ED := (EC.same sD).set (i := 9) (d := agD ns as l m) dT
  clear EB EC ZA ZC kC rC y3 y5 y8
  have pd : en = false → agD ns as l m = paD M ns l m cs := fun h => by
    unfold agD
    rw [if_neg (by rw [show enB (msk ns as) l.toNat m (zs ns.length) = false from h]; simp)]
  have pn : en = true → agD ns as l m = .none := fun h => by
    unfold agD
    rw [if_pos (show enB (msk ns as) l.toNat m (zs ns.length) = true from h)]
  have ppd : PD m (paD M ns l m cs) := pa_pd SU.ok (by omega) m cs
  have isn : isNone (agD ns as l m) = en := by
    cases e : en with
    | true => rw [pn e]; rfl
    | false => rw [pd e]; cases m <;> rfl
  have flat : noDict (agD ns as l m) = true ∧ SeqAt.shaped (agD ns as l m) = true ∧ PyData.eqv (agD ns as l m) (agD ns as l m) = true := by
    cases e : en with
    | true => rw [pn e]; exact ⟨rfl, rfl, by simp [PyData.eqv]⟩
    | false => rw [pd e]; exact ⟨ppd.flat.1, (ppd.pl hm3).sh, ppd.flat.2.2⟩
  -- is it enough
  refine q_set (i := 10) (d := .bool en) ED (g_enough (l := l.toNat) (cs := cs) ZD.t (g_var (i := 7) (d := hD hv) ED rfl) (g_var (i := 8) (d := .int (m : Int)) ED rfl) hM (zs_len _)) fun HE vE sE EE => ?_
  have ZE := ZD.same sE
  refine q_if (b := false) (gt_is (gt_or (gt_neD (K := K) ZE.t (x := .bool en) (y := .bool en) (g_is (g_op ZE.t (g_var (i := 9) (d := agD ns as l m) EE rfl) g_non rb_isN.rd) (by rw [isn])) (g_var (i := 10) (d := .bool en) EE rfl) rfl rfl (shaped_bool _) (shaped_bool _)) fun _ => gt_neD (K := K) ZE.t (x := .bool en) (y := .bool en) (g_var (i := 10) (d := .bool en) EE rfl) (g_en ZE.t (g_var (i := 3) (d := wsD ns) EE rfl) (g_var (i := 4) (d := asD as) EE rfl) (g_var (i := 5) (d := .int l) EE rfl) (g_var (i := 6) (d := cD cs) EE rfl) (g_var (i := 8) (d := .int (m : Int)) EE rfl) (zs_len _) few8 (by omega) lie (by omega)) rfl rfl (shaped_bool _) (shaped_bool _)) (by rw [eqv_bool]; simp)) (fun h => by cases h) fun _ HF sF => ?_
  have EF := EE.same sF
  have ZF := ZE.same sF
  have gtT : K80.GT m (agD ns as l m) := by
    cases e : en with
    | true => rw [pn e]; exact GT.not rfl
    | false => rw [pd e]; exact GT.of (ppd.pl hm3)
  -- it is one
  refine q_if (b := false) (gt_is (gt_and (a := !en) (b := en) (gt_is (gt_op ZF.t (g_var (i := 9) (d := agD ns as l m) EF rfl) g_non rb_notN) (by rw [isn])) fun h => gt_is (gt_not (gt_B (g_magA (cs := cs) hm3 ZF.t (g_var (i := 3) (d := wsD ns) EF rfl) (g_var (i := 4) (d := asD as) EF rfl) (g_var (i := 5) (d := .int l) EF rfl) (g_var (i := 6) (d := cD cs) EF rfl) (g_var (i := 8) (d := .int (m : Int)) EF rfl) (g_var (i := 9) (d := agD ns as l m) EF rfl) SU.ok (by omega) (by omega) (zs_len _) gtT))) (by
      have h : en = false := by simpa using h
      rw [h, pd h, pa_ag lie SU.nd hM m cs (zs_len _) h]
      rfl)) (by cases en <;> rfl)) (fun h => by cases h) fun _ HG sG => ?_
  have EG := EF.same sG
  have ZG := ZF.same sG
  refine q_if (b := false) (gt_is (gt_and (a := !en) (b := false) (gt_is (gt_op ZG.t (g_var (i := 9) (d := agD ns as l m) EG rfl) g_non rb_notN) (by rw [isn])) fun h => gt_not (gt_B (g_istoA (k := m) hm3 ZG.t (g_var (i := 9) (d := agD ns as l m) EG rfl) (g_var (i := 8) (d := .int (m : Int)) EG rfl) (by
      have h : en = false := by simpa using h
      rw [pd h]
      exact pa_tp (by omega) m cs)))) (by simp)) (fun h => by cases h) fun _ HI sI => ?_
  have EI := EG.same sI
  have ZI := ZG.same sI
  refine q_if (b := false) (gt_is (gt_neD (K := K) ZI.t (g_agnK ZI.t (g_var (i := 3) (d := wsD ns) EI rfl) (g_var (i := 4) (d := asD as) EI rfl) (g_var (i := 8) (d := .int (m : Int)) EI rfl) (g_var (i := 5) (d := .int l) EI rfl) SU AS lie hm3) (g_var (i := 9) (d := agD ns as l m) EI rfl) flat.1 flat.1 flat.2.1 flat.2.1) (by rw [flat.2.2]; rfl)) (fun h => by cases h) fun _ HJ sJ => ?_
  have EJ := EI.same sJ
  have ZJ := ZI.same sJ
  have tJ := ZJ.t
  -- what is bent
  obtain ⟨n0, nl, hn0, hnl, m0, ml⟩ : ∃ n0 nl, ns[0]? = some n0 ∧ ns[ns.length - 1]? = some nl ∧ n0 ∈ ns ∧ nl ∈ ns := by
    have h0 := SU.pos
    exact ⟨ns[0], ns[ns.length - 1], List.getElem?_eq_getElem h0, List.getElem?_eq_getElem (by omega), List.getElem_mem _, List.getElem_mem _⟩
  let b0 : PyData := .list (as.map fun _ => .tuple [.bool true, .tuple [.str n0, .str nl]])
  let bs : PyData := if en = true then b0 else paD M ns l m cs
  obtain ⟨jb, hjb, pb⟩ : ∃ jb, jb ≤ 3 ∧ PD jb bs := by
    cases e : en with
    | true =>
      refine ⟨1, by decide, ?_⟩
      show PD 1 (if en = true then b0 else _)
      rw [if_pos e]
      refine ⟨_, rfl, by rw [List.length_map]; exact las, fun z hz => ?_⟩
      obtain ⟨_, _, rfl⟩ := List.mem_map.mp hz
      exact ⟨true, _, rfl, [n0, nl], rfl, by simp, fun z hz => by
        simp only [List.mem_cons, List.not_mem_nil, or_false] at hz
        rcases hz with rfl | rfl
        · exact SU.ok _ m0
        · exact SU.ok _ ml⟩
    | false =>
      refine ⟨m, hm3, ?_⟩
      show PD m (if en = true then b0 else _)
      rw [if_neg (by rw [e]; simp)]
      exact ppd
  refine q_set (i := 11) (d := bs) EJ (g_if (b := !en) (gt_is (gt_op tJ (g_var (i := 9) (d := agD ns as l m) EJ rfl) g_non rb_notN) (by rw [isn])) (fun h => ?_) fun h => ?_) fun HK vK sK EK => ?_
  · have h : en = false := by simpa using h
    refine g_is (g_var (i := 9) (d := agD ns as l m) EJ rfl) ?_
    rw [pd h]
    show _ = if en = true then b0 else _
    rw [if_neg (by rw [h]; simp)]
  · have h : en = true := by simpa using h
    have eb : b0 = bs := by
      show _ = if en = true then b0 else _
      rw [if_pos h]
    refine g_is (g_is (g_lc1 (ds := as.map wsD) (Γ2 := fun z => [.un, .val (.ref st), .un, .dat (wsD ns), .dat (asD as), .dat (.int l), .dat (cD cs), .dat (hD hv), .dat (.int (m : Int)), .dat (agD ns as l m), .dat (.bool en), .un, .un, .un, .un, .dat z, .un]) (fun _ => .tuple [.bool true, .tuple [.str n0, .str nl]]) tJ (gi_list (K := K) (g_var (i := 4) (d := asD as) EJ rfl)) (by rw [List.length_map]; omega) (fun H1 s z hz => tgt_name (EJ.same s)) (fun X' H1 σ2 z hz t E => ?_)) (by rw [List.map_map]; rfl)) eb
    have gN : G X' (tVar 3) σ2 H1 (wsD ns) := g_var (i := 3) (d := wsD ns) E rfl
    exact g_tup t (ga_cons g_bl (ga_cons (g_tup t (ga_cons (g_ixL t gN g_int (atI_nat (j := 0) (by rw [List.getElem?_map, hn0]; rfl))) (ga_cons (g_ixL t gN g_neg1 (by rw [atI_m1 (by rw [List.length_map]; exact SU.pos), List.length_map, List.getElem?_map, hnl]; rfl)) ga_nil)) (by simp)) ga_nil)) (by simp)
  have ZK := ZJ.same sK
  have EK : EnvOk X HK _ (Gm2 st ns as l hv m en bs .un .un .un) := En_weak EK rfl fun i s e => by
    rcases i with _ | _ | _ | _ | _ | _ | _ | _ | _ | _ | _ | _ | _ | _ | _ | _ | _ | i
    all_goals first | (cases e; first | exact .inl rfl | exact .inr rfl) | cases e
  clear ED EE EF EG EI EJ ZD ZE ZF ZG ZI ZJ
  have gbs := tg_pd (m := m) pb hjb
  -- things
  refine k_forL (k_op (g_lst ZK.t (ga_cons (g_var (i := 11) (d := bs) EK rfl) ga_nil) (by simp) HK (Same.refl _) _ fun v1 HL sL r1 => ?_))
  have ZL := ZK.same sL
  have EL := EK.same sL
  refine k_lcR (k_cons (k_c (k_nil ⟨5, rfl, by decide, by decide, ?_⟩)))
  refine lc_drawsC (c := 30) (i := 16) (m := (5 : Int).toNat) (Tg m) ZL EL (by decide) (fun X2 Ha σ2 kk Q1 hk E S q1 => ?_) fun w8 ds HM l8 o8 ZM kM d8 _ => ?_
  · have hk : kk < 5 := hk
    refine c_bentA (k := m) (t := bs) (j := jb) (ns := ns) hm3 S (gv_var (i := 1) E rfl) (g_var (i := 11) (d := bs) E rfl) (g_var (i := 3) (d := wsD ns) E rfl) (g_var (i := 8) (d := .int (m : Int)) E rfl) (by omega) pb hjb SU.pos (by omega) SU.ok fun w e H' hg S' k' d' => q1 w e H' (tg_bt pb hjb hg) (S'.le (by omega)) k' d'
  have l8 : ds.length = 5 := l8
  refine cat_at ZM.t (r1.mono (ZL.kp kM)) d8 (by simp; omega) fun w9 HN sN d9 => ?_
  have ZN : Sg X st cl (i * 10000 + 200 + m * 1000 + 400) HN := (ZM.same sN).le (by show i * 10000 + 200 + m * 1000 + 1 + 30 * 5 ≤ _; omega)
  have EN := (EL.kps ZL kM).same sN
  have th : ∀ e ∈ [bs] ++ ds, Tg m e := fun e he => (List.mem_append.mp he).elim (fun h => by rw [List.mem_singleton.mp h]; exact gbs) (o8 e)
  obtain ⟨aF, xF, rfl, nF, eF, rxF⟩ := d9.lst_inv
  have nF1 : aF ≠ st := fun e => nF (.inl e)
  have nF2 : aF ≠ cl := fun e => nF (.inr e)
  have lM4 : (as.length + 1) ^ m ≤ 1000 := by
    have h1 : (as.length + 1) ^ m ≤ 5 ^ m := Nat.pow_le_pow_left (by omega) m
    have h2 : 5 ^ m ≤ 5 ^ 3 := Nat.pow_le_pow_right (by decide) hm3
    omega
  clear EK EL ZK ZL ZM kM r1 d8
  refine forL_it (fun j σ' H' => Sg X st cl (i * 10000 + 200 + m * 1000 + 400) H' ∧ EnvOk X H' σ' (Gm2 st ns as l hv m en bs .un .un .un) ∧ KpS st cl HN H') eF ⟨ZN, EN, KpS.refl⟩ (fun j σ' H' p => p.2.2 _ _ nF1 nF2 eF) (fun j x σ' HG hx p => ?_) (fun σ' HG p => ?_)
  · obtain ⟨SA, EA, kA⟩ := p
    obtain ⟨e, he, dx⟩ := rxF.getV hx
    have hth := th e (List.mem_of_getElem? he)
    obtain ⟨sh1, sh2, sh3⟩ := hth.th.shown
    refine k_name ?_
    have EB := EA.set (i := 12) (dx.mono (ZN.kp kA))
    let b : Bool := agB M ns l m cs e
    -- due, held
    refine k_par (g_magA (cs := cs) hm3 SA.t (g_var (i := 3) (d := wsD ns) EB rfl) (g_var (i := 4) (d := asD as) EB rfl) (g_var (i := 5) (d := .int l) EB rfl) (g_var (i := 6) (d := cD cs) EB rfl) (g_var (i := 8) (d := .int (m : Int)) EB rfl) (g_var (i := 12) (d := e) EB rfl) SU.ok (by omega) (by omega) (zs_len _) hth.gt HG (Same.refl _) _ fun v1 HI s1 r1 => ?_)
    refine g_reprD (g_var (i := 12) (d := e) (EB.same s1) rfl) sh1 sh2 sh3 HI (Same.refl _) _ fun v2 HJ s2 r2 => ⟨_, _, rfl, ?_⟩
    have SC := SA.same (s1.trans s2)
    have EC : EnvOk X HJ _ (Gm2 st ns as l hv m en bs (.dat e) (.dat (.bool b)) (.dat (.str e.shown))) := En_weak (((EB.same (s1.trans s2)).set (i := 13) (r1.mono (Kp.of s2))).set (i := 14) r2) rfl fun i s e => by
      rcases i with _ | _ | _ | _ | _ | _ | _ | _ | _ | _ | _ | _ | _ | _ | _ | _ | _ | i
      all_goals first | (cases e; first | exact .inl rfl | exact .inr rfl) | cases e
    have smb : sm 0 (.bool b) := rfl
    refine q_if (b := false) (gt_is (gt_and (a := b) (b := en) (gt_B (g_var (i := 13) (d := .bool b) EC rfl)) fun _ => gt_B (g_var (i := 10) (d := .bool en) EC rfl)) (by
      cases hb : b with
      | false => rfl
      | true =>
        have := ag_not lie hM (by rw [lM]; exact AS.pos) m cs e (zs_len _) hb
        rw [show en = false from this]
        rfl)) (fun h => by cases h) fun _ HK sK => ?_
    have EK := EC.same sK
    have SK := SC.same sK
    refine s_if (b := false) (gt_is (gt_or (a := false) (gt_is (gt_not (gt_B (g_same (n := 0) SK.t (d := .bool b) (g_are SK.t (g_var (i := 3) (d := wsD ns) EK rfl) (g_var (i := 4) (d := asD as) EK rfl) (g_var (i := 8) (d := .int (m : Int)) EK rfl) (g_var (i := 12) (d := e) EK rfl) (g_var (i := 5) (d := .int l) EK rfl) SU AS lie hm3 lM4 hth.gt) (g_var (i := 13) (d := .bool b) EK rfl) smb))) rfl) fun _ => gt_neS (g_reprD (g_var (i := 12) (d := e) EK rfl) sh1 sh2 sh3) (g_var (i := 14) (d := .str e.shown) EK rfl)) (by simp)) (fun h => by cases h) fun _ HL sL => ?_
    exact ⟨(SK.same sL), En_weak (EK.same sL) rfl (fun i s e => by
      rcases i with _ | _ | _ | _ | _ | _ | _ | _ | _ | _ | _ | _ | _ | _ | _ | _ | _ | i
      all_goals first | (cases e; first | exact .inl rfl | exact .inr rfl) | cases e), kA.trans (KpS.of ((s1.trans s2).trans (sK.trans sL)))⟩
  · obtain ⟨SA, EA, _⟩ := p
    refine ⟨SA.le (by omega), En_weak EA rfl fun i s e => ?_⟩
    rcases i with _ | _ | _ | _ | _ | _ | _ | _ | _ | _ | _ | _ | _ | _ | _ | _ | _ | i
    all_goals first | (cases e; first | exact .inl rfl | exact .inr rfl) | cases e
end
end K80

/-! The end of a law whose def is known for the caller of claims alone (its guards are empty). -/
namespace KD
open PySem PySem.Spec PyProof.Rows L2 LamX
/-- a def's promise, called from A -/
def FnAt (P : Program) (w : World) (K : PySem.W.Frag) (mg : Str → Option Value) (base : Heap) (CX : CXT) (A : Around) (f : Addr) (fd : FuncData) (x : Str) (sp : Sp) : Prop :=
  ∀ (s : Shared) (H : Hp) (u : Value) (v : V) (Q : VK) (E : XK), Env0 P w K mg base A [] s H → BindsTo s fd ⟨[u], []⟩ [(x, u)] → RelV v u → sp [v] H Q E → codeAny (model P w) A (.call (.ref f) ⟨[u], []⟩) (CR CX [] P w H s Q E) s
/-- where the law begins: the script as it is passed, tables without code -/
def beginH (K : PySem.W.Frag) (T : List Addr) (a : Addr) (o : Obj) (ns : List Int) : Hp := fun b => if b ∈ T then some (.tbl #[]) else if b = a ∧ K.lookup a = none then some (.frz o (.lst (ns.map V.int))) else none
section
variable {K : PySem.W.Frag} {T : List Addr} {a b : Addr} {o : Obj} {ns : List Int}
theorem beginH_tab (h : b ∈ T) : beginH K T a o ns b = some (.tbl #[]) := if_pos h
theorem beginH_arg (h : a ∉ T) (k : K.lookup a = none) : beginH K T a o ns a = some (.frz o (.lst (ns.map V.int))) := (if_neg h).trans (if_pos ⟨rfl, k⟩)
theorem beginH_none (h : b ∉ T) (k : b = a → K.lookup a ≠ none) : beginH K T a o ns b = none := (if_neg h).trans (if_neg fun z => k z.1 z.2)
theorem beginH_some {u : HO} (h : beginH K T a o ns b = some u) : (b ∈ T ∧ u = .tbl #[]) ∨ (b ∉ T ∧ b = a ∧ K.lookup a = none ∧ u = .frz o (.lst (ns.map V.int))) := by
  unfold beginH at h
  by_cases h1 : b ∈ T
  · rw [if_pos h1] at h
    exact .inl ⟨h1, (Option.some.inj h).symm⟩
  · rw [if_neg h1] at h
    by_cases h2 : b = a ∧ K.lookup a = none
    · rw [if_pos h2] at h
      exact .inr ⟨h1, h2.1, h2.2, (Option.some.inj h).symm⟩
    · rw [if_neg h2] at h
      cases h
end
theorem law_callG {P : Program} {w : World} {K : PySem.W.Frag} {mg mb : Str → Option Value} {CX : CXT} {fa a : Addr} {cs : List (Addr × Addr)} {fd : FuncData} {x : Str} {sp : Sp} {s : Shared} {vs : List Value} {ns : List Int}
    (kin : K.In s.heap) (glob : s.heap.Ns mainGlobals mg) (blt : s.heap.Ns builtinsNs mb) (boot : ∀ y : Str, y ≠ "__name__" → mb y = bootBuiltins y) (nolim : s.heap.NoLimit) (gens : s.gens = #[])
    (tabs : ∀ p ∈ cs, s.heap.get? p.2 = some { cls := .none, data := .fields #[] }) (tabK : ∀ p ∈ cs, K.lookup p.2 = none) (codes : ∀ p ∈ cs, PySem.W.CodeHd s.heap p.1 p.2)
    (bmod : ∃ bm ob, mg "__builtins__" = some (.ref bm) ∧ bm ≠ builtinsNs ∧ s.heap.get? bm = some ob ∧ ob.cls = .type "module" ∧ ob.dict = some builtinsNs ∧ ob.data = .plain)
    (arg : s.heap.get? a = some { cls := .type "list", data := .seq vs.toArray }) (intsA : IntsAre vs ns) (few : ns.length ≤ sizeLine)
    (F : ∀ base : Heap, K.In base → base.Ns mainGlobals mg → (∀ p ∈ cs, TabB base mg p.1 p.2) → FnAt P w K mg base CX callerA fa fd x sp) (bind : ∀ (s : Shared) (u : Value), BindsTo s fd ⟨[u], []⟩ [(x, u)])
    (begin_ : ∀ H : Hp, (∀ p ∈ cs, H p.2 = some (.tbl #[])) → SqL K H a (ns.map V.int) → sp [.ref a] H (fun v _ => v = .bl true) fun _ _ _ => False) (noerr : ∀ H e s', CX [] H s (fun _ _ _ => False) e s' → False) :
    codeAny (model P w) callerA (.call (.ref fa) ⟨[.ref a], []⟩) (fun r s' => r = .ok (.ret (.bool true)) ∧ OldK s.heap s'.heap ∧ s'.os = s.os ∧ AllBare s'.gens) s := by
  have vals := vals_ints intsA
  have many := intsA.length
  let T : List Addr := cs.map (·.2)
  let ao : Obj := { cls := .type "list", data := .seq vs.toArray }
  let H : Hp := beginH K T a ao ns
  have inT : ∀ {b : Addr}, b ∈ T → ∃ p ∈ cs, p.2 = b := fun hb => List.mem_map.mp hb
  have emp : ∀ {b : Addr}, b ∈ T → s.heap.get? b = some { cls := .none, data := .fields #[] } := fun hb => by
    obtain ⟨p, hp, rfl⟩ := inT hb
    exact tabs p hp
  have toT : ∀ {p : Addr × Addr}, p ∈ cs → p.2 ∈ T := fun hp => List.mem_map.mpr ⟨_, hp, rfl⟩
  have aT : a ∉ T := fun hb => by
    have e := (emp hb).symm.trans arg
    cases e
  have HT : ∀ p ∈ cs, H p.2 = some (.tbl #[]) := fun p hp => beginH_tab (toT hp)
  have script : SqL K H a (ns.map V.int) := by
    cases k : K.lookup a with
    | none => exact .inl (.inr ⟨ao, beginH_arg aT k⟩)
    | some o =>
      have same := (kin a o k).symm.trans arg
      cases same
      exact .inr ⟨_, vs.toArray, _, k, rfl, rfl, rfl, by rw [List.size_toArray, many]; exact few, by simpa using vals⟩
  have ok : HOk P w H s.heap := fun b u e => by
    rcases beginH_some e with ⟨hb, rfl⟩ | ⟨_, rfl, _, rfl⟩
    · exact emp hb
    · exact ⟨arg, by rw [List.length_map]; exact few, vs, _, vals, arg⟩
  -- what is neither a list nor an empty table is not of H
  have other : ∀ {b : Addr} {o : Obj}, s.heap.get? b = some o → (∀ q n, o.data ≠ .seq q n) → o.data ≠ .fields #[] → H b = none := fun {b o} e h1 h2 => by
    cases q : H b with
    | none => rfl
    | some u =>
      rcases beginH_some q with ⟨hb, _⟩ | ⟨_, rfl, _, _⟩
      · rw [emp hb] at e
        cases e
        exact absurd rfl h2
      · rw [arg] at e
        cases e
        exact absurd rfl (h1 _ _)
  have hid : ∀ {b : Addr} {o : Obj}, s.heap.get? b = some o → (∀ q n, o.data ≠ .seq q n) → o.data ≠ .fields #[] → (hidT s.heap H).get? b = some o := fun e h1 h2 => hidT_get e (other e h1 h2)
  have names : ∀ {b : Addr} {m : Str → Option Value}, s.heap.Ns b m → (hidT s.heap H).Ns b m := fun {b m} z => by
    obtain ⟨o, es, ep, e, hd, r⟩ := z
    refine ⟨o, es, ep, hid e (fun _ _ q => ?_) (fun q => ?_), hd, r⟩ <;> (rw [hd] at q; cases q)
  have kin2 : K.In (hidT s.heap H) := fun b o e => hidT_get (kin b o e) (by
    cases q : H b with
    | none => rfl
    | some u =>
      rcases beginH_some q with ⟨hb, _⟩ | ⟨_, rfl, k, _⟩
      · obtain ⟨p, hp, rfl⟩ := inT hb
        rw [tabK p hp] at e
        cases e
      · rw [k] at e
        cases e)
  have glob2 := names glob
  have notGlob : ∀ {b : Addr} {o : Obj}, s.heap.get? b = some o → (∀ es ep, o.data ≠ .dict es ep) → b ≠ mainGlobals := fun {b o} e h q => by
    obtain ⟨o2, es, ep, e2, hd, _⟩ := glob
    rw [q, e2] at e
    cases e
    exact h _ _ hd
  have tabB : ∀ p ∈ cs, TabB (hidT s.heap H) mg p.1 p.2 := fun p hp => by
    refine ⟨?_, ?_, fun q => notGlob (tabs p hp) (fun _ _ z => by cases z) q.symm⟩
    · obtain ⟨o, us, file, tf, flags, tg, inF, text, tt, e1, r1, r2, r3, r4, r5, r6, r7, r8, r9⟩ := codes p hp
      refine ⟨o, us, file, tf, flags, tg, inF, text, tt, hid e1 (fun _ _ q => ?_) (fun q => ?_), r1, r2, r3, r4, r5, r6, r7, r8, r9⟩
      · rw [r2] at q
        cases q
      · rw [r2] at q
        cases q
        simp at r3
    · obtain ⟨bm, ob, b1, b2, b3, b4, b5, b6⟩ := bmod
      have n1 : bm ≠ mainGlobals := notGlob b3 fun _ _ q => by rw [b6] at q; cases q
      have n2 : bm ≠ p.2 := fun q => by
        rw [q, tabs p hp] at b3
        cases b3
        cases b6
      refine ⟨bm, ob, b1, b2, n1, n2, hid b3 (fun _ _ q => ?_) (fun q => ?_), b4, b5, b6⟩ <;> (rw [b6] at q; cases q)
  have md : L2.Mod K mg (hidT s.heap H) := by
    obtain ⟨mc, h1, h2⟩ := nolim
    exact ⟨kin2, glob2, ⟨mb, names blt, boot⟩, ⟨mc, names h1, h2⟩⟩
  have env : Env0 P w K mg (hidT s.heap H) callerA [] s H := ⟨rfl, md, fun _ _ e => of_hidT e, Nat.le_of_eq (hidT_size _ _), trivial, fun _ hb => (nomatch hb), ok, .of_eq gens⟩
  have run := F _ kin2 glob2 tabB s H (.ref a) (.ref a) _ _ env (bind s (.ref a)) rfl (begin_ H HT script)
  refine codeAny_mono run fun r s' hr => ?_
  match r, hr with
  | .error e, hr => exact (noerr H e s' hr).elim
  | .ok .next, hr => exact hr.elim
  | .ok .brk, hr => exact hr.elim
  | .ok .cont, hr => exact hr.elim
  | .ok (.ret u), hr =>
    obtain ⟨v, H2, os, bare, un, ok2, rel, hv⟩ := hr
    have hv : v = V.bl true := hv
    subst hv
    obtain rfl : u = Value.bool true := rel
    have still : ∀ {b : Addr} {o : Obj}, b ∉ T → s.heap.get? b = some o → s'.heap.get? b = some o := fun {b o} nb e => by
      cases q : H b with
      | none => exact un.keep b o e q (by intro z; exact (nomatch (show b ∈ ([] : List Addr) from z))) (by simp)
      | some u =>
        rcases beginH_some q with ⟨hb, _⟩ | ⟨_, rfl, k, rfl⟩
        · exact absurd hb nb
        · have q2 := un.frzs b _ _ q
          have e2 : s'.heap.get? b = some ao := (ok2 b _ q2).1
          rw [arg] at e
          cases e
          exact e2
    have more : ∀ {b : Addr}, b ∈ T → ∃ m : Array Value, s'.heap.get? b = some { cls := .none, data := .fields m } := fun {b} hb => by
      obtain ⟨m, z⟩ := un.tbls b #[] (beginH_tab hb)
      exact ⟨_, ok2 b _ z⟩
    refine ⟨rfl, ⟨fun b o e => ?_, fun b o e => ?_⟩, os, bare⟩
    · by_cases hb : b ∈ T
      · obtain ⟨m, hm⟩ := more hb
        obtain ⟨p, hp, rfl⟩ := inT hb
        rw [tabs p hp] at e
        cases e
        exact .inr (.inl ⟨((codes p hp).tab (tabs p hp)).isCodeTable, rfl, #[], m, rfl, by rw [Array.empty_append]; exact hm⟩)
      · exact .inl (still hb e)
    · by_cases hb : b ∈ T
      · obtain ⟨m, hm⟩ := more hb
        exact ⟨_, hm⟩
      · exact ⟨o, still hb e⟩
/-- what is known of the law at the head's heap -/
def LawG (l : PySem.W.OpenLaw) (w : World) (K : PySem.W.Frag) (CX : CXT) (n : Nat) (x : Str) (mg : Str → Option Value) (fa : Addr) (h : Heap) : Prop :=
  ∃ (fd : FuncData) (cs : List (Addr × Addr)) (sp : Sp), (∀ p ∈ cs, h.get? p.2 = some { cls := .none, data := .fields #[] }) ∧ (∀ p ∈ cs, K.lookup p.2 = none) ∧ (∀ p ∈ cs, PySem.W.CodeHd h p.1 p.2) ∧ (∀ s u, BindsTo s fd ⟨[u], []⟩ [(x, u)]) ∧
    (∀ (H : Hp) (a : Addr) (ns : List Int), ns.length ≤ n → (∀ z ∈ ns, Builtin.Int.intBits z ≤ 1048576) → (∀ p ∈ cs, H p.2 = some (.tbl #[])) → SqL K H a (ns.map V.int) → sp [.ref a] H (fun v _ => v = .bl true) fun _ _ _ => False) ∧
    ∀ base : Heap, K.In base → base.Ns mainGlobals mg → (∀ p ∈ cs, TabB base mg p.1 p.2) → FnAt l.prog w K mg base CX callerA fa fd x sp
theorem walk_ofG {l : PySem.W.OpenLaw} {n : Nat} {q : Program} {loose : List Str} {XP : (Str → Option Value) → Heap → Prop} {YP : World → Heap → Prop} {d : DefRec} {K : Params → PySem.W.Frag} {CX : World → CXT} {x : Str}
    (hn : l.most = some n) (few : n ≤ sizeLine) (nodef : d.params.defaults = []) (kin : ∀ w h, YP w h → (K w.params).In h)
    (F : ∀ w mg fa h, YP w h → (K w.params).In h → h.Ns mainGlobals mg → mg d.name = some (.ref fa) → LawG l w (K w.params) (CX w) n x mg fa h) (noerr : ∀ w H s e s', CX w [] H s (fun _ _ _ => False) e s' → False) :
    PySem.W.WalkO q loose XP YP l.row.toRowW d [] (fun f vs => PySem.call f vs) :=
  Att.attach_callB hn nodef fun w s0 s1 mg mb fa o pm cd doc a vs ns G Y _ _ _ hmg hobj hints hlen hbits hg => by
    obtain ⟨fd, cs, sp, h1, h2, h3, h4, h5, h6⟩ := F w mg fa _ Y (kin w _ Y) G.T.g hmg
    exact law_callG (kin w _ Y) G.T.g G.T.b G.T.builtins G.T.nolimit hg h1 h2 h3 G.T.bmain hobj hints (Nat.le_trans hlen few) h6 h4 (fun H a1 a2 => h5 H a ns hlen hbits a1 a2) fun H e s' => noerr w H s1 e s'
end KD

/-! What the top has written; the law's own head. -/
namespace K80
open PySem PySem.Spec PyProof.Rows L2 KD KL LamX
def inC : Stmt → Stmt
  | .ClassDef _ _ _ b _ _ _ _ _ _ _ => b.getD 0 (.Pass ⟨0, 0, 0, 0⟩)
  | s => s
/-- a def of the text -/
def DefA (K : PySem.W.Frag) (x : Str) (st : Stmt) : Prop := ∃ (f : Addr) (fd : FuncData), PySem.W.nsIn K mainGlobals x = some (some (.ref f)) ∧ PySem.W.keepIn K (.ref f) = true ∧ Fun K x x st f fd
theorem da {K : PySem.W.Frag} {x : Str} {st : Stmt} {f : Addr} {oc kV dc pm cd ct : Value} {od an : Option Addr} {sl : Array (Option Value)} (a : PySem.W.nsIn K mainGlobals x = some (some (.ref f)))
    (l : K.lookup f = some ⟨oc, od, .func (PySem.W.fnOf x x (defArgs st) (defBody st) (defScope st) .none kV dc pm an cd ct), sl⟩) (c : PySem.W.codeIn K cd x = true) (k : PySem.W.keepIn K (.ref f) = true) : DefA K x st := ⟨f, _, a, k, fun_mk l c k⟩
/-- a class of errors of the text -/
structure ClsA (K : PySem.W.Frag) (x qual f : Str) (st : Stmt) (C : Addr) : Prop where
  a : PySem.W.nsIn K mainGlobals x = some (some (.ref C))
  T : OexC K C
  xf : XfC K C
  no : PySem.W.findIn K (.ref C) f = some none
  ini : ∃ (fI : Addr) (fd : FuncData), PySem.W.findIn K (.ref C) "__init__" = some (some (.ref fI)) ∧ PySem.W.typeIn K (.ref fI) = some (.type "function") ∧ Fun K "__init__" qual (inC st) fI fd
theorem ca {K : PySem.W.Frag} {x qual f : Str} {st : Stmt} {C f1 N : Addr} {nm q : Str} {bs bm : List Value} {sn : List Str} {sub : List Value} {ab : Bool} {col : Option Bool} {dd : Option Addr} {m0 m1 m2 m3 m5 : Option Value} {oc kV dc pm cd ct : Value} {od an : Option Addr} {sl : Array (Option Value)}
    (a : PySem.W.nsIn K mainGlobals x = some (some (.ref C))) (xL : K.lookup C = some (excClassObj nm q C N bs bm true sn sub ab col dd m0 m1 m2 m3 m5 "ValueError.__new__")) (rv : PySem.HandSPX.refsVE bm = true)
    (sa : PySem.W.findIn K (.ref C) "__setattr__" = some (some (.builtin "object.__setattr__"))) (ga : PySem.W.findIn K (.ref C) "__getattribute__" = some (some (.builtin "BaseException.__getattribute__"))) (gg : PySem.W.findIn K (.ref C) "__getattr__" = some none)
    (no : PySem.W.findIn K (.ref C) f = some none) (a1 : PySem.W.findIn K (.ref C) "__init__" = some (some (.ref f1))) (t1 : PySem.W.typeIn K (.ref f1) = some (.type "function"))
    (l1 : K.lookup f1 = some ⟨oc, od, .func (PySem.W.fnOf "__init__" qual (defArgs (inC st)) (defBody (inC st)) (defScope (inC st)) .none kV dc pm an cd ct), sl⟩) (c1 : PySem.W.codeIn K cd qual = true) (k1 : PySem.W.keepIn K (.ref f1) = true)
    (kC : PySem.W.keepIn K (.ref C) = true) (eC : PySem.W.subIn K (.ref C) (.type "BaseException") = some true) (tC : PySem.W.typeIn K (.ref C) = some (.type "type")) (hC : PySem.W.hasDictIn K C = true) : ClsA K x qual f st C :=
  ⟨a, ⟨⟨nm, q, N, bs, bm, sn, sub, ab, col, dd, m0, m1, m2, m3, m5, xL, rv⟩, sa, eC, tC, kC⟩, ⟨ga, gg, eC, hC⟩, no, ⟨f1, _, a1, t1, fun_mk l1 c1 k1⟩⟩
theorem exm_of {K : PySem.W.Frag} {A B : Addr} {b : Bool} (h1 : PySem.W.subIn K (.ref B) (.type "BaseException") = some true) (h2 : PySem.W.isClsIn K B = true) (h3 : PySem.W.typeIn K (.ref B) = some (.type "type")) (h4 : PySem.W.subIn K (.ref A) (.ref B) = some b) : PySem.W.exmOne K (.ref A) (.ref B) = some b := by
  have i : (PySem.W.clsIn K B).isSome = true := h2
  show (if (PySem.W.subIn K (.ref B) (.type "BaseException") == some true) = true then (if ((PySem.W.clsIn K B).isSome && PySem.W.typeIn K (.ref B) == some (.type "type")) = true then PySem.W.subIn K (.ref A) (.ref B) else none) else none) = some b
  rw [h1, i, h3, if_pos (by rfl), if_pos (by rfl), h4]
/-- a def with a default -/
def DefD (K : PySem.W.Frag) (x : Str) (st : Stmt) (d : Int) : Prop := ∃ (f : Addr) (fd : FuncData), PySem.W.nsIn K mainGlobals x = some (some (.ref f)) ∧ FunD K x x (defArgs st) (defBody st) (defScope st) [.int d] [] f fd
theorem dd {K : PySem.W.Frag} {x : Str} {st : Stmt} {d : Int} {f D : Addr} {oc kV dc pm cd ct tc : Value} {od an td : Option Addr} {sl ts : Array (Option Value)} {n : Nat} {t : Tok} (a : PySem.W.nsIn K mainGlobals x = some (some (.ref f)))
    (l : K.lookup f = some ⟨oc, od, .func (PySem.W.fnOf x x (defArgs st) (defBody st) (defScope st) (.ref D) kV dc pm an cd ct), sl⟩) (c : PySem.W.codeIn K cd x = true) (k : PySem.W.keepIn K (.ref f) = true) (e : K.lookup D = some ⟨tc, td, .seq #[.int d t] n, ts⟩) : DefD K x st d :=
  ⟨f, _, a, ⟨⟨oc, od, .ref D, kV, dc, pm, an, cd, ct, sl, rfl, l, c, .inr ⟨by simp, D, _, [.int d t], n, rfl, e, rfl, .cons ⟨t, rfl⟩ .nil⟩, .inl rfl⟩, k⟩⟩
/-- a def with lambdas -/
def DefC (K : PySem.W.Frag) (x : Str) (st : Stmt) (c : Addr) : Prop := ∃ (f : Addr) (oc kV dc pm ct : Value) (od an : Option Addr) (sl : Array (Option Value)), PySem.W.nsIn K mainGlobals x = some (some (.ref f)) ∧ PySem.W.keepIn K (.ref f) = true ∧
  K.lookup f = some ⟨oc, od, .func (PySem.W.fnOf x x (defArgs st) (defBody st) (defScope st) .none kV dc pm an (.ref c) ct), sl⟩ ∧ PySem.W.codeIn K (.ref c) x = true
theorem dc {K : PySem.W.Frag} {x : Str} {st : Stmt} {f c : Addr} {oc kV dc pm ct : Value} {od an : Option Addr} {sl : Array (Option Value)} (a : PySem.W.nsIn K mainGlobals x = some (some (.ref f))) (k : PySem.W.keepIn K (.ref f) = true)
    (l : K.lookup f = some ⟨oc, od, .func (PySem.W.fnOf x x (defArgs st) (defBody st) (defScope st) .none kV dc pm an (.ref c) ct), sl⟩) (cc : PySem.W.codeIn K (.ref c) x = true) : DefC K x st c := ⟨f, oc, kV, dc, pm, ct, od, an, sl, a, k, l, cc⟩
/-- the law's own def -/
def LawA (K : PySem.W.Frag) (c : Addr) : Prop := ∃ (f : Addr) (oc kV dc pm ct : Value) (od an : Option Addr) (sl : Array (Option Value)), PySem.W.nsIn K mainGlobals "law" = some (some (.ref f)) ∧
  K.lookup f = some ⟨oc, od, .func (PySem.W.fnOf "law" "law" (defArgs s_law) (defBody s_law) (defScope s_law) .none kV dc pm an (.ref c) ct), sl⟩ ∧ PySem.W.codeIn K (.ref c) "law" = true
theorem la {K : PySem.W.Frag} {f c : Addr} {oc kV dc pm ct : Value} {od an : Option Addr} {sl : Array (Option Value)} (a : PySem.W.nsIn K mainGlobals "law" = some (some (.ref f)))
    (l : K.lookup f = some ⟨oc, od, .func (PySem.W.fnOf "law" "law" (defArgs s_law) (defBody s_law) (defScope s_law) .none kV dc pm an (.ref c) ct), sl⟩) (cc : PySem.W.codeIn K (.ref c) "law" = true) : LawA K c := ⟨f, oc, kV, dc, pm, ct, od, an, sl, a, l, cc⟩
def spLaw (K : PySem.W.Frag) : Sp := fun vs H Q _ => ∃ (a : Addr) (ns : List Int), vs = [.ref a] ∧ SqL K H a (ns.map V.int) ∧ ns.length ≤ 63 ∧ Q = fun v _ => v = V.bl true
section
variable {P : Program} {w : World} {K : PySem.W.Frag} {mg : Str → Option Value} {base h : Heap}
theorem own_of {CX : CXT} {k : Nat} {x : Str} {st : Stmt} {ps : List Str} {sp : Sp} (X : K.In h) (G : h.Ns mainGlobals mg) (D : DefA K x st) (b : ∀ (kV doc pm : Value) (an : Option Addr) (cdv ct : Value) (us : List Value), us.length = ps.length → bindArgs (PySem.W.fnOf x x (defArgs st) (defBody st) (defScope st) .none kV doc pm an cdv ct) ⟨us, []⟩ = pure (ps.zip us))
    (F : ∀ f fd, mg x = some (.ref f) → PySem.W.keepIn K (.ref f) = true → Binds K fd ps [] → Fun K x x st f fd → FnOk P w K mg base CX k f fd ps sp) : Own P w K mg base CX k x ps sp := by
  obtain ⟨f, fd, a, kp, Fn⟩ := D
  exact ⟨f, fd, PySem.W.mg_of X G a, kp, Fn.binds b, F f fd (PySem.W.mg_of X G a) kp (Fn.binds b) Fn⟩
end
theorem all_mk {l : PySem.W.OpenLaw} {w : World} {K : PySem.W.Frag} {h : Heap} {mg : Str → Option Value} {fa  c  : Addr} {t_SIGNS : Tok} (X : K.In h) (G : h.Ns mainGlobals mg) (hfa : mg "law" = some (.ref fa))
    (lw : LawA K c)
    
    (d_is_list : DefA K "is_list" s_is_list)
    (d_is_integer : DefA K "is_integer" s_is_integer)
    (d_is_number : DefA K "is_number" s_is_number)
    (d_is_truth : DefA K "is_truth" s_is_truth)
    (d_is_pair : DefA K "is_pair" s_is_pair)
    (d_is_name : DefA K "is_name" s_is_name)
    (d_first_false : DefA K "first_false" s_first_false)
    (d_are_names : DefA K "are_names" s_are_names)
    (d_check_askings : DefA K "check_askings" s_check_askings)
    (d_asked_masks : DefA K "asked_masks" s_asked_masks)
    (d_start_of : DefA K "start_of" s_start_of)
    (d_answered : DefA K "answered" s_answered)
    (d_left_in : DefA K "left_in" s_left_in)
    (d_is_found : DefA K "is_found" s_is_found)
    (d_height_with : DefA K "height_with" s_height_with)
    (d_height_of : DefA K "height_of" s_height_of)
    (d_check_many : DefA K "check_many" s_check_many)
    (d_is_enough : DefA K "is_enough" s_is_enough)
    (d_paper_from : DefA K "paper_from" s_paper_from)
    (d_answers_against : DefD K "answers_against" s_answers_against 0)
    (d_are_two_left : DefA K "are_two_left" s_are_two_left)
    (d_are_answers : DefA K "are_answers" s_are_answers)
    (d_are_against : DefD K "are_against" s_are_against 0)
    (d_fewest_askings : DefD K "fewest_askings" s_fewest_askings 0)
    (d__law_m_suspects : DefA K "_law_m_suspects" s__law_m_suspects)
    (d__law_m_after : DefA K "_law_m_after" s__law_m_after)
    (d__law_m_left : DefA K "_law_m_left" s__law_m_left)
    (d__law_m_is_enough : DefA K "_law_m_is_enough" s__law_m_is_enough)
    (d__law_m_is_against : DefA K "_law_m_is_against" s__law_m_is_against)
    (d__law_start : DefA K "_law_start" s__law_start)
    (d__law_draw : DefA K "_law_draw" s__law_draw)
    (d__law_pick : DefA K "_law_pick" s__law_pick)
    (d__law_mixed : DefA K "_law_mixed" s__law_mixed)
    (d__law_same : DefA K "_law_same" s__law_same)
    (d__law_bent : DefA K "_law_bent" s__law_bent)
    (d__law_is_told : DefA K "_law_is_told" s__law_is_told)
    (k_SIGNS : PySem.W.nsIn K mainGlobals "SIGNS" = some (some (.str SIGNS_S t_SIGNS)))
    (z_isinstance : PySem.W.nsIn K mainGlobals "isinstance" = some none)
    (z_len : PySem.W.nsIn K mainGlobals "len" = some none)
    (z_list : PySem.W.nsIn K mainGlobals "list" = some none)
    (z_tuple : PySem.W.nsIn K mainGlobals "tuple" = some none)
    (z_dict : PySem.W.nsIn K mainGlobals "dict" = some none)
    (z_int : PySem.W.nsIn K mainGlobals "int" = some none)
    (z_bool : PySem.W.nsIn K mainGlobals "bool" = some none)
    (z_str : PySem.W.nsIn K mainGlobals "str" = some none)
    (z_min : PySem.W.nsIn K mainGlobals "min" = some none)
    (z_all : PySem.W.nsIn K mainGlobals "all" = some none)
    (z_range : PySem.W.nsIn K mainGlobals "range" = some none)
    (z_enumerate : PySem.W.nsIn K mainGlobals "enumerate" = some none)
    (z_zip : PySem.W.nsIn K mainGlobals "zip" = some none)
    (z_repr : PySem.W.nsIn K mainGlobals "repr" = some none)
    (z_max : PySem.W.nsIn K mainGlobals "max" = some none)
    (z_sum : PySem.W.nsIn K mainGlobals "sum" = some none)
    (z_set : PySem.W.nsIn K mainGlobals "set" = some none)
    (z_any : PySem.W.nsIn K mainGlobals "any" = some none) :
    LawG l w K CX0 63 "_law_script" mg fa h := by
  obtain ⟨f, oc, kV, dc, pm, ct, od, an, sl, la, ll, lc⟩ := lw
  have e := hfa.symm.trans (PySem.W.mg_of X G la)
  cases e
  have T : Bl mg := ⟨PySem.W.mg_none_of X G z_isinstance, PySem.W.mg_none_of X G z_len, PySem.W.mg_none_of X G z_list, PySem.W.mg_none_of X G z_tuple, PySem.W.mg_none_of X G z_dict, PySem.W.mg_none_of X G z_int, PySem.W.mg_none_of X G z_bool, PySem.W.mg_none_of X G z_str, PySem.W.mg_none_of X G z_min, PySem.W.mg_none_of X G z_all, PySem.W.mg_none_of X G z_range, PySem.W.mg_none_of X G z_enumerate, PySem.W.mg_none_of X G z_zip, PySem.W.mg_none_of X G z_repr⟩
  refine ⟨PySem.W.fnOf "law" "law" (defArgs s_law) (defBody s_law) (defScope s_law) .none kV dc pm an (.ref c) ct, [], spLaw K, (fun p hp => (by cases hp)), (fun p hp => (by cases hp)), (fun p hp => (by cases hp)), fun s u => .of_eq rfl, fun H a ns hn _ hT hS => ⟨a, ns, rfl, hS, hn, rfl⟩, fun base kin glob tb => ?_⟩
  have b_max : mg "max" = none := PySem.W.mg_none_of X G z_max
  have b_sum : mg "sum" = none := PySem.W.mg_none_of X G z_sum
  have b_set : mg "set" = none := PySem.W.mg_none_of X G z_set
  have b_any : mg "any" = none := PySem.W.mg_none_of X G z_any
  have g_SIGNS := PySem.W.mg_of X G k_SIGNS
  have O_is_list : Own l.prog w K mg base CX0 1 "is_list" ["thing"] (sp1 (fun _ => True) fun d => .bool (isSeq d)) := own_of X G d_is_list (fun _ _ _ _ _ _ us hl => match us, hl with | [_], _ => rfl) fun f fd m k b F => ok_is_list F T
  have O_is_integer : Own l.prog w K mg base CX0 1 "is_integer" ["thing"] (sp1 (fun _ => True) fun d => .bool (isIntD d)) := own_of X G d_is_integer (fun _ _ _ _ _ _ us hl => match us, hl with | [_], _ => rfl) fun f fd m k b F => ok_is_integer F T
  have O_is_name : Own l.prog w K mg base CX0 1 "is_name" ["thing"] (sp1 (fun d => ∃ s ∈ sNames, d = .str s) fun _ => .bool true) := own_of X G d_is_name (fun _ _ _ _ _ _ us hl => match us, hl with | [_], _ => rfl) fun f fd m k b F => ok_is_name F T g_SIGNS
  have O_first_false : Own l.prog w K mg base CX0 1 "first_false" ["tests"] (sp1 Bools fun d => ffD 0 (itemsD d)) := own_of X G d_first_false (fun _ _ _ _ _ _ us hl => match us, hl with | [_], _ => rfl) fun f fd m k b F => ok_first_false F T
  have O_are_names : Own l.prog w K mg base CX0 2 "are_names" ["thing"] (sp1 NamesD fun _ => .bool true) := own_of X G d_are_names (fun _ _ _ _ _ _ us hl => match us, hl with | [_], _ => rfl) fun f fd m k b F => ok_are_names F T b_set O_is_list O_is_name
  have O_check_askings : Own l.prog w K mg base CX0 3 "check_askings" ["suspects", "askings", "lies"] (sp3 (fun s a l => (∃ ns, Sus s ns) ∧ (∃ as, Ask a as) ∧ lieI l) fun _ _ _ => .none) := own_of X G d_check_askings (fun _ _ _ _ _ _ us hl => match us, hl with | [_, _, _], _ => rfl) fun f fd m k b F => ok_check_askings F T O_is_list O_is_integer O_is_name O_are_names O_first_false
  have O_asked_masks : Own l.prog w K mg base CX0 1 "asked_masks" ["suspects", "askings"] (sp2 (fun s a => (∃ ns, Sus s ns) ∧ ∃ as, Ask a as) fun s a => maskD (nsOf s) (asOf a)) := own_of X G d_asked_masks (fun _ _ _ _ _ _ us hl => match us, hl with | [_, _], _ => rfl) fun f fd m k b F => ok_asked_masks F T b_sum
  have O_start_of : Own l.prog w K mg base CX0 1 "start_of" ["suspects"] (sp1 (fun s => ∃ ns, Sus s ns) fun s => .tuple [.int ((2 : Int) ^ (nsOf s).length - 1), .int 0]) := own_of X G d_start_of (fun _ _ _ _ _ _ us hl => match us, hl with | [_], _ => rfl) fun f fd m k b F => ok_start_of F T
  have O_answered : Own l.prog w K mg base CX0 1 "answered" ["state", "mask", "answer", "lies"] spAns := own_of X G d_answered (fun _ _ _ _ _ _ us hl => match us, hl with | [_, _, _, _], _ => rfl) fun f fd m k b F => ok_answered F T
  have O_left_in : Own l.prog w K mg base CX0 1 "left_in" ["suspects", "state"] spLeft := own_of X G d_left_in (fun _ _ _ _ _ _ us hl => match us, hl with | [_, _], _ => rfl) fun f fd m k b F => ok_left_in F T
  have O_is_found : Own l.prog w K mg base CX0 1 "is_found" ["state"] spFound := own_of X G d_is_found (fun _ _ _ _ _ _ us hl => match us, hl with | [_], _ => rfl) fun f fd m k b F => ok_is_found F T
  obtain ⟨fo, fdo, ao, ko, Fo⟩ := d_height_of
  obtain ⟨fw_, fdw, aw, kw_, Fw⟩ := d_height_with
  have Bo : Binds K fdo ["masks", "lies", "state", "known"] [] := Fo.binds fun _ _ _ _ _ _ us hl => match us, hl with | [_, _, _, _], _ => rfl
  have Bw : Binds K fdw ["masks", "lies", "state", "mask", "known"] [] := Fw.binds fun _ _ _ _ _ _ us hl => match us, hl with | [_, _, _, _, _], _ => rfl
  have Hts := ok_heights Fo Fw T b_max (PySem.W.mg_of X G ao) ko Bo (PySem.W.mg_of X G aw) kw_ Bw O_answered O_is_found 16
  have O_height_of : Own l.prog w K mg base CX0 34 "height_of" ["masks", "lies", "state", "known"] (spHt 16) := ⟨fo, fdo, PySem.W.mg_of X G ao, ko, Bo, Hts.2⟩
  have O_height_with : Own l.prog w K mg base CX0 34 "height_with" ["masks", "lies", "state", "mask", "known"] (spHwP 16) := ⟨fw_, fdw, PySem.W.mg_of X G aw, kw_, Bw, Hts.1.mono (by decide)⟩
  have O_fewest_askings : OwnD l.prog w K mg base 35 "fewest_askings" ["suspects", "askings", "lies"] 2 ["lies"] (.int 0) spFew := by
    obtain ⟨f, fd, a, F⟩ := d_fewest_askings
    exact own_fewest F (PySem.W.mg_of X G a) (ok_fewest F T O_check_askings O_asked_masks O_start_of O_height_of)
  have O_is_number : Own l.prog w K mg base CX0 2 "is_number" ["thing"] (sp1 (fun _ => True) fun d => .bool (isNumD d)) := own_of X G d_is_number (fun _ _ _ _ _ _ us hl => match us, hl with | [_], _ => rfl) fun f fd m k b F => ok_is_number F T O_is_integer
  have O_is_truth : Own l.prog w K mg base CX0 1 "is_truth" ["thing"] (sp1 (fun _ => True) fun d => .bool (isa_bool d)) := own_of X G d_is_truth (fun _ _ _ _ _ _ us hl => match us, hl with | [_], _ => rfl) fun f fd m k b F => ok_is_truth F T
  have O_is_pair : Own l.prog w K mg base CX0 2 "is_pair" ["thing"] (sp1 (fun _ => True) fun d => .bool (isSeq d && decide (lenD d = 2))) := own_of X G d_is_pair (fun _ _ _ _ _ _ us hl => match us, hl with | [_], _ => rfl) fun f fd m k b F => ok_is_pair F T O_is_list
  have O_check_many : Own l.prog w K mg base CX0 4 "check_many" ["suspects", "askings", "many", "lies"] spChk := own_of X G d_check_many (fun _ _ _ _ _ _ us hl => match us, hl with | [_, _, _, _], _ => rfl) fun f fd m k b F => ok_check_many F T O_check_askings O_is_number
  have O_is_enough : Own l.prog w K mg base CX0 35 "is_enough" ["masks", "lies", "state", "many", "known"] (spIsEn 16) := own_of X G d_is_enough (fun _ _ _ _ _ _ us hl => match us, hl with | [_, _, _, _, _], _ => rfl) fun f fd m k b F => ok_is_enough F T O_height_of
  have O_paper_from : Own l.prog w K mg base CX0 39 "paper_from" ["suspects", "masks", "lies", "state", "many", "known"] (spPaA 16) := own_of X G d_paper_from (fun _ _ _ _ _ _ us hl => match us, hl with | [_, _, _, _, _, _], _ => rfl) fun f fd m k b F => ok_paperA (ok_paper F T (by decide) m k b O_left_in O_answered O_is_enough)
  have O_are_two_left : Own l.prog w K mg base CX0 3 "are_two_left" ["suspects", "state", "thing"] spTwo := own_of X G d_are_two_left (fun _ _ _ _ _ _ us hl => match us, hl with | [_, _, _], _ => rfl) fun f fd m k b F => ok_are_two F T O_is_pair O_left_in
  have O_are_answers : Own l.prog w K mg base CX0 3 "are_answers" ["thing", "many"] (sp2 (fun d m => ∃ n : Nat, m = .int (n : Int) ∧ n ≤ 1000) fun d m => .bool (okB (intOf m).toNat d)) := own_of X G d_are_answers (fun _ _ _ _ _ _ us hl => match us, hl with | [_, _], _ => rfl) fun f fd m k b F => ok_are_answers F T O_is_list O_is_pair O_is_truth
  have O_answers_against : OwnD l.prog w K mg base 40 "answers_against" ["suspects", "askings", "many", "lies"] 3 ["lies"] (.int 0) spAgn := by
    obtain ⟨f, fd, a, F⟩ := d_answers_against
    exact own_answers F (PySem.W.mg_of X G a) (ok_answers_against F T (by decide) O_check_many O_asked_masks O_start_of O_is_enough O_paper_from)
  have O_are_against : OwnD l.prog w K mg base 5 "are_against" ["suspects", "askings", "many", "thing", "lies"] 4 ["lies"] (.int 0) (up 3 spAg) := by
    obtain ⟨f, fd, a, F⟩ := d_are_against
    exact own_are F (PySem.W.mg_of X G a) (ok_upto (j := fun _ => 5) (fun m _ => ok_are_against F T O_check_many O_asked_masks O_start_of O_answered O_are_two_left O_are_answers) (fun _ _ => Nat.le_refl _) (by decide))
  have O__law_start : Own l.prog w K mg base CX0 1 "_law_start" ["_law_script"] (spStart K) := own_of X G d__law_start (fun _ _ _ _ _ _ us hl => match us, hl with | [_], _ => rfl) fun f fd m k b F => ok_start F T
  have O__law_draw : Own l.prog w K mg base CX0 1 "_law_draw" ["_law_stream", "_law_many"] spDraw := own_of X G d__law_draw (fun _ _ _ _ _ _ us hl => match us, hl with | [_, _], _ => rfl) fun f fd m k b F => ok_draw F T
  have O__law_pick : Own l.prog w K mg base CX0 2 "_law_pick" ["_law_stream", "_law_some"] spPick := own_of X G d__law_pick (fun _ _ _ _ _ _ us hl => match us, hl with | [_, _], _ => rfl) fun f fd m k b F => ok_pick F T O__law_draw
  have O__law_mixed : Own l.prog w K mg base CX0 2 "_law_mixed" ["_law_stream", "_law_some"] spMixed := own_of X G d__law_mixed (fun _ _ _ _ _ _ us hl => match us, hl with | [_, _], _ => rfl) fun f fd m k b F => ok_mixed F T O__law_draw
  have O__law_m_suspects : Own l.prog w K mg base CX0 3 "_law_m_suspects" ["_law_stream", "_law_most"] spMSus := own_of X G d__law_m_suspects (fun _ _ _ _ _ _ us hl => match us, hl with | [_, _], _ => rfl) fun f fd m k b F => ok_m_suspects F T O__law_draw O__law_mixed
  have O__law_m_after : Own l.prog w K mg base CX0 1 "_law_m_after" ["_law_names", "_law_askings", "_law_state", "_law_index", "_law_answer"] spAfter := own_of X G d__law_m_after (fun _ _ _ _ _ _ us hl => match us, hl with | [_, _, _, _, _], _ => rfl) fun f fd m k b F => ok_m_after F T
  have O__law_m_left : Own l.prog w K mg base CX0 1 "_law_m_left" ["_law_names", "_law_state", "_law_lies"] spMLeft := own_of X G d__law_m_left (fun _ _ _ _ _ _ us hl => match us, hl with | [_, _, _], _ => rfl) fun f fd m k b F => ok_m_left F T
  have O__law_m_is_enough : Own l.prog w K mg base CX0 22 "_law_m_is_enough" ["_law_names", "_law_askings", "_law_lies", "_law_state", "_law_many", "_law_known"] (spEnA l.prog w) := own_of X G d__law_m_is_enough (fun _ _ _ _ _ _ us hl => match us, hl with | [_, _, _, _, _, _], _ => rfl) fun f fd m k b F => ok_enA (ok_en F T m k b O__law_m_left O__law_m_after)
  have O__law_same : Own l.prog w K mg base CX0 2 "_law_same" ["_law_found", "_law_due"] (spSame 0) := own_of X G d__law_same (fun _ _ _ _ _ _ us hl => match us, hl with | [_, _], _ => rfl) fun f fd m k b F => ok_same F T m k b 0
  have O__law_m_is_against : Own l.prog w K mg base CX0 5 "_law_m_is_against" ["_law_names", "_law_askings", "_law_lies", "_law_state", "_law_many", "_law_thing"] (up 3 spMAg) := own_of X G d__law_m_is_against (fun _ _ _ _ _ _ us hl => match us, hl with | [_, _, _, _, _, _], _ => rfl) fun f fd m k b F => ok_upto (j := fun m => m + 2) (fun n _ => ok_m_against F T m k b O__law_m_left O__law_m_after n) (fun _ h => by omega) (by decide)
  have O__law_is_told : Own l.prog w K mg base CX0 5 "_law_is_told" ["_law_paper", "_law_many"] (up 3 spIsTo) := own_of X G d__law_is_told (fun _ _ _ _ _ _ us hl => match us, hl with | [_, _], _ => rfl) fun f fd m k b F => ok_upto (j := fun m => m + 2) (fun n _ => ok_told F T m k b n) (fun _ h => by omega) (by decide)
  have O__law_bent : Own l.prog w K mg base CX0 6 "_law_bent" ["_law_stream", "_law_paper", "_law_names", "_law_many"] (up 3 spBent) := own_of X G d__law_bent (fun _ _ _ _ _ _ us hl => match us, hl with | [_, _, _, _], _ => rfl) fun f fd m k b F => ok_upto (j := fun m => m + 3) (fun n _ => ok_bent F T m k b O__law_draw O__law_pick n) (fun _ h => by omega) (by decide)
  have Lb : Lib l.prog w K mg base := ⟨T, O__law_start, O__law_draw, O__law_pick, O__law_m_suspects, O_fewest_askings, O_answers_against, O__law_m_is_enough, O__law_m_is_against, O__law_is_told, O__law_bent, O__law_same, O_are_against⟩
  intro s H u v Q E env bind rel sp
  obtain ⟨a, ns, hv, hS, hn, rfl⟩ := sp
  refine run_ofS (k := 60) (N := n_law) (ps := ["_law_script"]) (us := [u]) (vs := [v]) ll lc sc_law ⟨rfl, by decide, by decide⟩ env bind (.cons rel .nil) rfl fun hr => ?_
  obtain ⟨t, h1, h2⟩ := law_reads Lb hr hS hn
  cases hv
  exact ⟨t, h1.nox, h2⟩
end K80
open PySem PySem.W PyProof.Rows
set_option maxRecDepth 100000 in
set_option maxHeartbeats 0 in
theorem PySem.Challenge.cw_patchlots_k80_whole_papers_against_holds : PySem.Challenge.rw_patchlots_k80_whole_papers_against.Holds := by
  w_on; o_law; k_head; (case hw => w_witness2)
  k_fill
  refine KD.walk_ofG (l := PySem.Challenge.rw_patchlots_k80_whole_papers_against) (n := 63) (x := "_law_script") (CX := fun _ => L2.CX0) rfl (by decide) rfl (fun w h Y => PySem.W.kIn_of Y) ?F (fun _ _ _ _ _ z => z)
  case F =>
    intro w mg fa h Y KX G hmg
    refine' K80.all_mk KX G hmg ?lw ?d_is_list ?d_is_integer ?d_is_number ?d_is_truth ?d_is_pair ?d_is_name ?d_first_false ?d_are_names ?d_check_askings ?d_asked_masks ?d_start_of ?d_answered ?d_left_in ?d_is_found ?d_height_with ?d_height_of ?d_check_many ?d_is_enough ?d_paper_from ?d_answers_against ?d_are_two_left ?d_are_answers ?d_are_against ?d_fewest_askings ?d__law_m_suspects ?d__law_m_after ?d__law_m_left ?d__law_m_is_enough ?d__law_m_is_against ?d__law_start ?d__law_draw ?d__law_pick ?d__law_mixed ?d__law_same ?d__law_bent ?d__law_is_told ?k_SIGNS ?z_isinstance ?z_len ?z_list ?z_tuple ?z_dict ?z_int ?z_bool ?z_str ?z_min ?z_all ?z_range ?z_enumerate ?z_zip ?z_repr ?z_max ?z_sum ?z_set ?z_any
    (case d_is_list => (refine' K80.da ?a ?l ?c ?k; (case a => k_is); (case l => k_is); (case c => k_is); (case k => k_is)))
    (case d_is_integer => (refine' K80.da ?a ?l ?c ?k; (case a => k_is); (case l => k_is); (case c => k_is); (case k => k_is)))
    (case d_is_number => (refine' K80.da ?a ?l ?c ?k; (case a => k_is); (case l => k_is); (case c => k_is); (case k => k_is)))
    (case d_is_truth => (refine' K80.da ?a ?l ?c ?k; (case a => k_is); (case l => k_is); (case c => k_is); (case k => k_is)))
    (case d_is_pair => (refine' K80.da ?a ?l ?c ?k; (case a => k_is); (case l => k_is); (case c => k_is); (case k => k_is)))
    (case d_is_name => (refine' K80.da ?a ?l ?c ?k; (case a => k_is); (case l => k_is); (case c => k_is); (case k => k_is)))
    (case d_first_false => (refine' K80.da ?a ?l ?c ?k; (case a => k_is); (case l => k_is); (case c => k_is); (case k => k_is)))
    (case d_are_names => (refine' K80.da ?a ?l ?c ?k; (case a => k_is); (case l => k_is); (case c => k_is); (case k => k_is)))
    (case d_check_askings => (refine' K80.da ?a ?l ?c ?k; (case a => k_is); (case l => k_is); (case c => k_is); (case k => k_is)))
    (case d_asked_masks => (refine' K80.da ?a ?l ?c ?k; (case a => k_is); (case l => k_is); (case c => k_is); (case k => k_is)))
    (case d_start_of => (refine' K80.da ?a ?l ?c ?k; (case a => k_is); (case l => k_is); (case c => k_is); (case k => k_is)))
    (case d_answered => (refine' K80.da ?a ?l ?c ?k; (case a => k_is); (case l => k_is); (case c => k_is); (case k => k_is)))
    (case d_left_in => (refine' K80.da ?a ?l ?c ?k; (case a => k_is); (case l => k_is); (case c => k_is); (case k => k_is)))
    (case d_is_found => (refine' K80.da ?a ?l ?c ?k; (case a => k_is); (case l => k_is); (case c => k_is); (case k => k_is)))
    (case d_height_with => (refine' K80.da ?a ?l ?c ?k; (case a => k_is); (case l => k_is); (case c => k_is); (case k => k_is)))
    (case d_height_of => (refine' K80.da ?a ?l ?c ?k; (case a => k_is); (case l => k_is); (case c => k_is); (case k => k_is)))
    (case d_check_many => (refine' K80.da ?a ?l ?c ?k; (case a => k_is); (case l => k_is); (case c => k_is); (case k => k_is)))
    (case d_is_enough => (refine' K80.da ?a ?l ?c ?k; (case a => k_is); (case l => k_is); (case c => k_is); (case k => k_is)))
    (case d_paper_from => (refine' K80.da ?a ?l ?c ?k; (case a => k_is); (case l => k_is); (case c => k_is); (case k => k_is)))
    (case d_answers_against => (refine' K80.dd ?a ?l ?c ?k ?e; (case a => k_is); (case l => k_is); (case c => k_is); (case k => k_is); (case e => k_is)))
    (case d_are_two_left => (refine' K80.da ?a ?l ?c ?k; (case a => k_is); (case l => k_is); (case c => k_is); (case k => k_is)))
    (case d_are_answers => (refine' K80.da ?a ?l ?c ?k; (case a => k_is); (case l => k_is); (case c => k_is); (case k => k_is)))
    (case d_are_against => (refine' K80.dd ?a ?l ?c ?k ?e; (case a => k_is); (case l => k_is); (case c => k_is); (case k => k_is); (case e => k_is)))
    (case d_fewest_askings => (refine' K80.dd ?a ?l ?c ?k ?e; (case a => k_is); (case l => k_is); (case c => k_is); (case k => k_is); (case e => k_is)))
    (case d__law_m_suspects => (refine' K80.da ?a ?l ?c ?k; (case a => k_is); (case l => k_is); (case c => k_is); (case k => k_is)))
    (case d__law_m_after => (refine' K80.da ?a ?l ?c ?k; (case a => k_is); (case l => k_is); (case c => k_is); (case k => k_is)))
    (case d__law_m_left => (refine' K80.da ?a ?l ?c ?k; (case a => k_is); (case l => k_is); (case c => k_is); (case k => k_is)))
    (case d__law_m_is_enough => (refine' K80.da ?a ?l ?c ?k; (case a => k_is); (case l => k_is); (case c => k_is); (case k => k_is)))
    (case d__law_m_is_against => (refine' K80.da ?a ?l ?c ?k; (case a => k_is); (case l => k_is); (case c => k_is); (case k => k_is)))
    (case d__law_start => (refine' K80.da ?a ?l ?c ?k; (case a => k_is); (case l => k_is); (case c => k_is); (case k => k_is)))
    (case d__law_draw => (refine' K80.da ?a ?l ?c ?k; (case a => k_is); (case l => k_is); (case c => k_is); (case k => k_is)))
    (case d__law_pick => (refine' K80.da ?a ?l ?c ?k; (case a => k_is); (case l => k_is); (case c => k_is); (case k => k_is)))
    (case d__law_mixed => (refine' K80.da ?a ?l ?c ?k; (case a => k_is); (case l => k_is); (case c => k_is); (case k => k_is)))
    (case d__law_same => (refine' K80.da ?a ?l ?c ?k; (case a => k_is); (case l => k_is); (case c => k_is); (case k => k_is)))
    (case d__law_bent => (refine' K80.da ?a ?l ?c ?k; (case a => k_is); (case l => k_is); (case c => k_is); (case k => k_is)))
    (case d__law_is_told => (refine' K80.da ?a ?l ?c ?k; (case a => k_is); (case l => k_is); (case c => k_is); (case k => k_is)))
    (case lw => (refine' K80.la ?a ?l ?c; (case a => k_is); (case l => k_is); (case c => k_is)))
    (case k_SIGNS => k_is)
    (case z_isinstance => k_is)
    (case z_len => k_is)
    (case z_list => k_is)
    (case z_tuple => k_is)
    (case z_dict => k_is)
    (case z_int => k_is)
    (case z_bool => k_is)
    (case z_str => k_is)
    (case z_min => k_is)
    (case z_all => k_is)
    (case z_range => k_is)
    (case z_enumerate => k_is)
    (case z_zip => k_is)
    (case z_repr => k_is)
    (case z_max => k_is)
    (case z_sum => k_is)
    (case z_set => k_is)
    (case z_any => k_is)

