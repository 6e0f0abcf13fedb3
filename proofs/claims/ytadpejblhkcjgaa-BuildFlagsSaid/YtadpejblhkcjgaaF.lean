/- Plain: what the laws of layer 7 say of the primitives. -/
import Derived.Test.YtadpejblhkcjgaaOpen7
namespace Go.Proofs.Ytadpejblhkcjgaa
open Go.ChangeShapes Go.WideShapes Go.ChangeAt Go.RowKit
set_option linter.unusedVariables false
set_option linter.unusedSimpArgs false

theorem wf_u8 {a : Int} (h : (Lit.int .u8 a).wf = true) : ∃ u : Nat, a = u ∧ u ≤ 255 := by
  simp only [Lit.wf, IntKind.min, IntKind.max, IntKind.signed, IntKind.bits, Bool.and_eq_true, decide_eq_true_eq] at h
  refine ⟨a.toNat, ?_, ?_⟩
  · have : (0 : Int) ≤ a := by simpa using h.1
    omega
  · have : a ≤ 255 := by simpa using h.2
    omega
theorem P.prims_in {m : Nat} (hm : m ≤ 9) {fl : List Bool} (hn : fl.length ≤ 256) (first : Bool) : P.prims m fl first = (P.list (P.shp m) fl first, 0) := by
  unfold P.prims
  rw [if_neg (by omega), if_neg (by omega)]
  rfl
theorem P.list_at {s : Shp} {fl : List Bool} {first : Bool} {i : Nat} {q : Pm} (h : (P.list s fl first)[i]? = some q) : i < P.cnt s fl.length ∧ q = P.prim s fl first i := by
  unfold P.list at h
  rw [List.getElem?_map] at h
  cases hr : (List.range (P.cnt s fl.length))[i]? with
  | none => rw [hr] at h; cases h
  | some j =>
    rw [hr] at h
    obtain ⟨hlt, he⟩ := List.getElem?_eq_some_iff.1 hr
    rw [List.getElem_range] at he
    subst he
    exact ⟨by simpa using hlt, (Option.some.inj h).symm⟩
/-- The primitives of a row in memory. -/
theorem at_of {l : List PA} {ps : List Pm} (h : l.map (·.1) = ps) {i : Nat} {x : PA} (hx : l[i]? = some x) : ps[i]? = some x.1 := by
  rw [← h]
  simp [hx]
theorem Held.hide {w0 w : World} {bs : List (Nat × TypeId × List Value)} {R : RowD} {lo : Nat} {A : Option Addr} {c : Nat} {l : List PA} {es0 : List Ent} (O : Held w0 w bs R (pE lo A c l :: (ents lo l ++ es0))) :
    ∃ es, Held w0 w bs R es ∧ pE lo A c l ∈ es ∧ (∀ y ∈ ents lo l, y ∈ es) ∧ (∀ y ∈ es0, y ∈ es) :=
  ⟨_, O, List.mem_cons_self, fun y hy => mem_one (List.mem_append_left _ hy), fun y hy => mem_one (List.mem_append_right _ hy)⟩

/-! ### Flags -/
theorem P.ed_low {m : Nat} (h : m < 4) : (P.shp m).ed = 0 := by
  have : m = 0 ∨ m = 1 ∨ m = 2 ∨ m = 3 := by omega
  rcases this with rfl | rfl | rfl | rfl <;> rfl
theorem P.ed_high {m : Nat} (h4 : 4 ≤ m) (h : m ≤ 9) : (P.shp m).ed ≠ 0 ∧ ((P.shp m).ed == 2) = (m != 4 && m != 7 && m != 9) := by
  have : m = 4 ∨ m = 5 ∨ m = 6 ∨ m = 7 ∨ m = 8 ∨ m = 9 := by omega
  rcases this with rfl | rfl | rfl | rfl | rfl | rfl <;> exact ⟨by decide, by decide⟩
theorem P.flag_low {m : Nat} (h : m < 4) {fl : List Bool} {first : Bool} {i : Nat} : (P.prim (P.shp m) fl first i).E = [] := by
  show P.sides _ _ _ = []
  unfold P.sides
  rw [if_pos (P.ed_low h)]
theorem P.flag_len {m : Nat} (h4 : 4 ≤ m) (h : m ≤ 9) {fl : List Bool} {first : Bool} {i : Nat} : (P.prim (P.shp m) fl first i).E.length = (P.prim (P.shp m) fl first i).V.length := by
  show (P.sides _ _ _).length = (P.verts _ _ _).length
  unfold P.sides
  rw [if_neg (P.ed_high h4 h).1, List.length_map]
theorem P.flag_at {m : Nat} (h4 : 4 ≤ m) (h : m ≤ 9) {fl : List Bool} {first : Bool} {i : Nat} (hi : i < P.cnt (P.shp m) fl.length) {k v : Nat} {e : Bool}
    (hv : (P.prim (P.shp m) fl first i).V[k]? = some v) (he : (P.prim (P.shp m) fl first i).E[k]? = some e) :
    ∃ b, v < fl.length ∧ fl[v]? = some b ∧ e = ((m != 4 && m != 7 && m != 9) || b) := by
  have hn := P.cnt_pos h (Nat.lt_of_le_of_lt (Nat.zero_le _) hi)
  have hlt : v < fl.length := P.verts_lt h (i := i) hn v (List.mem_of_getElem? hv)
  refine ⟨fl[v], hlt, List.getElem?_eq_getElem hlt, ?_⟩
  have he' : (P.sides (P.shp m) (P.verts (P.shp m) i fl.length) fl)[k]? = some e := he
  have hv' : (P.verts (P.shp m) i fl.length)[k]? = some v := hv
  rw [sides_eq (P.ed_high h4 h).1, List.getElem?_map, hv'] at he'
  simp only [Option.map_some, Option.some.injEq] at he'
  rw [← he', (P.ed_high h4 h).2, List.getD_eq_getElem?_getD, List.getElem?_eq_getElem hlt]
  rfl

/-! ### Turns -/
def gT (V1 V0 : List Nat) (t : Nat) : Bool := V1.getD (t / 3) 0 == V0.getD ((t % 3 + 1) % 3) 0 && V1.getD ((t / 3 + 1) % 3) 0 == V0.getD (t % 3) 0
def cumT (V1 V0 : List Nat) : Nat → Nat
  | 0 => 0
  | t + 1 => cumT V1 V0 t + (if gT V1 V0 t then 1 else 0)
theorem cumT_le (V1 V0 : List Nat) : ∀ t, cumT V1 V0 t ≤ t
  | 0 => Nat.le_refl _
  | t + 1 => by
    have := cumT_le V1 V0 t
    unfold cumT
    split <;> omega
theorem cum_fan (j : Nat) : cumT [0, j + 2, j + 3] [0, j + 1, j + 2] 9 = 1 := by
  simp [cumT, gT]
theorem cum_even (j : Nat) : cumT [j + 2, j + 1, j + 3] [j, j + 1, j + 2] 9 = 1 := by
  simp [cumT, gT]
theorem cum_odd (j : Nat) : cumT [j + 1, j + 2, j + 3] [j + 1, j, j + 2] 9 = 1 := by
  simp [cumT, gT]
theorem P.turn {m : Nat} (hm : m = 5 ∨ m = 6) (j : Nat) : cumT (P.dV m (j + 1)) (P.dV m j) 9 = 1 := by
  rcases hm with rfl | rfl
  · by_cases hj : j % 2 = 1
    · have h1 : P.dV 5 (j + 1) = [j + 1, j + 2, j + 3] := by simp [P.dV]; omega
      have h0 : P.dV 5 j = [j + 1, j, j + 2] := by simp [P.dV, hj]
      rw [h1, h0]
      exact cum_odd j
    · have h1 : P.dV 5 (j + 1) = [j + 2, j + 1, j + 3] := by simp [P.dV]; omega
      have h0 : P.dV 5 j = [j, j + 1, j + 2] := by simp [P.dV, hj]
      rw [h1, h0]
      exact cum_even j
  · exact cum_fan j
theorem P.V_of {m : Nat} (hm : m = 5 ∨ m = 6) {fl : List Bool} {first : Bool} {i : Nat} (hi : i < P.cnt (P.shp m) fl.length) : (P.prim (P.shp m) fl first i).V = P.dV m i := by
  have h9 : m < 9 := by omega
  rw [P.cnt_eq h9, if_neg (by omega), Nat.add_zero] at hi
  exact P.V_eq h9 _ _ ((P.cnt0_iff h9 _ _).2 hi)
theorem P.dV_three {m : Nat} (hm : m = 5 ∨ m = 6) (i : Nat) : (P.dV m i).length = 3 := by
  rcases hm with rfl | rfl
  · simp only [P.dV, Nat.reduceEqDiff, if_false, if_true]; split <;> rfl
  · rfl

/-! ### Who provokes -/
theorem P.prov_mem {m : Nat} (h : m ≤ 8) (f : Bool) : P.prov (P.shp m) f ∈ (P.shp m).cs := by
  have h9 : m < 9 := by omega
  rcases P.le9 h9 with rfl | rfl | rfl | rfl | rfl | rfl | rfl | rfl | rfl <;> cases f <;> decide
theorem P.swap_has {l : List Nat} (h2 : 2 ≤ l.length) {x : Nat} (h : x ∈ l) : x ∈ P.swap l := by
  match l, h2 with
  | a :: b :: r, _ =>
    have e : P.swap (a :: b :: r) = b :: a :: r := rfl
    rw [e]
    simp only [List.mem_cons] at h ⊢
    rcases h with h | h | h
    · exact .inr (.inl h)
    · exact .inl h
    · exact .inr (.inr h)
theorem P.p_mem {m : Nat} (h : m ≤ 9) {fl : List Bool} {first : Bool} {i : Nat} (hi : i < P.cnt (P.shp m) fl.length) : (P.prim (P.shp m) fl first i).p ∈ (P.prim (P.shp m) fl first i).V := by
  have hn := P.cnt_pos h (Nat.lt_of_le_of_lt (Nat.zero_le _) hi)
  show P.num (P.prov (P.shp m) first) i fl.length ∈ P.verts (P.shp m) i fl.length
  by_cases h9 : m = 9
  · subst h9
    have e : P.verts (P.shp 9) i fl.length = List.range fl.length := rfl
    rw [e]
    exact List.mem_range.2 (Nat.mod_lt _ hn)
  · have hf : P.num (P.prov (P.shp m) first) i fl.length ∈ P.flat (P.shp m) i fl.length := List.mem_map.2 ⟨_, P.prov_mem (by omega) first, rfl⟩
    unfold P.verts
    have hw : (P.shp m).wh = false := by
      rcases P.le9 (show m < 9 by omega) with rfl | rfl | rfl | rfl | rfl | rfl | rfl | rfl | rfl <;> rfl
    rw [hw]
    simp only [Bool.false_eq_true, if_false]
    split
    · rename_i ht
      refine P.swap_has ?_ hf
      have : (P.shp m).tu = true := by
        cases hh : (P.shp m).tu
        · simp [hh] at ht
        · rfl
      have := P.cs_tu h this
      simpa [P.flat] using this
    · exact hf
theorem P.p_lt {m : Nat} (h : m ≤ 9) {fl : List Bool} {first : Bool} {i : Nat} (hi : i < P.cnt (P.shp m) fl.length) : (P.prim (P.shp m) fl first i).p < fl.length := Nat.mod_lt _ (P.cnt_pos h (Nat.lt_of_le_of_lt (Nat.zero_le _) hi))
/-- No two are provoked by one vertex. -/
theorem P.p_inj {m : Nat} (h : m ≤ 9) {fl : List Bool} {first : Bool} {i j : Nat} (hn : fl.length ≤ 256) (hi : i < P.cnt (P.shp m) fl.length) (hj : j < P.cnt (P.shp m) fl.length)
    (he : (P.prim (P.shp m) fl first i).p = (P.prim (P.shp m) fl first j).p) : i = j := by
  have he' : P.num (P.prov (P.shp m) first) i fl.length = P.num (P.prov (P.shp m) first) j fl.length := he
  by_cases h9 : m = 9
  · subst h9
    have hc : P.cnt (P.shp 9) fl.length ≤ 1 := by
      simp only [P.cnt, P.shp, P.tab, List.getD_cons_zero, List.getD_cons_succ, Bool.false_eq_true, if_false]
      split <;> omega
    omega
  · have hm9 : m < 9 := by omega
    by_cases h3 : m = 3
    · subst h3
      have hc : P.cnt (P.shp 3) fl.length ≤ fl.length := by
        simp only [P.cnt, P.shp, P.tab, List.getD_cons_zero, List.getD_cons_succ, if_true]
        split <;> omega
      cases first
      · have e1 : ∀ k, P.num (P.prov (P.shp 3) false) k fl.length = (1 + 1 * k) % fl.length := fun k => rfl
        rw [e1, e1] at he'
        have f1 : ∀ k, k < fl.length → (1 + 1 * k) % fl.length = if k + 1 = fl.length then 0 else k + 1 := by
          intro k hk
          split
          · rename_i hh; rw [show 1 + 1 * k = fl.length by omega, Nat.mod_self]
          · rw [Nat.mod_eq_of_lt (by omega)]; omega
        rw [f1 i (by omega), f1 j (by omega)] at he'
        split at he' <;> split at he' <;> omega
      · have e1 : ∀ k, P.num (P.prov (P.shp 3) true) k fl.length = (0 + 1 * k) % fl.length := fun k => rfl
        rw [e1, e1, Nat.mod_eq_of_lt (by omega), Nat.mod_eq_of_lt (by omega)] at he'
        omega
    · rw [P.cnt_eq hm9, if_neg (by omega), Nat.add_zero] at hi hj
      rw [P.P_eq hm9 _ _ _ ((P.cnt0_iff hm9 _ _).2 hi), P.P_eq hm9 _ _ _ ((P.cnt0_iff hm9 _ _).2 hj)] at he'
      rcases P.le9 hm9 with rfl | rfl | rfl | rfl | rfl | rfl | rfl | rfl | rfl <;> cases first <;> simp only [P.dP, P.dQ, Nat.reduceEqDiff, if_true, if_false, Bool.false_eq_true] at he' <;> omega
/-- How many of the first k provoke so. -/
def cP (f : Nat → Nat) (k j : Nat) : Nat := (List.range k).countP (fun i => f i == j)
theorem cP_step (f : Nat → Nat) (k j : Nat) : cP f (k + 1) j = cP f k j + (if f k = j then 1 else 0) := by
  unfold cP
  rw [List.range_succ, List.countP_append]
  simp
theorem cP_zero {f : Nat → Nat} {k j : Nat} (h : ∀ i, i < k → f i ≠ j) : cP f k j = 0 := by
  unfold cP
  rw [List.countP_eq_zero]
  intro i hi
  simpa using h i (List.mem_range.1 hi)
theorem cP_one {f : Nat → Nat} {n : Nat} (h : ∀ i j, i < n → j < n → f i = f j → i = j) : ∀ k, k ≤ n → ∀ j, cP f k j ≤ 1 := by
  intro k
  induction k with
  | zero => intro _ j; exact Nat.zero_le _
  | succ k ih =>
    intro hk j
    rw [cP_step]
    split
    · rename_i e
      rw [cP_zero (fun i hi e2 => by
        have := h i k (by omega) (by omega) (e2.trans e.symm)
        omega)]
      omega
    · exact ih (by omega) j
theorem cP_le (f : Nat → Nat) (k j : Nat) : cP f k j ≤ k := by
  unfold cP
  exact Nat.le_trans List.countP_le_length (by simp)
end Go.Proofs.Ytadpejblhkcjgaa
