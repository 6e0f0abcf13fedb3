/- Plain: which primitives a mode makes. -/
import Derived.Test.YtadpejblhkcjgaaM
namespace Go.Proofs.Ytadpejblhkcjgaa
set_option linter.unusedVariables false

/-- A primitive. -/
structure Pm where
  V : List Nat
  E : List Bool
  p : Nat
/-- What a mode makes. -/
structure Shp where
  need : Nat
  more : Nat
  cs : List (Nat × Nat)
  tu : Bool
  cl : Bool
  wh : Bool
  ed : Nat
  fi : Nat × Nat
  la : Nat × Nat
namespace P
def tab : List Shp := [
  ⟨1, 1, [(0, 1)], false, false, false, 0, (0, 1), (0, 1)⟩,
  ⟨2, 2, [(0, 2), (1, 2)], false, false, false, 0, (0, 2), (1, 2)⟩,
  ⟨2, 1, [(0, 1), (1, 1)], false, false, false, 0, (0, 1), (1, 1)⟩,
  ⟨2, 1, [(0, 1), (1, 1)], false, true, false, 0, (0, 1), (1, 1)⟩,
  ⟨3, 3, [(0, 3), (1, 3), (2, 3)], false, false, false, 1, (0, 3), (2, 3)⟩,
  ⟨3, 1, [(0, 1), (1, 1), (2, 1)], true, false, false, 2, (0, 1), (2, 1)⟩,
  ⟨3, 1, [(0, 0), (1, 1), (2, 1)], false, false, false, 2, (1, 1), (2, 1)⟩,
  ⟨4, 4, [(0, 4), (1, 4), (2, 4), (3, 4)], false, false, false, 1, (0, 4), (3, 4)⟩,
  ⟨4, 2, [(0, 2), (1, 2), (3, 2), (2, 2)], false, false, false, 2, (0, 2), (3, 2)⟩,
  ⟨3, 256, [], false, false, true, 1, (0, 0), (0, 0)⟩]
def shp (m : Nat) : Shp := tab.getD m ⟨0, 0, [], false, false, false, 0, (0, 0), (0, 0)⟩
def num (c : Nat × Nat) (i n : Nat) : Nat := (c.1 + c.2 * i) % n
def cnt (s : Shp) (n : Nat) : Nat := if n < s.need then 0 else 1 + (n - s.need) / s.more + (if s.cl then 1 else 0)
def swap (v : List Nat) : List Nat := (v.set 0 (v.getD 1 0)).set 1 (v.getD 0 0)
def flat (s : Shp) (i n : Nat) : List Nat := s.cs.map fun c => num c i n
def verts (s : Shp) (i n : Nat) : List Nat := if s.wh then List.range n else if s.tu && i % 2 == 1 then swap (flat s i n) else flat s i n
def sides (s : Shp) (v : List Nat) (fl : List Bool) : List Bool := if s.ed = 0 then [] else v.map fun k => s.ed == 2 || fl.getD k false
def prov (s : Shp) (first : Bool) : Nat × Nat := if first then s.fi else s.la
def prim (s : Shp) (fl : List Bool) (first : Bool) (i : Nat) : Pm := ⟨verts s i fl.length, sides s (verts s i fl.length) fl, num (prov s first) i fl.length⟩
def list (s : Shp) (fl : List Bool) (first : Bool) : List Pm := (List.range (cnt s fl.length)).map (prim s fl first)
/-- Prims. -/
def prims (m : Int) (fl : List Bool) (first : Bool) : List Pm × Int :=
  if m < 0 ∨ 9 < m then ([], 1) else if 256 < fl.length then ([], 8) else (list (shp m.toNat) fl first, 0)

/-! ### The document's -/
def dV (m i : Nat) : List Nat :=
  if m = 0 then [i] else if m = 1 then [2 * i, 2 * i + 1] else if m = 2 then [i, i + 1] else if m = 3 then [i, i + 1] else if m = 4 then [3 * i, 3 * i + 1, 3 * i + 2]
  else if m = 5 then (if i % 2 = 1 then [i + 1, i, i + 2] else [i, i + 1, i + 2]) else if m = 6 then [0, i + 1, i + 2] else if m = 7 then [4 * i, 4 * i + 1, 4 * i + 2, 4 * i + 3]
  else [2 * i, 2 * i + 1, 2 * i + 3, 2 * i + 2]
def dP (m i : Nat) : Nat :=
  if m = 0 then i else if m = 1 then 2 * i else if m = 2 then i else if m = 3 then i else if m = 4 then 3 * i else if m = 5 then i else if m = 6 then i + 1 else if m = 7 then 4 * i else 2 * i
def dQ (m i : Nat) : Nat :=
  if m = 0 then i else if m = 1 then 2 * i + 1 else if m = 2 then i + 1 else if m = 3 then i + 1 else if m = 4 then 3 * i + 2 else if m = 5 then i + 2 else if m = 6 then i + 2 else if m = 7 then 4 * i + 3 else 2 * i + 3
def dC (m : Nat) : Bool := m == 4 || m == 7
def mx (v : List Nat) : Nat := v.foldl max 0
def dE (m : Nat) (v : List Nat) (fl : List Bool) : List Bool := if 2 < v.length then (if dC m then v.map (fun k => fl.getD k false) else List.replicate v.length true) else []
def dprim (m : Nat) (fl : List Bool) (first : Bool) (i : Nat) : Pm := ⟨dV m i, dE m (dV m i) fl, if first then dP m i else dQ m i⟩
def last (n : Nat) (first : Bool) : Pm := ⟨[n - 1, 0], [], if first then n - 1 else 0⟩

theorem le9 {m : Nat} (h : m < 9) : m = 0 ∨ m = 1 ∨ m = 2 ∨ m = 3 ∨ m = 4 ∨ m = 5 ∨ m = 6 ∨ m = 7 ∨ m = 8 := by omega
/-- Without the line that closes. -/
def cnt0 (s : Shp) (n : Nat) : Nat := if n < s.need then 0 else 1 + (n - s.need) / s.more
theorem cnt0_iff {m : Nat} (h : m < 9) (n i : Nat) : mx (dV m i) < n ↔ i < cnt0 (shp m) n := by
  rcases le9 h with rfl | rfl | rfl | rfl | rfl | rfl | rfl | rfl | rfl
  all_goals
    by_cases hi : i % 2 = 1
    all_goals
      simp only [mx, dV, hi, shp, tab, cnt0, List.getD_cons_zero, List.getD_cons_succ, List.foldl_cons, List.foldl_nil, Nat.reduceEqDiff, if_true, if_false, ite_true, ite_false, reduceIte]
      split <;> omega
theorem cnt_eq {m : Nat} (h : m < 9) (n : Nat) : cnt (shp m) n = cnt0 (shp m) n + (if m = 3 ∧ 2 ≤ n then 1 else 0) := by
  rcases le9 h with rfl | rfl | rfl | rfl | rfl | rfl | rfl | rfl | rfl
  all_goals
    simp only [shp, tab, cnt, cnt0, List.getD_cons_zero, List.getD_cons_succ]
    split <;> split <;> simp_all <;> omega
theorem num_lt {a b i n : Nat} (h : a + b * i < n) : num (a, b) i n = a + b * i := Nat.mod_eq_of_lt h
theorem V_eq {m : Nat} (h : m < 9) (n i : Nat) (hb : mx (dV m i) < n) : verts (shp m) i n = dV m i := by
  rcases le9 h with rfl | rfl | rfl | rfl | rfl | rfl | rfl | rfl | rfl
  all_goals
    by_cases hi : i % 2 = 1
    all_goals
      simp only [mx, dV, hi, List.foldl_cons, List.foldl_nil, Nat.reduceEqDiff, if_true, if_false, reduceIte] at hb ⊢
      simp only [verts, flat, shp, tab, List.getD_cons_zero, List.getD_cons_succ, List.map_cons, List.map_nil, Bool.false_and, Bool.true_and, if_false, reduceIte, Bool.false_eq_true, hi, beq_iff_eq, swap, List.set_cons_zero, List.set_cons_succ]
      repeat rw [num_lt (by omega)]
      simp <;> omega
theorem P_eq {m : Nat} (h : m < 9) (n i : Nat) (first : Bool) (hb : mx (dV m i) < n) : num (prov (shp m) first) i n = if first then dP m i else dQ m i := by
  rcases le9 h with rfl | rfl | rfl | rfl | rfl | rfl | rfl | rfl | rfl
  all_goals
    by_cases hi : i % 2 = 1
    all_goals
      simp only [mx, dV, hi, List.foldl_cons, List.foldl_nil, Nat.reduceEqDiff, if_true, if_false, reduceIte] at hb
      cases first <;> simp only [prov, shp, tab, List.getD_cons_zero, List.getD_cons_succ, if_true, if_false, reduceIte, Bool.false_eq_true, dP, dQ, Nat.reduceEqDiff] <;> rw [num_lt (by omega)] <;> omega
theorem E_eq {m : Nat} (h : m < 9) (i : Nat) (fl : List Bool) : sides (shp m) (dV m i) fl = dE m (dV m i) fl := by
  rcases le9 h with rfl | rfl | rfl | rfl | rfl | rfl | rfl | rfl | rfl
  all_goals
    by_cases hi : i % 2 = 1
    all_goals
      simp [sides, dE, dC, shp, tab, dV, hi, List.replicate_succ]
theorem prim_eq {m : Nat} (h : m < 9) (fl : List Bool) (first : Bool) (i : Nat) (hi : i < cnt0 (shp m) fl.length) : prim (shp m) fl first i = dprim m fl first i := by
  have hb := (cnt0_iff h fl.length i).2 hi
  unfold prim dprim
  rw [V_eq h _ _ hb, E_eq h, P_eq h _ _ _ hb]
/-- The primitives of a mode but the polygon. -/
theorem list_eq {m : Nat} (h : m < 9) (fl : List Bool) (first : Bool) : list (shp m) fl first = (List.range (cnt0 (shp m) fl.length)).map (dprim m fl first) ++ (if m = 3 ∧ 2 ≤ fl.length then [last fl.length first] else []) := by
  unfold list
  rw [cnt_eq h]
  have e : (List.range (cnt0 (shp m) fl.length)).map (prim (shp m) fl first) = (List.range (cnt0 (shp m) fl.length)).map (dprim m fl first) :=
    List.map_congr_left fun i hi => prim_eq h fl first i (List.mem_range.1 hi)
  split
  · rename_i hc
    obtain ⟨rfl, h2⟩ := hc
    rw [List.range_succ, List.map_append, e]
    congr 1
    have hc0 : cnt0 (shp 3) fl.length = fl.length - 1 := by
      simp only [cnt0, shp, tab, List.getD_cons_zero, List.getD_cons_succ]
      split <;> omega
    rw [hc0]
    simp only [List.map_cons, List.map_nil, prim, last, verts, sides, prov, shp, tab, flat, List.getD_cons_zero, List.getD_cons_succ, Bool.false_and, if_false, if_true, reduceIte, Bool.false_eq_true]
    have e1 : num (0, 1) (fl.length - 1) fl.length = fl.length - 1 := by unfold num; exact (Nat.mod_eq_of_lt (by dsimp only; omega)).trans (by dsimp only; omega)
    have e2 : num (1, 1) (fl.length - 1) fl.length = 0 := by
      unfold num
      dsimp only
      rw [show 1 + 1 * (fl.length - 1) = fl.length by omega, Nat.mod_self]
    rw [e1, e2]
    cases first
    · simp [e2]
    · simp [e1]
  · rw [Nat.add_zero, List.append_nil, e]
/-- The polygon. -/
theorem list_nine (fl : List Bool) (first : Bool) (hn : fl.length ≤ 256) : list (shp 9) fl first = if fl.length < 3 then [] else [⟨List.range fl.length, fl, 0⟩] := by
  have hc : cnt (shp 9) fl.length = if fl.length < 3 then 0 else 1 := by
    simp only [cnt, shp, tab, List.getD_cons_zero, List.getD_cons_succ, Bool.false_eq_true, if_false]
    split <;> omega
  unfold list
  rw [hc]
  split
  · rfl
  · have hp : prim (shp 9) fl first 0 = ⟨List.range fl.length, fl, 0⟩ := by
      have h1 : num (prov (shp 9) first) 0 fl.length = 0 := by cases first <;> simp [num, prov, shp, tab]
      have h2 : sides (shp 9) (List.range fl.length) fl = fl := by
        simp only [sides, shp, tab, List.getD_cons_zero, List.getD_cons_succ]
        apply List.ext_getElem
        · simp
        · intro k h1 h2
          simp [List.getD_eq_getElem?_getD, List.getElem?_eq_getElem h2]
      unfold prim
      rw [h1]
      have h3 : verts (shp 9) 0 fl.length = List.range fl.length := rfl
      rw [h3, h2]
    show [prim (shp 9) fl first 0] = _
    rw [hp]
theorem cnt_le {m : Nat} (h : m ≤ 9) {n : Nat} (hn : n ≤ 256) : cnt (shp m) n ≤ 256 := by
  by_cases h9 : m = 9
  · subst h9
    simp only [cnt, shp, tab, List.getD_cons_zero, List.getD_cons_succ, Bool.false_eq_true, if_false]
    split <;> omega
  · have h' : m < 9 := by omega
    rcases le9 h' with rfl | rfl | rfl | rfl | rfl | rfl | rfl | rfl | rfl
    all_goals
      simp only [cnt, shp, tab, List.getD_cons_zero, List.getD_cons_succ, Bool.false_eq_true, if_false, if_true]
      split <;> omega
end P
end Go.Proofs.Ytadpejblhkcjgaa
