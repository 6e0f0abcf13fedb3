/- Plain: a smooth line's fragments in a rectangle, row by row; what a lesser rectangle shows; in order; moved. -/
import Derived.Test.YtndaijcgjhmiaaaSm
namespace Go.Proofs.Ytndaijcgjhmiaaa
set_option linter.unusedVariables false
namespace SM
/-- The numbers from lo on, below hi. -/
def upto (lo hi : Int) : List Int := (List.range (hi - lo).toNat).map fun (i : Nat) => lo + i
theorem mem_upto {lo hi x : Int} : x ∈ upto lo hi ↔ lo ≤ x ∧ x < hi := by
  unfold upto
  rw [List.mem_map]
  constructor
  · rintro ⟨i, hi, rfl⟩
    have := List.mem_range.1 hi
    omega
  · rintro ⟨h1, h2⟩
    exact ⟨(x - lo).toNat, List.mem_range.2 (by omega), by omega⟩
theorem upto_rise (lo hi : Int) : (upto lo hi).Pairwise (fun x y => x < y) := by
  unfold upto
  rw [List.pairwise_map]
  exact List.pairwise_lt_range.imp fun {i j} h => by omega
theorem upto_nil (lo : Int) : upto lo lo = [] := by unfold upto; simp
theorem upto_succ {lo hi : Int} (h : lo ≤ hi) : upto lo (hi + 1) = upto lo hi ++ [hi] := by
  unfold upto
  rw [show (hi + 1 - lo).toNat = (hi - lo).toNat + 1 by omega, List.range_succ, List.map_append]
  simp
  omega
theorem flat_congr {α β : Type} {f g : α → List β} : ∀ {l : List α}, (∀ x ∈ l, f x = g x) → l.flatMap f = l.flatMap g
  | [], _ => rfl
  | x :: l, h => by
    rw [List.flatMap_cons, List.flatMap_cons, h x List.mem_cons_self, flat_congr fun y hy => h y (List.mem_cons_of_mem _ hy)]
section
variable {α : Type}
/-- A row's; a rectangle's, row by row. -/
def row (f : Int → Int → List α) (x0 x1 y : Int) : List α := (upto x0 x1).flatMap fun x => f x y
def rows (f : Int → Int → List α) (x0 x1 y0 y1 : Int) : List α := (upto y0 y1).flatMap fun y => row f x0 x1 y
theorem row_nil (f : Int → Int → List α) (x0 y : Int) : row f x0 x0 y = [] := by unfold row; rw [upto_nil]; rfl
theorem row_succ (f : Int → Int → List α) {x0 x1 : Int} (h : x0 ≤ x1) (y : Int) : row f x0 (x1 + 1) y = row f x0 x1 y ++ f x1 y := by
  unfold row
  rw [upto_succ h, List.flatMap_append]
  simp
theorem rows_nil (f : Int → Int → List α) (x0 x1 y0 : Int) : rows f x0 x1 y0 y0 = [] := by unfold rows; rw [upto_nil]; rfl
theorem rows_succ (f : Int → Int → List α) {x0 x1 y0 y1 : Int} (h : y0 ≤ y1) : rows f x0 x1 y0 (y1 + 1) = rows f x0 x1 y0 y1 ++ row f x0 x1 y1 := by
  unfold rows
  rw [upto_succ h, List.flatMap_append]
  simp
theorem upto_part {lo hi lo' hi' : Int} (h1 : lo ≤ lo') (h2 : hi' ≤ hi) : (upto lo hi).filter (fun x => decide (lo' ≤ x) && decide (x < hi')) = upto lo' hi' := by
  have rise : ∀ {l r : List Int}, l.Pairwise (fun x y => x < y) → r.Pairwise (fun x y => x < y) → (∀ x, x ∈ l ↔ x ∈ r) → l = r := by
    intro l
    induction l with
    | nil =>
      intro r _ _ h
      exact (List.eq_nil_iff_forall_not_mem.2 fun x hx => absurd ((h x).2 hx) (by simp)).symm
    | cons x l ih =>
      intro r hl hr h
      cases r with
      | nil => exact absurd ((h x).1 List.mem_cons_self) (by simp)
      | cons y r =>
        obtain ⟨hl1, hl2⟩ := List.pairwise_cons.1 hl
        obtain ⟨hr1, hr2⟩ := List.pairwise_cons.1 hr
        have e : x = y := by
          rcases List.mem_cons.1 ((h x).1 List.mem_cons_self) with e | e
          · exact e
          · rcases List.mem_cons.1 ((h y).2 List.mem_cons_self) with e' | e'
            · exact e'.symm
            · have := hl1 _ e'
              have := hr1 _ e
              omega
        subst e
        rw [ih hl2 hr2 fun z => ?_]
        constructor
        · intro hz
          rcases List.mem_cons.1 ((h z).1 (List.mem_cons_of_mem _ hz)) with e | e
          · have := hl1 z hz
            omega
          · exact e
        · intro hz
          rcases List.mem_cons.1 ((h z).2 (List.mem_cons_of_mem _ hz)) with e | e
          · have := hr1 z hz
            omega
          · exact e
  refine rise ((upto_rise lo hi).filter _) (upto_rise lo' hi') fun x => ?_
  rw [List.mem_filter, mem_upto, mem_upto]
  simp only [Bool.and_eq_true, decide_eq_true_eq]
  omega
/-- What a lesser rectangle has is what a greater one has there. -/
theorem rows_part (f : Int → Int → List α) (p : α → Bool) {x0 x1 y0 y1 u0 u1 v0 v1 : Int} (hx : x0 ≤ u0 ∧ u1 ≤ x1) (hy : y0 ≤ v0 ∧ v1 ≤ y1) (hp : ∀ x y z, z ∈ f x y → p z = ((decide (u0 ≤ x) && decide (x < u1)) && (decide (v0 ≤ y) && decide (y < v1)))) :
    (rows f x0 x1 y0 y1).filter p = rows f u0 u1 v0 v1 := by
  have fil : ∀ (l : List Int) (g : Int → List α) (q : Int → Bool), (∀ x ∈ l, q x = false → g x = []) → l.flatMap g = (l.filter q).flatMap g := by
    intro l g q
    induction l with
    | nil => intro _; rfl
    | cons x l ih =>
      intro h
      have h2 := ih fun y hy => h y (List.mem_cons_of_mem _ hy)
      cases hq : q x
      · rw [List.filter_cons_of_neg (by rw [hq]; decide), List.flatMap_cons, h x List.mem_cons_self hq, List.nil_append, h2]
      · rw [List.filter_cons_of_pos hq, List.flatMap_cons, List.flatMap_cons, h2]
  unfold rows
  rw [List.filter_flatMap, fil _ _ (fun y => decide (v0 ≤ y) && decide (y < v1)), upto_part hy.1 hy.2]
  · refine flat_congr fun y hy' => ?_
    have hyy := mem_upto.1 hy'
    unfold row
    rw [List.filter_flatMap, fil _ _ (fun x => decide (u0 ≤ x) && decide (x < u1)), upto_part hx.1 hx.2]
    · refine flat_congr fun x hx' => ?_
      have hxx := mem_upto.1 hx'
      rw [List.filter_eq_self]
      intro z hz
      rw [hp x y z hz]
      simp only [Bool.and_eq_true, decide_eq_true_eq]
      omega
    · intro x _ hq
      rw [List.filter_eq_nil_iff]
      intro z hz
      rw [hp x y z hz, hq, Bool.false_and]
      decide
  · intro y _ hq
    unfold row
    rw [List.filter_flatMap, List.flatMap_eq_nil_iff]
    intro x _
    rw [List.filter_eq_nil_iff]
    intro z hz
    rw [hp x y z hz, hq, Bool.and_false]
    decide
theorem rows_rise (f : Int → Int → List α) {R : α → α → Prop} (x0 x1 y0 y1 : Int) (h0 : ∀ x y, (f x y).Pairwise R) (h1 : ∀ x y x' z z', x < x' → z ∈ f x y → z' ∈ f x' y → R z z') (h2 : ∀ x y x' y' z z', y < y' → z ∈ f x y → z' ∈ f x' y' → R z z') : (rows f x0 x1 y0 y1).Pairwise R := by
  unfold rows
  rw [List.pairwise_flatMap]
  refine ⟨fun y _ => ?_, (upto_rise y0 y1).imp fun {y y'} hy z hz z' hz' => ?_⟩
  · unfold row
    rw [List.pairwise_flatMap]
    exact ⟨fun x _ => h0 x y, (upto_rise x0 x1).imp fun {x x'} hx z hz z' hz' => h1 x y x' z z' hx hz hz'⟩
  · unfold row at hz hz'
    obtain ⟨x, _, hz⟩ := List.mem_flatMap.1 hz
    obtain ⟨x', _, hz'⟩ := List.mem_flatMap.1 hz'
    exact h2 x y x' y' z z' hy hz hz'
/-- Moved. -/
theorem rows_moved {β : Type} (f : Int → Int → List α) (g : Int → Int → List β) (t : α → β) (p q : Int) (h : ∀ x y, g (x + p) (y + q) = (f x y).map t) (x0 x1 y0 y1 : Int) : rows g (x0 + p) (x1 + p) (y0 + q) (y1 + q) = (rows f x0 x1 y0 y1).map t := by
  have um : ∀ lo hi m : Int, upto (lo + m) (hi + m) = (upto lo hi).map (· + m) := fun lo hi m => by
    unfold upto
    rw [List.map_map, show hi + m - (lo + m) = hi - lo by omega]
    exact List.map_congr_left fun i _ => by simp only [Function.comp]; omega
  unfold rows
  rw [um, List.map_flatMap, List.flatMap_map]
  refine flat_congr fun y _ => ?_
  unfold row
  rw [um, List.map_flatMap, List.flatMap_map]
  exact flat_congr fun x _ => h x y
theorem rows_len (f : Int → Int → List α) (h : ∀ x y, (f x y).length ≤ 1) {x0 x1 y0 y1 : Int} : (rows f x0 x1 y0 y1).length ≤ (x1 - x0).toNat * (y1 - y0).toNat := by
  have fl : ∀ {β : Type} (g : β → List α) (n : Nat) (l : List β), (∀ x ∈ l, (g x).length ≤ n) → (l.flatMap g).length ≤ n * l.length := by
    intro β g n l
    induction l with
    | nil => intro _; simp
    | cons x l ih =>
      intro hh
      have h1 := ih fun y hy => hh y (List.mem_cons_of_mem _ hy)
      have h2 := hh x List.mem_cons_self
      rw [List.flatMap_cons, List.length_append, List.length_cons, Nat.mul_add, Nat.mul_one]
      omega
  have len : ∀ lo hi : Int, (upto lo hi).length = (hi - lo).toNat := fun lo hi => by unfold upto; simp
  have h1 : ∀ y, (row f x0 x1 y).length ≤ (x1 - x0).toNat := fun y => by
    have := fl (fun x => f x y) 1 (upto x0 x1) fun x _ => h x y
    rw [len, Nat.one_mul] at this
    exact this
  have := fl (fun y => row f x0 x1 y) (x1 - x0).toNat (upto y0 y1) fun y _ => h1 y
  rw [len] at this
  exact this
end
end SM
end Go.Proofs.Ytndaijcgjhmiaaa
