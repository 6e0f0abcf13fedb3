/- Plain: dashes: which pixels are lit, a dash so many pixels later, runs. Types: dashes, runs. Contracts: the document's Right, Next, Lit; far. Contracts: the program's isFrom, Right, isAsked, isLit, Lit, Next. -/
import Derived.Test.YtndaijcgjhmiaaaL2
import Derived.Test.YtndaijcgjhmiaaaTy
import Derived.Test.YtndaijcgjhmiaaaLa
import Derived.Test.YtndaijcgjhmiaaaNb
namespace Go.Proofs.Ytndaijcgjhmiaaa
set_option linter.unusedVariables false
namespace HM
/-- May a dash be? -/
def rightP (p r c : Int) : Prop := (0 ≤ p ∧ p ≤ 65535) ∧ (1 ≤ r ∧ r ≤ 256) ∧ (0 ≤ c ∧ c ≤ 1099511627776)
/-- The number of a pixel's bit. -/
def bit (r c k : Int) : Int := (c + k) / r % 16
/-- A number, halved so many times. -/
def half (p : Int) : Nat → Int
  | 0 => p
  | n + 1 => half p n / 2
theorem half_succ (p : Int) (n : Nat) : half p (n + 1) = half p n / 2 := rfl
theorem half_pow (p : Int) : ∀ n : Nat, half p n = p / 2 ^ n
  | 0 => by simp [half]
  | n + 1 => by
    rw [half, half_pow p n, Int.ediv_ediv_of_nonneg (Int.le_of_lt (Int.pow_pos (by decide))), Int.pow_succ]
theorem half_lim {p : Int} (h0 : 0 ≤ p) (h1 : p ≤ 65535) : ∀ n : Nat, 0 ≤ half p n ∧ half p n ≤ 65535
  | 0 => ⟨h0, h1⟩
  | n + 1 => by
    have := half_lim h0 h1 n
    unfold half
    omega
/-- Is a pixel lit? -/
def lit (p r c k : Int) : Bool := half p (bit r c k).toNat % 2 == 1
def later (r c n : Int) : Int := (c + n) % (16 * r)
theorem bit_lim {r c k : Int} : 0 ≤ bit r c k ∧ bit r c k < 16 := by unfold bit; omega
theorem mod_div {x r : Int} (hr : 0 < r) : x % (16 * r) / r = x / r % 16 := by
  have e1 := Int.mul_ediv_add_emod x (16 * r)
  have e2 := Int.mul_ediv_add_emod (x / r) 16
  have e3 : x / (16 * r) = x / r / 16 := by rw [Int.mul_comm, Int.ediv_ediv_of_nonneg (by omega)]
  have e4 : x % (16 * r) = x - 16 * r * (x / (16 * r)) := by omega
  rw [e4, e3, show x - 16 * r * (x / r / 16) = x + r * (-(16 * (x / r / 16))) by rw [Int.mul_neg, Int.mul_left_comm, Int.mul_assoc]; omega, Int.add_mul_ediv_left _ _ (by omega)]
  omega
theorem bit_later {r c n k : Int} (hr : 0 < r) : bit r (later r c n) k = bit r c (n + k) := by
  unfold bit later
  rw [← mod_div hr, ← mod_div hr, Int.emod_add_emod, Int.add_assoc]
theorem lit_later {p r c n k : Int} (hr : 0 < r) : lit p r (later r c n) k = lit p r c (n + k) := by
  unfold lit
  rw [bit_later hr]
theorem lit_again {p r c k : Int} (hr : 0 < r) : lit p r c (k + 16 * r) = lit p r c k := by
  have : bit r c (k + 16 * r) = bit r c k := by
    unfold bit
    rw [← mod_div hr, ← mod_div hr, ← Int.add_assoc, Int.add_emod_right]
  unfold lit
  rw [this]
theorem later_later {r c n k : Int} : later r (later r c n) k = later r c (n + k) := by
  unfold later
  rw [Int.emod_add_emod, Int.add_assoc]
theorem later_lim {r c n : Int} (h1 : 1 ≤ r) (h2 : r ≤ 256) : 0 ≤ later r c n ∧ later r c n < 4096 := by
  unfold later
  have a := Int.emod_nonneg (c + n) (show 16 * r ≠ 0 by omega)
  have b := Int.emod_lt_of_pos (c + n) (show 0 < 16 * r by omega)
  omega
/-- Runs of what is lit of the first n. -/
def runs (f : Nat → Bool) : Nat → List (Nat × Nat)
  | 0 => []
  | n + 1 => if f n then (match (runs f n).getLast? with
      | some z => if z.2 = n then (runs f n).dropLast ++ [(z.1, n + 1)] else runs f n ++ [(n, n + 1)]
      | none => [(n, n + 1)]) else runs f n
/-- What runs are: rising, as long as they can be, each pixel that is lit. -/
def Sep : List (Nat × Nat) → Prop := List.Pairwise (fun x y => x.2 < y.1)
def Is (f : Nat → Bool) (n : Nat) (l : List (Nat × Nat)) : Prop := Sep l ∧ (∀ x ∈ l, x.1 < x.2 ∧ x.2 ≤ n) ∧ ∀ k, (∃ x ∈ l, x.1 ≤ k ∧ k < x.2) ↔ k < n ∧ f k = true
theorem rising_one {α : Type} (f : α → Nat) : ∀ {l r : List α}, l.Pairwise (fun x y => f x < f y) → r.Pairwise (fun x y => f x < f y) → (∀ x, x ∈ l ↔ x ∈ r) → l = r
  | [], [], _, _, _ => rfl
  | [], y :: r, _, _, h => absurd ((h y).2 List.mem_cons_self) (by simp)
  | x :: l, [], _, _, h => absurd ((h x).1 List.mem_cons_self) (by simp)
  | x :: l, y :: r, hl, hr, h => by
    rw [List.pairwise_cons] at hl hr
    have e : x = y := by
      have h1 := (h x).1 List.mem_cons_self
      have h2 := (h y).2 List.mem_cons_self
      rcases List.mem_cons.1 h1 with e | h1
      · exact e
      · rcases List.mem_cons.1 h2 with e | h2
        · exact e.symm
        · have a := hr.1 x h1
          have b := hl.1 y h2
          omega
    subst e
    congr 1
    refine rising_one f hl.2 hr.2 fun z => ⟨fun hz => ?_, fun hz => ?_⟩
    · rcases List.mem_cons.1 ((h z).1 (List.mem_cons_of_mem _ hz)) with e | h1
      · subst e
        have := hl.1 z hz
        omega
      · exact h1
    · rcases List.mem_cons.1 ((h z).2 (List.mem_cons_of_mem _ hz)) with e | h1
      · subst e
        have := hr.1 z hz
        omega
      · exact h1
/-- A run that is as long as it can be. -/
def Run (f : Nat → Bool) (n : Nat) (x : Nat × Nat) : Prop := (x.1 < x.2 ∧ x.2 ≤ n) ∧ (∀ k, x.1 ≤ k → k < x.2 → f k = true) ∧ (0 < x.1 → f (x.1 - 1) = false) ∧ (x.2 < n → f x.2 = false)
theorem sep_two {l : List (Nat × Nat)} (h : Sep l) {x y : Nat × Nat} (hx : x ∈ l) (hy : y ∈ l) : x = y ∨ x.2 < y.1 ∨ y.2 < x.1 := by
  induction l with
  | nil => cases hx
  | cons a l ih =>
    unfold Sep at h ih
    rw [List.pairwise_cons] at h
    rcases List.mem_cons.1 hx with e1 | h1
    · rcases List.mem_cons.1 hy with e2 | h2
      · exact .inl (e1.trans e2.symm)
      · exact .inr (.inl (by rw [e1]; exact h.1 y h2))
    · rcases List.mem_cons.1 hy with e2 | h2
      · exact .inr (.inr (by rw [e2]; exact h.1 x h1))
      · exact ih h.2 h1 h2
theorem mem_run {f : Nat → Bool} {n : Nat} {l : List (Nat × Nat)} (h : Is f n l) (x : Nat × Nat) : x ∈ l ↔ Run f n x := by
  obtain ⟨h1, h2, h3⟩ := h
  have key : ∀ x ∈ l, Run f n x := fun x hx => by
    obtain ⟨a, b⟩ := h2 x hx
    refine ⟨⟨a, b⟩, fun k k1 k2 => ((h3 k).1 ⟨x, hx, k1, k2⟩).2, fun h0 => ?_, fun hn => ?_⟩
    · rw [← Bool.not_eq_true]
      intro hf
      obtain ⟨y, hy, y1, y2⟩ := (h3 (x.1 - 1)).2 ⟨by omega, hf⟩
      rcases sep_two h1 hx hy with rfl | h | h <;> omega
    · rw [← Bool.not_eq_true]
      intro hf
      obtain ⟨y, hy, y1, y2⟩ := (h3 x.2).2 ⟨hn, hf⟩
      rcases sep_two h1 hx hy with rfl | h | h <;> omega
  refine ⟨key x, fun ⟨⟨a, b⟩, c, d, e⟩ => ?_⟩
  obtain ⟨y, hy, y1, y2⟩ := (h3 x.1).2 ⟨by omega, c x.1 (Nat.le_refl _) a⟩
  obtain ⟨⟨a', b'⟩, c', d', e'⟩ := key y hy
  have e1 : y.1 = x.1 := by
    rcases Nat.lt_or_ge y.1 x.1 with h | h
    · have h4 := d (by omega)
      rw [c' (x.1 - 1) (by omega) (by omega)] at h4
      cases h4
    · omega
  have e2 : y.2 = x.2 := by
    rcases Nat.lt_trichotomy y.2 x.2 with h | h | h
    · have h4 := e' (by omega)
      rw [c y.2 (by omega) h] at h4
      cases h4
    · exact h
    · have h4 := e (by omega)
      rw [c' x.2 (by omega) h] at h4
      cases h4
  have e3 : y = x := Prod.ext e1 e2
  rw [← e3]
  exact hy
theorem is_rising {f : Nat → Bool} {n : Nat} {l : List (Nat × Nat)} (h : Is f n l) : l.Pairwise (fun x y => x.1 < y.1) :=
  (List.Pairwise.and_mem.1 h.1).imp fun {x y} ⟨hx, hy, hxy⟩ => by have := h.2.1 x hx; omega
theorem is_one {f : Nat → Bool} {n : Nat} {l m : List (Nat × Nat)} (h : Is f n l) (h' : Is f n m) : l = m :=
  rising_one (fun x => x.1) (is_rising h) (is_rising h') fun x => by rw [mem_run h, mem_run h']
theorem runs_none {f : Nat → Bool} {n : Nat} (h : f n = false) : runs f (n + 1) = runs f n := by rw [runs, if_neg (by rw [h]; decide)]
theorem runs_nil {f : Nat → Bool} {n : Nat} (h : f n = true) (hr : runs f n = []) : runs f (n + 1) = [(n, n + 1)] := by
  rw [runs, if_pos h, hr]
  rfl
theorem runs_on {f : Nat → Bool} {n : Nat} {l : List (Nat × Nat)} {z : Nat × Nat} (h : f n = true) (hr : runs f n = l ++ [z]) (hz : z.2 = n) : runs f (n + 1) = l ++ [(z.1, n + 1)] := by
  rw [runs, if_pos h, hr, List.getLast?_concat]
  dsimp only
  rw [if_pos hz, List.dropLast_concat]
theorem runs_new {f : Nat → Bool} {n : Nat} {l : List (Nat × Nat)} {z : Nat × Nat} (h : f n = true) (hr : runs f n = l ++ [z]) (hz : z.2 ≠ n) : runs f (n + 1) = l ++ [z] ++ [(n, n + 1)] := by
  rw [runs, if_pos h, hr, List.getLast?_concat]
  dsimp only
  rw [if_neg hz]
theorem runs_is (f : Nat → Bool) : ∀ n, Is f n (runs f n)
  | 0 => ⟨List.Pairwise.nil, fun x hx => (by cases hx), fun k => ⟨fun ⟨x, hx, _⟩ => (by cases hx), fun h => absurd h.1 (Nat.not_lt_zero k)⟩⟩
  | n + 1 => by
    have ih := runs_is f n
    cases hf : f n
    · rw [runs_none hf]
      refine ⟨ih.1, fun x hx => ⟨(ih.2.1 x hx).1, Nat.le_succ_of_le (ih.2.1 x hx).2⟩, fun k => ?_⟩
      rw [ih.2.2 k]
      refine ⟨fun h => ⟨by omega, h.2⟩, fun h => ⟨?_, h.2⟩⟩
      rcases Nat.lt_or_ge k n with h4 | h4
      · exact h4
      · have : k = n := by omega
        rw [this, hf] at h
        cases h.2
    · rcases List.eq_nil_or_concat (runs f n) with hr | ⟨l, z, hr⟩
      · rw [runs_nil hf hr]
        rw [hr] at ih
        refine ⟨List.pairwise_singleton _ _, fun x hx => by rw [List.mem_singleton.1 hx]; exact ⟨Nat.lt_succ_self n, Nat.le_refl _⟩, fun k => ⟨?_, fun h => ?_⟩⟩
        · rintro ⟨x, hx, h1, h2⟩
          rw [List.mem_singleton.1 hx] at h1 h2
          dsimp only at h1 h2
          rw [show k = n by omega]
          exact ⟨Nat.lt_succ_self n, hf⟩
        · rcases Nat.lt_or_ge k n with h4 | h4
          · obtain ⟨x, hx, _⟩ := (ih.2.2 k).2 ⟨h4, h.2⟩
            cases hx
          · exact ⟨_, List.mem_singleton.2 rfl, h4, h.1⟩
      · rw [List.concat_eq_append] at hr
        have hz := ih.2.1 z (by rw [hr]; simp)
        have hs := ih.1
        rw [hr] at hs
        unfold Sep at hs
        rw [List.pairwise_append] at hs
        by_cases he : z.2 = n
        · rw [runs_on hf hr he]
          refine ⟨?_, fun x hx => ?_, fun k => ⟨?_, fun h => ?_⟩⟩
          · unfold Sep
            rw [List.pairwise_append]
            refine ⟨hs.1, List.pairwise_singleton _ _, fun x hx y hy => ?_⟩
            rw [List.mem_singleton.1 hy]
            exact hs.2.2 x hx z (List.mem_singleton.2 rfl)
          · rcases List.mem_append.1 hx with hx | hx
            · have := ih.2.1 x (by rw [hr]; exact List.mem_append_left _ hx)
              omega
            · rw [List.mem_singleton.1 hx]
              dsimp only
              omega
          · rintro ⟨x, hx, h1, h2⟩
            rcases List.mem_append.1 hx with hx | hx
            · have := (ih.2.2 k).1 ⟨x, by rw [hr]; exact List.mem_append_left _ hx, h1, h2⟩
              exact ⟨by omega, this.2⟩
            · rw [List.mem_singleton.1 hx] at h1 h2
              dsimp only at h1 h2
              rcases Nat.lt_or_ge k n with h4 | h4
              · exact ⟨by omega, ((ih.2.2 k).1 ⟨z, by rw [hr]; simp, h1, by omega⟩).2⟩
              · rw [show k = n by omega]
                exact ⟨Nat.lt_succ_self n, hf⟩
          · rcases Nat.lt_or_ge k n with h4 | h4
            · obtain ⟨x, hx, h1, h2⟩ := (ih.2.2 k).2 ⟨h4, h.2⟩
              rw [hr] at hx
              rcases List.mem_append.1 hx with hx | hx
              · exact ⟨x, List.mem_append_left _ hx, h1, h2⟩
              · rw [List.mem_singleton.1 hx] at h1 h2
                exact ⟨_, List.mem_append_right _ (List.mem_singleton.2 rfl), h1, by dsimp only; omega⟩
            · exact ⟨_, List.mem_append_right _ (List.mem_singleton.2 rfl), by dsimp only; omega, h.1⟩
        · rw [runs_new hf hr he]
          refine ⟨?_, fun x hx => ?_, fun k => ⟨?_, fun h => ?_⟩⟩
          · unfold Sep
            rw [← hr, List.pairwise_append]
            refine ⟨ih.1, List.pairwise_singleton _ _, fun x hx y hy => ?_⟩
            rw [List.mem_singleton.1 hy]
            rw [hr] at hx
            dsimp only
            rcases List.mem_append.1 hx with hx | hx
            · have := hs.2.2 x hx z (List.mem_singleton.2 rfl)
              omega
            · rw [List.mem_singleton.1 hx]
              omega
          · rw [← hr] at hx
            rcases List.mem_append.1 hx with hx | hx
            · have := ih.2.1 x hx
              omega
            · rw [List.mem_singleton.1 hx]
              dsimp only
              omega
          · rintro ⟨x, hx, h1, h2⟩
            rw [← hr] at hx
            rcases List.mem_append.1 hx with hx | hx
            · have := (ih.2.2 k).1 ⟨x, hx, h1, h2⟩
              exact ⟨by omega, this.2⟩
            · rw [List.mem_singleton.1 hx] at h1 h2
              dsimp only at h1 h2
              rw [show k = n by omega]
              exact ⟨Nat.lt_succ_self n, hf⟩
          · rw [← hr]
            rcases Nat.lt_or_ge k n with h4 | h4
            · obtain ⟨x, hx, h1, h2⟩ := (ih.2.2 k).2 ⟨h4, h.2⟩
              exact ⟨x, List.mem_append_left _ hx, h1, h2⟩
            · exact ⟨_, List.mem_append_right _ (List.mem_singleton.2 rfl), h4, h.1⟩
/-- Where all runs ahead of one have ended, and it has not, a pixel is lit just if that one has begun. -/
theorem lit_at {f : Nat → Bool} {n : Nat} {l : List (Nat × Nat)} (h : Is f n l) {k i : Nat} {x : Nat × Nat} (hk : k < n) (hx : l[i]? = some x) (hb : ∀ j y, j < i → l[j]? = some y → y.2 ≤ k) (he : k < x.2) : f k = decide (x.1 ≤ k) := by
  rw [Bool.eq_iff_iff, decide_eq_true_iff]
  constructor
  · intro hf
    obtain ⟨y, hy, h1, h2⟩ := (h.2.2 k).2 ⟨hk, hf⟩
    obtain ⟨j, hj⟩ := List.mem_iff_getElem?.1 hy
    rcases Nat.lt_trichotomy j i with hji | hji | hji
    · have := hb j y hji hj
      omega
    · subst hji
      rw [hj] at hx
      obtain rfl := Option.some.inj hx
      exact h1
    · obtain ⟨li, ei⟩ := List.getElem?_eq_some_iff.1 hx
      obtain ⟨lj, ej⟩ := List.getElem?_eq_some_iff.1 hj
      have := List.pairwise_iff_getElem.1 h.1 i j li lj hji
      rw [ei, ej] at this
      omega
  · intro h1
    exact ((h.2.2 k).1 ⟨x, List.mem_of_getElem? hx, h1, he⟩).2
theorem lit_end {f : Nat → Bool} {n : Nat} {l : List (Nat × Nat)} (h : Is f n l) {k : Nat} (hk : k < n) (hb : ∀ j y, j < l.length → l[j]? = some y → y.2 ≤ k) : f k = false := by
  rw [← Bool.not_eq_true]
  intro hf
  obtain ⟨y, hy, h1, h2⟩ := (h.2.2 k).2 ⟨hk, hf⟩
  obtain ⟨j, hj⟩ := List.mem_iff_getElem?.1 hy
  have := hb j y (List.getElem?_eq_some_iff.1 hj).1 hj
  omega
theorem sep_at {f : Nat → Bool} {n : Nat} {l : List (Nat × Nat)} (h : Is f n l) {i : Nat} {x y : Nat × Nat} (hx : l[i]? = some x) (hy : l[i + 1]? = some y) : x.2 < y.1 := by
  obtain ⟨li, ei⟩ := List.getElem?_eq_some_iff.1 hx
  obtain ⟨lj, ej⟩ := List.getElem?_eq_some_iff.1 hy
  have := List.pairwise_iff_getElem.1 h.1 i (i + 1) li lj (Nat.lt_succ_self i)
  rw [ei, ej] at this
  exact this
/-- No more runs than pixels. -/
theorem runs_len (f : Nat → Bool) : ∀ n, (runs f n).length ≤ n
  | 0 => Nat.le_refl _
  | n + 1 => by
    have ih := runs_len f n
    cases hf : f n
    · rw [runs_none hf]
      omega
    · rcases List.eq_nil_or_concat (runs f n) with hr | ⟨l, z, hr⟩
      · rw [runs_nil hf hr]
        simp
      · rw [List.concat_eq_append] at hr
        rw [hr] at ih
        by_cases he : z.2 = n
        · rw [runs_on hf hr he]
          simp at ih ⊢
          omega
        · rw [runs_new hf hr he]
          simp at ih ⊢
          omega
end HM
end Go.Proofs.Ytndaijcgjhmiaaa
namespace Go.Proofs.Ytndaijcgjhmiaaa
open Go.ChangeShapes Go.WideShapes Go.ChangeAt Go.RowKit
set_option linter.unusedVariables false
set_option linter.unusedSimpArgs false

namespace HM
def t2 (x y : Int) (i : Nat) : Int := if i = 0 then x else y
def t3 (x y z : Int) (i : Nat) : Int := if i = 0 then x else if i = 1 then y else z
end HM
section
variable {ops : Array Oper} {Q : Exit → Act → World → Prop} {a : Act} {w : World} {rest : List Oper} {dst : Option Tmp} {ty : TypeId} {pos : String} {after : Array Edge} {K : Act → World → Prop}
end
end Go.Proofs.Ytndaijcgjhmiaaa
namespace Go.Proofs.Ytndaijcgjhmiaaa
open Go.ChangeShapes Go.WideShapes Go.ChangeAt Go.RowKit
set_option linter.unusedVariables false
set_option linter.unusedSimpArgs false

namespace HM
def right (d : Nat → Int) : Bool := decide (0 ≤ d 0) && (decide (d 0 ≤ 65535) && (decide (1 ≤ d 1) && (decide (d 1 ≤ 256) && (decide (0 ≤ d 2) && decide (d 2 ≤ 1099511627776)))))
theorem right_is {d : Nat → Int} {p r c : Int} (h0 : d 0 = p) (h1 : d 1 = r) (h2 : d 2 = c) : right d = (decide (0 ≤ p) && (decide (p ≤ 65535) && (decide (1 ≤ r) && (decide (r ≤ 256) && (decide (0 ≤ c) && decide (c ≤ 1099511627776)))))) := by rw [right, h0, h1, h2]
theorem right_iff {d : Nat → Int} : right d = true ↔ (0 ≤ d 0 ∧ d 0 ≤ 65535) ∧ (1 ≤ d 1 ∧ d 1 ≤ 256) ∧ (0 ≤ d 2 ∧ d 2 ≤ 1099511627776) := by
  simp only [right, Bool.and_eq_true, decide_eq_true_eq]
  omega
def far (n : Int) : Bool := decide (n < 0) || decide (1099511627776 < n)
theorem far_iff {n : Int} : far n = false ↔ 0 ≤ n ∧ n ≤ 1099511627776 := by
  simp only [far, Bool.or_eq_false_iff, decide_eq_false_iff_not]
  omega
def nextF (d : Nat → Int) (n : Int) : Nat → Int := t3 (d 0) (d 1) (later (d 1) (d 2) n)
def litF (d : Nat → Int) (k : Int) : Bool := lit (d 0) (d 1) (d 2) k
end HM
end Go.Proofs.Ytndaijcgjhmiaaa
namespace Go.Proofs.Ytndaijcgjhmiaaa
open Go.ChangeShapes Go.WideShapes Go.ChangeAt Go.RowKit
set_option linter.unusedVariables false
set_option linter.unusedSimpArgs false

namespace HM
theorem right_three {d : Nat → Int} {p r c : Int} {z0 z1 z2 : Bool} (h0 : d 0 = p) (h1 : d 1 = r) (h2 : d 2 = c) (e0 : (decide (0 ≤ p) && decide (p ≤ 65535)) = z0) (e1 : (decide (1 ≤ r) && decide (r ≤ 256)) = z1) (e2 : (decide (0 ≤ c) && decide (c ≤ 1099511627776)) = z2) : right d = (z0 && (z1 && z2)) := by
  rw [right_is h0 h1 h2, ← e0, ← e1, ← e2]
  simp only [Bool.and_assoc]
end HM
namespace HM
def near (n : Int) : Bool := decide (0 ≤ n) && decide (n ≤ 1099511627776)
theorem near_of {n : Int} (h : 0 ≤ n ∧ n ≤ 1099511627776) : near n = true := by simp [near, h.1, h.2]
end HM
theorem and_one {x : Int} (h0 : 0 ≤ x) (h1 : x < 9223372036854775808) : bits BinOp.and IntKind.i64 x 1 = x % 2 := by
  obtain ⟨n, rfl⟩ : ∃ n : Nat, x = n := ⟨x.toNat, by omega⟩
  have e1 : (BitVec.ofInt 64 (n : Int)).toNat = n := by
    rw [BitVec.ofInt_natCast, BitVec.toNat_ofNat]
    exact Nat.mod_eq_of_lt (by omega)
  have e2 : (BitVec.ofInt 64 (1 : Int)).toNat = 1 := by decide
  show IntKind.i64.wrap ((BitVec.ofInt 64 (n : Int) &&& BitVec.ofInt 64 (1 : Int)).toNat : Int) = _
  rw [BitVec.toNat_and, e1, e2, Nat.and_one_is_mod, IntWalk.i64_in _ (by omega)]
  omega
end Go.Proofs.Ytndaijcgjhmiaaa
