/- A line and two parts of it: their pixels, one behind the other, in a rectangle around. -/
import Derived.Test.YtheolajpjpnfjaaXq
namespace Go.Proofs.Ytheolajpjpnfjaa
set_option linter.unusedVariables false
set_option linter.unusedSimpArgs false
namespace DM
/-- Pixels with their numbers. -/
def st (P : List (Int × Int)) : List (Int × Int × Int) := P.zipIdx.map fun z => ((z.2 : Int), z.1.1, z.1.2)
theorem st_len (P : List (Int × Int)) : (st P).length = P.length := by unfold st; simp
theorem st_get (P : List (Int × Int)) (k : Nat) : (st P)[k]? = P[k]?.map fun z => ((k : Int), z.1, z.2) := by
  unfold st
  rw [List.getElem?_map, List.getElem?_zipIdx]
  cases P[k]? <;> simp
theorem steps_st (ax ay bx by_ : Int) : steps ax ay bx by_ = st (pixs ax ay bx by_) := rfl
theorem wth_all {ax ay bx by_ : Int} {r : Nat → Int} (hx : (256 * r 0 + 257 ≤ ax ∧ 256 * r 0 + 257 ≤ bx) ∧ ax < 256 * r 2 ∧ bx < 256 * r 2) (hy : (256 * r 1 + 257 ≤ ay ∧ 256 * r 1 + 257 ≤ by_) ∧ ay < 256 * r 3 ∧ by_ < 256 * r 3) : wth ax ay bx by_ r = steps ax ay bx by_ := by
  unfold wth
  refine List.filter_eq_self.2 fun s hm => ?_
  have := exits_lim ((mem_steps s).1 hm).1
  unfold inR4
  simp only [Bool.and_eq_true, decide_eq_true_eq]
  omega
theorem tdiv_lim (z : Int) : 256 * z.tdiv 256 ≤ z + 255 ∧ z ≤ 256 * z.tdiv 256 + 255 := by
  have e := Int.mul_tdiv_add_tmod z 256
  have a := Int.tmod_lt_of_pos z (show (0 : Int) < 256 by decide)
  have b := Int.lt_tmod_of_pos z (show (0 : Int) < 256 by decide)
  omega
theorem mul_lim {m d : Int} (hm : 0 ≤ m ∧ m < 32) (hd : -100 ≤ d ∧ d ≤ 100) : -3100 ≤ m * d ∧ m * d ≤ 3100 := by
  have h1 := Int.mul_le_mul_of_nonneg_left hd.2 hm.1
  have h2 := Int.mul_le_mul_of_nonneg_left hd.1 hm.1
  omega
theorem between {a m w k c b : Int} (hm : 0 ≤ m) (hk : 0 ≤ k) (hc : a + m * w = c) (hb : c + k * w = b) : (a ≤ c ∧ c ≤ b) ∨ (b ≤ c ∧ c ≤ a) := by
  rcases Int.le_total 0 w with h | h
  · have := Int.mul_nonneg hm h
    have := Int.mul_nonneg hk h
    omega
  · have := Int.mul_nonneg hm (show 0 ≤ -w by omega)
    have := Int.mul_nonneg hk (show 0 ≤ -w by omega)
    rw [Int.mul_neg] at *
    omega
theorem parts14 {ax ay w h m k cx cy bx by_ : Int} {r : Nat → Int} (hm : 0 ≤ m) (hk : 0 ≤ k) (ecx : ax + m * w = cx) (ecy : ay + m * h = cy) (ebx : cx + k * w = bx) (eby : cy + k * h = by_)
    (hx : (256 * r 0 + 257 ≤ ax ∧ 256 * r 0 + 257 ≤ bx) ∧ ax < 256 * r 2 ∧ bx < 256 * r 2) (hy : (256 * r 1 + 257 ≤ ay ∧ 256 * r 1 + 257 ≤ by_) ∧ ay < 256 * r 3 ∧ by_ < 256 * r 3) :
    ∃ P Q : List (Int × Int), (wth ax ay bx by_ r = st (P ++ Q) ∧ wth ax ay cx cy r = st P ∧ wth cx cy bx by_ r = st Q) ∧ cnt14 ax ay cx cy = P.length ∧ cnt14 cx cy bx by_ = Q.length := by
  have bX := between hm hk ecx ebx
  have bY := between hm hk ecy eby
  refine ⟨pixs ax ay cx cy, pixs cx cy bx by_, ⟨?_, ?_, ?_⟩, rfl, rfl⟩
  · rw [wth_all hx hy, steps_st]
    have := pixs_parts (ax := ax) (ay := ay) (w := w) (h := h) hm hk
    rw [show ax + (m * w + k * w) = bx by omega, show ay + (m * h + k * h) = by_ by omega, ecx, ecy] at this
    rw [this]
  · rw [wth_all (by omega) (by omega), steps_st]
  · rw [wth_all (by omega) (by omega), steps_st]
/-- The k-th of both, where it is in the first part. -/
theorem st_fst {P Q : List (Int × Int)} {i : Nat} (h : i < P.length) : ∃ x y : Int, (st (P ++ Q))[i]? = some ((i : Int), x, y) ∧ (st P)[i]? = some ((i : Int), x, y) := by
  obtain ⟨z, hz⟩ : ∃ z, P[i]? = some z := ⟨_, List.getElem?_eq_getElem h⟩
  refine ⟨z.1, z.2, ?_, ?_⟩
  · rw [st_get, List.getElem?_append_left h, hz]
    rfl
  · rw [st_get, hz]
    rfl
theorem st_snd {P Q : List (Int × Int)} {j : Nat} (h : j < Q.length) : ∃ x y : Int, (st (P ++ Q))[P.length + j]? = some (((P.length + j : Nat) : Int), x, y) ∧ (st Q)[j]? = some ((j : Int), x, y) := by
  obtain ⟨z, hz⟩ : ∃ z, Q[j]? = some z := ⟨_, List.getElem?_eq_getElem h⟩
  refine ⟨z.1, z.2, ?_, ?_⟩
  · rw [st_get, List.getElem?_append_right (by omega), show P.length + j - P.length = j by omega, hz]
    rfl
  · rw [st_get, hz]
    rfl
end DM
end Go.Proofs.Ytheolajpjpnfjaa
