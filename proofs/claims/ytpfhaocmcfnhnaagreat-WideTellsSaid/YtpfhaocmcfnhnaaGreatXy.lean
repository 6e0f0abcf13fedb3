/- Plain: bounds of a line's columns; what the program measures. -/
import Derived.Test.YtpfhaocmcfnhnaaGreatXu
namespace Go.Proofs.YtpfhaocmcfnhnaaGreat
open Go.ChangeShapes Go.WideShapes Go.ChangeAt Go.RowKit
set_option linter.unusedVariables false
set_option linter.unusedSimpArgs false

namespace DM
/-- The pixels between both ends along the longer way. -/
def Ud (am bm u : Int) : Prop := (hold am ≤ u ∧ u ≤ hold bm) ∨ (hold bm ≤ u ∧ u ≤ hold am)
theorem ud_lim {am bm u : Int} (h : Ud am bm u) (ha : -536870912 ≤ am ∧ am ≤ 536870912) (hb : -536870912 ≤ bm ∧ bm ≤ 536870912) : (-2097155 ≤ u ∧ u ≤ 2097155) ∧ (-1073742848 ≤ 256 * u + 128 - am ∧ 256 * u + 128 - am ≤ 1073742848) := by
 unfold Ud hold at h
 omega
theorem colY_lim2 {W G T : Int} (hW : 0 < W) (h1 : -(536871168 * W) ≤ T) (h2 : T ≤ 536871168 * W) : -2097155 ≤ colY W G T ∧ colY W G T ≤ 2097155 := by
 have k : ∀ x : Int, -(536871168 * W) ≤ x → x ≤ 536871168 * W → -2097154 ≤ x / (256 * W) ∧ x / (256 * W) ≤ 2097154 := fun x x1 x2 => by
  have a1 := Int.le_ediv_of_mul_le (a := -2097154) (b := x) (c := 256 * W) (by omega) (by omega)
  have a2 := Int.ediv_lt_of_lt_mul (a := x) (b := 2097155) (c := 256 * W) (by omega) (by omega)
  omega
 have p := k T h1 h2
 have q := k (-T) (by omega) (by omega)
 unfold colY
 split <;> omega
theorem far_near {W H ac d : Int} (hW : 0 < W) (h1 : -W ≤ H) (h2 : H ≤ W) (hd1 : -256 ≤ d) (hd2 : d ≤ W + 256) (ha : -536870912 ≤ ac ∧ ac ≤ 536870912) (hb : -536870912 ≤ ac + H ∧ ac + H ≤ 536870912) :
  -(536871168 * W) ≤ ac * W + H * d ∧ ac * W + H * d ≤ 536871168 * W := by
 have a1 := Int.mul_le_mul_of_nonneg_right ha.1 (show 0 ≤ W by omega)
 have a2 := Int.mul_le_mul_of_nonneg_right ha.2 (show 0 ≤ W by omega)
 have b1 := Int.mul_le_mul_of_nonneg_right hb.1 (show 0 ≤ W by omega)
 have b2 := Int.mul_le_mul_of_nonneg_right hb.2 (show 0 ≤ W by omega)
 rw [Int.add_mul] at b1 b2
 rcases (by omega : 0 ≤ H ∨ H < 0) with h | h
 ·
  have c1 := Int.mul_le_mul_of_nonneg_left hd1 h
  have c2 := Int.mul_le_mul_of_nonneg_left hd2 h
  rw [Int.mul_add] at c2
  omega
 ·
  have c1 := Int.mul_le_mul_of_nonneg_left hd1 (show 0 ≤ -H by omega)
  have c2 := Int.mul_le_mul_of_nonneg_left hd2 (show 0 ≤ -H by omega)
  rw [Int.mul_add] at c2
  simp only [Int.neg_mul] at c1 c2
  omega
theorem col_near {t : Bool} {am ac bm bc u : Int} (hw : way am ac bm bc) (hu : Ud am bm u) (ha : -536870912 ≤ ac ∧ ac ≤ 536870912) (hb : -536870912 ≤ bc ∧ bc ≤ 536870912) : -2097155 ≤ colV t am ac bm bc u ∧ colV t am ac bm bc u ≤ 2097155 := by
 unfold Ud hold at hu
 have e := fun (W H : Int) => (show W * ac - H * rel am u = ac * W + H * (256 * u + 128 - am) by
  unfold rel
  simp only [Int.mul_sub, Int.sub_mul, Int.mul_add, Int.add_mul, Int.mul_comm, Int.mul_left_comm]
  omega)
 unfold colV colA
 rcases hw with ⟨h1, h2, h3⟩ | ⟨h1, h2, h3⟩
 ·
  rw [if_pos h1, e]
  have := far_near (W := bm - am) (H := bc - ac) (ac := ac) (d := 256 * u + 128 - am) (by omega) (by omega) (by omega) (by omega) (by omega) ha (by omega)
  exact colY_lim2 (by omega) this.1 this.2
 ·
  rw [if_neg (show ¬ am < bm by omega), turn_T, e]
  have h9 : -(256 * u + 128 - am) ≤ am - bm + 256 ∧ 256 * u + 128 - am ≤ 256 := by omega
  have hneg : (ac - bc) * (256 * u + 128 - am) = -(ac - bc) * -(256 * u + 128 - am) := by rw [Int.neg_mul_neg]
  rw [hneg]
  have := far_near (W := am - bm) (H := -(ac - bc)) (ac := ac) (d := -(256 * u + 128 - am)) (by omega) (by omega) (by omega) (by omega) (by omega) ha (by omega)
  exact colY_lim2 (by omega) this.1 this.2
/-- The line's pixel in a column. -/
def pxl (t : Bool) (am ac bm bc u : Int) : Int × Int := (mn t u (colV t am ac bm bc u), cr t u (colV t am ac bm bc u))
theorem last_is (t : Bool) (am ac bm bc : Int) : fst1 t am ac bm bc + (cn1 t am ac bm bc - 1) * stp am bm = hold bm := by
 unfold fst1 cn1 cn0 stp
 split <;> split <;> omega
theorem ud_a (am bm : Int) : Ud am bm (hold am) := by unfold Ud; omega
theorem ud_b (am bm : Int) : Ud am bm (hold bm) := by unfold Ud; omega
theorem ud_k {t : Bool} {am ac bm bc k : Int} (h0 : 0 ≤ k) (h1 : k < cn1 t am ac bm bc) : Ud am bm (fst1 t am ac bm bc + k * stp am bm) := by
 unfold fst1 cn1 cn0 stp at *
 unfold Ud
 split at h1 <;> split at h1 <;> split <;> omega
theorem cn2_le (t : Bool) (am ac bm bc : Int) : cn2 t am ac bm bc ≤ cn1 t am ac bm bc := by unfold cn2; split <;> omega
/-- What the program knows of a line. -/
def Lin (ax ay bx by_ f s n : Int) : Prop := n = cnt14 ax ay bx by_ ∧ (s = 1 ∨ s = -1) ∧ (-2097160 ≤ f ∧ f ≤ 2097160) ∧ (0 ≤ n ∧ n ≤ 4194320) ∧
 ∀ k, 0 ≤ k → k < n → ¬ (ax = bx ∧ ay = by_) ∧ Ud (mn (tall (bx - ax) (by_ - ay)) ax ay) (mn (tall (bx - ax) (by_ - ay)) bx by_) (f + k * s) ∧
  (pixs ax ay bx by_)[k.toNat]? = some (pxl (tall (bx - ax) (by_ - ay)) (mn (tall (bx - ax) (by_ - ay)) ax ay) (cr (tall (bx - ax) (by_ - ay)) ax ay) (mn (tall (bx - ax) (by_ - ay)) bx by_) (cr (tall (bx - ax) (by_ - ay)) bx by_) (f + k * s))
theorem lin_same (ax ay : Int) : Lin ax ay ax ay 0 1 0 := ⟨(cnt14_same ax ay).symm, .inl rfl, by omega, by omega, fun k h0 h1 => by omega⟩
theorem lin_is {ax ay bx by_ : Int} (hn : ¬ (ax = bx ∧ ay = by_)) {t : Bool} {am ac bm bc : Int} (ht : tall (bx - ax) (by_ - ay) = t) (e1 : mn t ax ay = am) (e2 : cr t ax ay = ac) (e3 : mn t bx by_ = bm) (e4 : cr t bx by_ = bc)
  (ha : -536870912 ≤ am ∧ am ≤ 536870912) (hb : -536870912 ≤ bm ∧ bm ≤ 536870912) : Lin ax ay bx by_ (fst1 t am ac bm bc) (stp am bm) (cn2 t am ac bm bc) := by
 have W := way_of hn
 have hc := cnt14_is hn
 rw [ht, e1, e2, e3, e4] at W hc
 obtain ⟨m1, m2⟩ := @cn2_is t am ac bm bc W
 have hpos := @cntG_pos t am ac bm bc W
 have hl := cn2_le t am ac bm bc
 refine ⟨by rw [hc, m1], by unfold stp; split <;> simp, ?_, ?_, fun k h0 h1 => ⟨hn, ?_, ?_⟩⟩
 ·
  have hs : stp am bm = 1 ∨ stp am bm = -1 := by unfold stp; split <;> simp
  unfold fst1 hold
  split <;> omega
 ·
  have := @cn0_lim am bm
  unfold hold at this
  have c1 : cn1 t am ac bm bc ≤ cn0 am bm := by unfold cn1; split <;> omega
  omega
 ·
  rw [ht, e1, e3]
  exact ud_k h0 (by omega)
 ·
  rw [ht, e1, e2, e3, e4]
  have hp := m2 k h0 (by omega)
  have hat := at14_in hn h0 (by rw [hc]; omega)
  rw [ht, e1, e2, e3, e4] at hat
  have hpx : pixs ax ay bx by_ = (List.range (cntG t am ac bm bc).toNat).map (pixG t am ac bm bc) := by
   unfold pixs
   rw [if_neg hn, ht, e1, e2, e3, e4]
  rw [hpx, List.getElem?_map, List.getElem?_range (by omega)]
  simp only [Option.map_some, Option.some.injEq]
  rw [pixG_pl W h0 hp, yy_col W (by omega) (by unfold cntG at m1; omega)]
  rfl
end DM
end Go.Proofs.YtpfhaocmcfnhnaaGreat
