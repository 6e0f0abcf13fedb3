/- Contract: the library's Search. -/
import Derived.Test.YtheolajpjpnfjaaYa
import Derived.RangeFuncNested
import Derived.Shelf.Abstract
namespace Go.Proofs.Ytheolajpjpnfjaa
open Go.ChangeShapes Go.WideShapes Go.ChangeAt Go.RowKit
set_option linter.unusedVariables false
set_option linter.unusedSimpArgs false

set_option maxRecDepth 100000 in
set_option maxHeartbeats 8000000 in
theorem search_any (n : Int) (hn0 : 0 ≤ n) (hn1 : n ≤ 4194320) (gl gr : Nat) (prd : Int → Bool) (R : World → Prop)
    (hR : ∀ k, 0 ≤ k → k < n → ∀ w, R w → Calls Try.prog 38 #[.int .i64 k, .pointer (some ⟨gl, 0, none⟩), .pointer (some ⟨gr, 0, none⟩)] w fun e w' => e = .returned (.bool (prd k)) ∧ Below w.heap.size w w')
    (hRb : ∀ w w', R w → Below w.heap.size w w' → R w') (w : World) (h0 : R w) :
    Calls Try.prog 37 #[.int .i64 n, .func (.func 38) #[] #[.pointer (some ⟨gl, 0, none⟩), .pointer (some ⟨gr, 0, none⟩)]] w fun e w' => ∃ i : Int, e = .returned (.int .i64 i) ∧ (0 ≤ i ∧ i ≤ n) ∧ (0 < i → prd (i - 1) = false) ∧ (i < n → prd i = true) ∧ Below w.heap.size w w' := by
  have hcf : ∀ args w, (callFunc 38 args).run Try.prog w = .ok (.enter 38 args) w := enters_of Try.func38 (by kernel_rfl) rfl
  replace hR := Lib.hid hR
  replace hRb := Lib.hid hRb
  go_enter Try.func37, Try.ntmps37
  go_wp2_with fail
  go_loopw [5, 6, 7] (fun t5 t6 t7 wr => ∃ i j : Int, t5 = .int .i64 i ∧ t6 = .int .i64 j ∧ (0 ≤ i ∧ i ≤ j ∧ j ≤ n) ∧ (0 < i → prd (i - 1) = false) ∧ (j < n → prd j = true) ∧ R wr ∧ Below w.heap.size w wr) (fun t5 t6 t7 _ => (intOf t6 - intOf t5).toNat)
  case atStart => exact ⟨0, n, rfl, rfl, ⟨Int.le_refl _, hn0, Int.le_refl _⟩, fun h => absurd h (by decide), fun h => absurd h (by omega), h0, Below.refl _ _⟩
  case round =>
    obtain ⟨i, j, rfl, rfl, ⟨i0, ij, jn⟩, pi, pj, hRw, hb⟩ := hrel
    replace pi := Lib.hid pi
    replace pj := Lib.hid pj
    by_cases hlt : i < j
    · obtain ⟨h, hh⟩ : ∃ h, (i + j) / 2 = h := ⟨_, rfl⟩
      have lh : i ≤ h ∧ h < j := by omega
      have hh2 := Lib.hid hh
      go_wp2_with fail
      clear hh
      refine (hR.out h (by omega) (by omega) wr hRw).mono ?_
      rintro e w2 ⟨rfl, hb2⟩
      have hR2 := hRb.out _ _ hRw hb2
      have hb3 := hb.trans (hb2.mono hb.size)
      cases hp : prd h
      · have HP := Lib.hid hp
        clear hp
        have W1 : wrap64 (h + 1) = h + 1 := IntWalk.wrap64_in _ (by omega)
        go_wp2_with fail
        go_roundw
        case rel => exact ⟨h + 1, j, by go_num, rfl, ⟨by omega, by omega, jn⟩, fun _ => by rw [show h + 1 - 1 = h by omega]; exact HP.out, pj.out, hR2, hb3⟩
        case measure => simp [intOf]; omega
      · have HP := Lib.hid hp
        clear hp
        go_wp2_with fail
        go_roundw
        case rel => exact ⟨i, h, rfl, rfl, ⟨by omega, by omega, by omega⟩, pi.out, fun _ => HP.out, hR2, hb3⟩
        case measure => simp [intOf]; omega
    · go_wp2_with fail
      obtain rfl : i = j := by omega
      go_ret
      exact ⟨i, rfl, ⟨i0, jn⟩, pi.out, pj.out, hb⟩
end Go.Proofs.Ytheolajpjpnfjaa
