/- Contracts of the program's numbers of 128 bits: Of, Small, Sign, Cmp, Neg, Add, Sub, Mul, and of what they call. Contract of the document's Small. Contracts of products: math/bits.Mul64, Mul, and what Times calls. The library contracts of math/bits.Len64 and LeadingZeros64 at this seat's numbers. Contract of math/bits.Div64: a number of two words divided by a word that is greater than the upper one. Contracts of Div and Ratio. The last step of a statement's row, where the world is known by Below alone; a struct of two words by value, opened and shut. -/
import Derived.Test.YtdkppkdoconfhaaRows
import Derived.Test.YtdkppkdoconfhaaL1
import Derived.WalkKit
import Derived.ProofKit
import Derived.OpenShut
import Derived.Outline
import Derived.WalkLawsBesides
import Derived.Laws.Externs
import Derived.Lib.Hide
import Derived.Below
import Derived.Deep.QuietTactic
import Derived.BigQuiet
import Derived.Deep.RegionHeld3
import Derived.Shelf.Spec.BitsCarry
import Derived.Shelf.Bits.Mul64
import Derived.Shelf.Small.Bits
import Derived.Shelf.Strconv.Itoa0
import Derived.LoopTactic
import Derived.Deep.DeepCutAuto
import Derived.Deep.CutBlock
import Derived.ChangeSame
import Derived.Lib.SmallJoins
namespace Go.Proofs.Ytdkppkdoconfhaa
set_option maxRecDepth 100000
open Go.ChangeShapes Go.WideShapes Go.ChangeAt Go.RowKit
set_option linter.unusedVariables false

theorem vint {k : IntKind} {a b : Int} (h : a = b) : Value.int k a = Value.int k b := by rw [h]
theorem ret1 {k : IntKind} {a b : Int} (h : a = b) : Ending.returned (.int k a) = .returned (.int k b) := by rw [h]
theorem retb {a b : Bool} (h : a = b) : Ending.returned (.bool a) = .returned (.bool b) := by rw [h]
theorem retp {a b c d : Int} (h : a = c) (g : b = d) : Ending.returned (.agg #[.int .i64 a, .int .u64 b]) = .returned (.agg #[.int .i64 c, .int .u64 d]) := by rw [h, g]
theorem retpb {a b c d : Int} {x y : Bool} (h : a = c) (g : b = d) (k : x = y) : Ending.returned (.tuple #[.agg #[.int .i64 a, .int .u64 b], .bool x]) = .returned (.tuple #[.agg #[.int .i64 c, .int .u64 d], .bool y]) := by rw [h, g, k]
theorem ret1b {k : IntKind} {a b : Int} {x y : Bool} (h : a = b) (g : x = y) : Ending.returned (.tuple #[.int k a, .bool x]) = .returned (.tuple #[.int k b, .bool y]) := by rw [h, g]
theorem bcell {W w1 : World} (hb : Below W.heap.size W w1) : (∀ b o, b < W.heap.size → w1.cell? ⟨b, o, none⟩ = W.cell? ⟨b, o, none⟩) ∧ (∀ b o, b < W.heap.size → w1.frozen? ⟨b, o, none⟩ = W.frozen? ⟨b, o, none⟩) :=
  ⟨fun b o h => hb.cell (p := ⟨b, o, none⟩) h, fun b o h => hb.frozen (p := ⟨b, o, none⟩) h⟩

theorem add64_run (x y c : Int) (hx : 0 ≤ x) (hy : 0 ≤ y) (hc : 0 ≤ c) (hc1 : c ≤ 1) : ∀ w : World, (callFunc 75 #[.int .u64 x, .int .u64 y, .int .u64 c]).run Try.prog w = .ok (.value (.tuple #[.int .u64 ((x + y + c) % 18446744073709551616), .int .u64 ((x + y + c) / 18446744073709551616)])) w := by
  intro w
  rw [run_callFunc_extern Try.func75 (by kernel_rfl) (by kernel_rfl) (by kernel_rfl) (e := add64Entry) (by kernel_rfl), run_add64 x y c hx hy hc hc1]
  rfl
theorem xof_any (n : Int) (h1 : -9223372036854775808 ≤ n) (h2 : n < 9223372036854775808) (w : World) :
    Calls Try.prog 56 #[.int .i64 n] w fun e w' => e = .returned (.agg #[.int .i64 (M.oh n), .int .u64 (M.ol n)]) ∧ Below w.heap.size w w' := by
  have H := M.of_parts h1 h2
  have HH := Lib.hid H
  clear H
  go_enter Try.func56, Try.ntmps56
  go_wp2
  exact bodyPost_ret (v := .agg #[.int .i64 (n / 9223372036854775808), .int .u64 (IntKind.u64.wrap n)]) (by simp [results, Try.results56, go_sem]) rfl ⟨retp HH.out.1 (by rw [IntKind.wrap_u64]; exact HH.out.2), (Below.refl _ _).alloc (Nat.le_refl _) _⟩
theorem rof_any (n : Int) (h1 : -9223372036854775808 ≤ n) (h2 : n < 9223372036854775808) (w : World) :
    Calls Try.prog 81 #[.int .i64 n] w fun e w' => e = .returned (.agg #[.int .i64 (M.oh n), .int .u64 (M.ol n)]) ∧ Below w.heap.size w w' := by
  have H := M.of_parts h1 h2
  have HH := Lib.hid H
  clear H
  by_cases h : n < 0
  · have e : n / 9223372036854775808 = -1 := by omega
    have HE := Lib.hid e
    clear e
    go_enter Try.func81, Try.ntmps81
    go_wp2
    exact bodyPost_ret (v := .agg #[.int .i64 (-1), .int .u64 (IntKind.u64.wrap n)]) (by simp [results, Try.results81, go_sem]) rfl ⟨retp (by rw [← HE.out]; exact HH.out.1) (by rw [IntKind.wrap_u64]; exact HH.out.2), (Below.refl _ _).alloc (Nat.le_refl _) _⟩
  · have e : n / 9223372036854775808 = 0 := by omega
    have HE := Lib.hid e
    clear e
    go_enter Try.func81, Try.ntmps81
    go_wp2
    exact bodyPost_ret (v := .agg #[.int .i64 0, .int .u64 n]) (by simp [results, Try.results81, go_sem]) rfl ⟨retp (by rw [← HE.out]; exact HH.out.1) (by rw [← HH.out.2]; omega), (Below.refl _ _).alloc (Nat.le_refl _) _⟩
theorem bb1 {w w' : World} {n : Nat} {o : Obj} (hb : Below n (w.alloc o).drew w') (hn : w.heap.size ≤ n) : Below w.heap.size w w' :=
  (((Below.refl _ w).alloc (Nat.le_refl _) o).drew).trans (hb.mono hn)
theorem small_any (h l : Int) (b : M.B h l) (w : World) :
    Calls Try.prog 68 #[.agg #[.int .i64 h, .int .u64 l]] w fun e w' => e = .returned (.tuple #[.int .i64 (M.smv (M.val h l)), .bool (M.fits (M.val h l))]) ∧ Below w.heap.size w w' := by
  obtain ⟨n, hn⟩ : ∃ n, wrap64 l = n := ⟨_, rfl⟩
  have hl : -9223372036854775808 ≤ n ∧ n < 9223372036854775808 := by rw [← hn]; unfold wrap64; omega
  have H := Lib.hid (M.small_of b (by rw [← hn]; unfold wrap64; rfl : (l + 9223372036854775808) % 18446744073709551616 - 9223372036854775808 = n))
  have c := xof_any n hl.1 hl.2
  clear hl b
  generalize M.oh n = p at *
  generalize M.ol n = q at *
  by_cases hpq : h = p ∧ l = q
  · obtain ⟨h1, h2⟩ := hpq
    have k1 : (h == p) = true := by simpa using h1
    have k2 : (l == q) = true := by simpa using h2
    have HH := Lib.hid (H.out.1 h1 h2)
    clear h1 h2 H
    go_enter Try.func68, Try.ntmps68
    go_wp2_with fail
    go_region_held3 (fun w' => w'.cell? ⟨w.heap.size, 0, none⟩ = some (.int .i64 h) ∧ w'.cell? ⟨w.heap.size, 1, none⟩ = some (.int .u64 l)) (go_keep)
      ((go_at_call 56; refine (c _).mono ?_; rintro e w' ⟨rfl, hb⟩; obtain ⟨hc, hf⟩ := bcell hb))
    all_goals go_wp2
    all_goals go_ret2
    all_goals exact ⟨ret1b (by rw [M.smv_yes HH.out.1]; exact HH.out.2) HH.out.1.symm, bb1 hb (by simp)⟩
  · have HH := Lib.hid (H.out.2 hpq)
    have k1 : (h == p && l == q) = false := by simpa using hpq
    clear hpq H
    by_cases h1 : h = p
    · have k1 : (h == p) = true := by simpa using h1
      have k2 : (l == q) = false := by simp_all
      clear h1
      go_enter Try.func68, Try.ntmps68
      go_wp2_with fail
      go_region_held3 (fun w' => w'.cell? ⟨w.heap.size, 0, none⟩ = some (.int .i64 h) ∧ w'.cell? ⟨w.heap.size, 1, none⟩ = some (.int .u64 l)) (go_keep)
        ((go_at_call 56; refine (c _).mono ?_; rintro e w' ⟨rfl, hb⟩; obtain ⟨hc, hf⟩ := bcell hb))
      all_goals go_wp2
      all_goals go_ret2
      all_goals exact ⟨ret1b (M.smv_no HH.out).symm HH.out.symm, bb1 hb (by simp)⟩
    · have k1 : (h == p) = false := by simpa using h1
      clear h1
      go_enter Try.func68, Try.ntmps68
      go_wp2_with fail
      go_region_held3 (fun w' => w'.cell? ⟨w.heap.size, 0, none⟩ = some (.int .i64 h) ∧ w'.cell? ⟨w.heap.size, 1, none⟩ = some (.int .u64 l)) (go_keep)
        ((go_at_call 56; refine (c _).mono ?_; rintro e w' ⟨rfl, hb⟩; obtain ⟨hc, hf⟩ := bcell hb))
      all_goals go_wp2
      all_goals go_ret2
      all_goals exact ⟨ret1b (M.smv_no HH.out).symm HH.out.symm, bb1 hb (by simp)⟩
theorem add_any (h l h' l' : Int) (b : M.B h l) (b' : M.B h' l') (w : World) :
    Calls Try.prog 66 #[.agg #[.int .i64 h, .int .u64 l], .agg #[.int .i64 h', .int .u64 l']] w fun e w' =>
      e = .returned (.tuple #[.agg #[.int .i64 (M.oh (M.val h l + M.val h' l')), .int .u64 (M.ol (M.val h l + M.val h' l'))], .bool (M.ok (M.val h l + M.val h' l'))]) ∧ Below w.heap.size w w' := by
  have bb := Lib.hid b
  have bb' := Lib.hid b'
  obtain ⟨h1, h2, h3, h4⟩ := b
  obtain ⟨h5, h6, h7, h8⟩ := b'
  have r1 := add64_run l l' 0 h3 h7 (by omega) (by omega)
  rw [Int.add_zero] at r1
  obtain ⟨c, hc⟩ : ∃ z, (l + l') / 18446744073709551616 = z := ⟨_, rfl⟩
  obtain ⟨lo, hlo⟩ : ∃ z, (l + l') % 18446744073709551616 = z := ⟨_, rfl⟩
  obtain ⟨u, hu⟩ : ∃ z, IntKind.u64.wrap h = z := ⟨_, rfl⟩
  obtain ⟨u', hu'⟩ : ∃ z, IntKind.u64.wrap h' = z := ⟨_, rfl⟩
  rw [hc, hlo] at r1
  have eu : h % 18446744073709551616 = u := by rw [← hu, IntKind.wrap_u64]
  have eu' : h' % 18446744073709551616 = u' := by rw [← hu', IntKind.wrap_u64]
  have r2 := add64_run u u' c (by omega) (by omega) (by omega) (by omega)
  obtain ⟨s, hs⟩ : ∃ z, (u + u' + c) % 18446744073709551616 = z := ⟨_, rfl⟩
  obtain ⟨s', hs'⟩ : ∃ z, (u + u' + c) / 18446744073709551616 = z := ⟨_, rfl⟩
  obtain ⟨x, hx⟩ : ∃ z, wrap64 s = z := ⟨_, rfl⟩
  rw [hs, hs'] at r2
  have ex : (s + 9223372036854775808) % 18446744073709551616 - 9223372036854775808 = x := by rw [← hx]; unfold wrap64; rfl
  have H := M.add_of bb.out bb'.out hc hlo eu eu' hs ex
  have T := add_test (h := h) (h' := h') (x := x) h1 h2 h5 h6 (by omega) (by omega)
  clear hc hlo eu eu' hs hs' ex bb bb'
  by_cases o : M.ok (M.val h l + M.val h' l') = true
  · obtain ⟨t, e1, e2⟩ := H.1 o
    rw [t] at T
    have E1 := Lib.hid e1
    have E2 := Lib.hid e2
    have O := Lib.hid o
    clear H t e1 e2 o
    go_enter Try.func66, Try.ntmps66
    go_wp2
    exact bodyPost_ret (v := .tuple #[.agg #[.int .i64 x, .int .u64 lo], .bool true]) (by simp [results, Try.results66, go_sem]) rfl ⟨retpb E1.out E2.out O.out.symm, (((Below.refl _ _).alloc (Nat.le_refl _) _).alloc (by simp) _).alloc (by simp; omega) _⟩
  · have o := Bool.eq_false_iff.2 o
    have t := H.2 o
    rw [t] at T
    have E1 := Lib.hid (M.no_of o)
    have O := Lib.hid o
    clear H t o
    go_enter Try.func66, Try.ntmps66
    go_wp2
    exact bodyPost_ret (v := .tuple #[.agg #[.int .i64 0, .int .u64 0], .bool false]) (by simp [results, Try.results66, go_sem]) rfl ⟨retpb E1.out.1.symm E1.out.2.symm O.out.symm, (((Below.refl _ _).alloc (Nat.le_refl _) _).alloc (by simp) _).alloc (by simp; omega) _⟩
end Go.Proofs.Ytdkppkdoconfhaa
namespace Go.Proofs.Ytdkppkdoconfhaa
open Go.ChangeShapes Go.WideShapes Go.ChangeAt Go.RowKit
set_option linter.unusedVariables false
theorem rsmall_any (h l : Int) (b : M.B h l) (w : World) :
    Calls Try.prog 83 #[.agg #[.int .i64 h, .int .u64 l]] w fun e w' => e = .returned (.tuple #[.int .i64 (M.smv (M.val h l)), .bool (M.fits (M.val h l))]) ∧ Below w.heap.size w w' := by
  obtain ⟨n, hn⟩ : ∃ n, wrap64 l = n := ⟨_, rfl⟩
  have hl : -9223372036854775808 ≤ n ∧ n < 9223372036854775808 := by rw [← hn]; unfold wrap64; omega
  have H := Lib.hid (M.small_of b (by rw [← hn]; unfold wrap64; rfl : (l + 9223372036854775808) % 18446744073709551616 - 9223372036854775808 = n))
  have c := rof_any n hl.1 hl.2
  have hn2 : IntKind.i64.wrap l = n := by rw [IntWalk.i64_left]; exact hn
  clear hl b
  generalize M.oh n = p at *
  generalize M.ol n = q at *
  by_cases hpq : h = p ∧ l = q
  · obtain ⟨h1, h2⟩ := hpq
    have k1 : (p == h) = true := by simp [h1]
    have k2 : (q == l) = true := by simp [h2]
    have HH := Lib.hid (H.out.1 h1 h2)
    clear h1 h2 H
    go_enter Try.func83, Try.ntmps83
    go_wp2_with fail
    go_region_held3 (fun w' => w'.cell? ⟨w.heap.size, 0, none⟩ = some (.int .i64 h) ∧ w'.cell? ⟨w.heap.size, 1, none⟩ = some (.int .u64 l)) (go_keep)
      ((go_at_call 81; refine (c _).mono ?_; rintro e w' ⟨rfl, hb⟩; obtain ⟨hc, hf⟩ := bcell hb))
    all_goals go_wp2
    all_goals go_ret2
    all_goals exact ⟨ret1b (by rw [M.smv_yes HH.out.1]; exact HH.out.2) HH.out.1.symm, bb1 hb (by simp)⟩
  · have HH := Lib.hid (H.out.2 hpq)
    have k0 : (p == h) = false ∨ ((p == h) = true ∧ (q == l) = false) := by
      by_cases g : p = h
      · right; refine ⟨by simp [g], ?_⟩; simp; intro e; exact hpq ⟨g.symm, e.symm⟩
      · left; simpa using g
    clear hpq H
    rcases k0 with k1 | ⟨k1, k2⟩
    all_goals
      go_enter Try.func83, Try.ntmps83
      go_wp2_with fail
      go_region_held3 (fun w' => w'.cell? ⟨w.heap.size, 0, none⟩ = some (.int .i64 h) ∧ w'.cell? ⟨w.heap.size, 1, none⟩ = some (.int .u64 l)) (go_keep)
        ((go_at_call 81; refine (c _).mono ?_; rintro e w' ⟨rfl, hb⟩; obtain ⟨hc, hf⟩ := bcell hb))
      all_goals go_wp2
      all_goals go_ret2
      all_goals exact ⟨ret1b (M.smv_no HH.out).symm HH.out.symm, bb1 hb (by simp)⟩
end Go.Proofs.Ytdkppkdoconfhaa
namespace Go.Proofs.Ytdkppkdoconfhaa
open Go.ChangeShapes Go.WideShapes Go.ChangeAt Go.RowKit
set_option linter.unusedVariables false

theorem bdrewN {B : Nat} {a w : World} (h : Below B a w) (n : Nat) : Below B a (w.drewN n) := ⟨h.os, h.tape, h.output, h.size, h.block⟩
theorem w64_is (n : Int) : wrap64 n = M.w64 n := by unfold wrap64 M.w64; rfl
set_option maxHeartbeats 1000000 in
theorem mul64_nat (x y : Nat) (hx : x < 18446744073709551616) (hy : y < 18446744073709551616) (w : World) :
    Calls Try.prog 55 #[.int .u64 x, .int .u64 y] w fun e w' => e = .returned (.tuple #[.int .u64 ((x * y / 18446744073709551616 : Nat) : Int), .int .u64 ((x * y % 18446744073709551616 : Nat) : Int)]) ∧ w = w' := by
  obtain ⟨bd, bt, bw, hhi⟩ := Lib.mul64_hi x y hx hy
  have ba := Lib.half_mul_le (a := x / 4294967296) (b := y / 4294967296) (by omega) (by omega)
  have bb := Lib.half_mul_le (a := x / 4294967296) (b := y % 4294967296) (by omega) (by omega)
  have bc := Lib.half_mul_le (a := x % 4294967296) (b := y / 4294967296) (by omega) (by omega)
  have ba' : x / 4294967296 * (y / 4294967296) < 18446744073709551616 := by omega
  have bb' : x / 4294967296 * (y % 4294967296) < 18446744073709551616 := by omega
  have bc' : x % 4294967296 * (y / 4294967296) < 18446744073709551616 := by omega
  have bh1 : x / 4294967296 * (y / 4294967296) + (x / 4294967296 * (y % 4294967296) + x % 4294967296 * (y % 4294967296) / 4294967296) / 4294967296 < 18446744073709551616 := by omega
  have bh : x / 4294967296 * (y / 4294967296) + (x / 4294967296 * (y % 4294967296) + x % 4294967296 * (y % 4294967296) / 4294967296) / 4294967296 + ((x / 4294967296 * (y % 4294967296) + x % 4294967296 * (y % 4294967296) / 4294967296) % 4294967296 + x % 4294967296 * (y / 4294967296)) / 4294967296 < 18446744073709551616 := by omega
  go_enter Try.func55, Try.ntmps55
  go_wp2
  simp only [Mul64.maskN x hx, Mul64.maskN y hy, Mul64.divN, Mul64.mulN, Mul64.addN, Mul64.wrapN _ bd, Mul64.wrapN _ bb', Mul64.wrapN _ bt, Mul64.maskN _ bt, Mul64.wrapN _ bc', Mul64.wrapN _ bw, Mul64.wrapN _ ba', Mul64.wrapN _ bh1, Mul64.wrapN _ bh, Mul64.wrapM (x * y)]
  rw [hhi]
  go_ret2
  exact ⟨rfl, rfl⟩
theorem mul64_any (x y : Int) (h1 : 0 ≤ x) (h2 : x < 18446744073709551616) (h3 : 0 ≤ y) (h4 : y < 18446744073709551616) (w : World) :
    Calls Try.prog 55 #[.int .u64 x, .int .u64 y] w fun e w' => e = .returned (.tuple #[.int .u64 (x * y / 18446744073709551616), .int .u64 (x * y % 18446744073709551616)]) ∧ w = w' := by
  obtain ⟨X, rfl⟩ := Int.eq_ofNat_of_zero_le h1
  obtain ⟨Y, rfl⟩ := Int.eq_ofNat_of_zero_le h3
  have := mul64_nat X Y (by omega) (by omega) w
  rw [Int.natCast_ediv, Int.natCast_emod, Int.natCast_mul] at this
  exact this
theorem mul_any (m n : Int) (h1 : -9223372036854775808 ≤ m) (h2 : m < 9223372036854775808) (h3 : -9223372036854775808 ≤ n) (h4 : n < 9223372036854775808) (w : World) :
    Calls Try.prog 42 #[.int .i64 m, .int .i64 n] w fun e w' => e = .returned (.agg #[.int .i64 (M.oh (m * n)), .int .u64 (M.ol (m * n))]) ∧ Below w.heap.size w w' := by
  obtain ⟨u, hu⟩ : ∃ z, IntKind.u64.wrap m = z := ⟨_, rfl⟩
  obtain ⟨u', hu'⟩ : ∃ z, IntKind.u64.wrap n = z := ⟨_, rfl⟩
  have eu : m % 18446744073709551616 = u := by rw [← hu, IntKind.wrap_u64]
  have eu' : n % 18446744073709551616 = u' := by rw [← hu', IntKind.wrap_u64]
  have c := mul64_any u u' (by omega) (by omega) (by omega) (by omega)
  obtain ⟨hi, ehi⟩ : ∃ z, u * u' / 18446744073709551616 = z := ⟨_, rfl⟩
  obtain ⟨lo, elo⟩ : ∃ z, u * u' % 18446744073709551616 = z := ⟨_, rfl⟩
  rw [ehi, elo] at c
  have a1 : bits .and .i64 (m / 9223372036854775808) n = M.ifn m n := by
    unfold M.ifn
    split
    · rw [show m / 9223372036854775808 = -1 by omega]; exact and_ones h3 h4
    · rw [show m / 9223372036854775808 = 0 by omega]; exact and_zero
  have a2 : bits .and .i64 (n / 9223372036854775808) m = M.ifn n m := by
    unfold M.ifn
    split
    · rw [show n / 9223372036854775808 = -1 by omega]; exact and_ones h1 h2
    · rw [show n / 9223372036854775808 = 0 by omega]; exact and_zero
  have H := Lib.hid (M.mul_of h1 h2 h3 h4 eu eu' ehi elo)
  clear eu eu' ehi elo h1 h2 h3 h4
  go_enter Try.func42, Try.ntmps42
  go_wp2_with fail
  refine (c _).mono ?_; rintro e w' ⟨rfl, rfl⟩
  go_wp2_with fail
  exact bodyPost_ret (v := .agg #[.int .i64 (wrap64 (wrap64 (wrap64 hi - M.ifn m n) - M.ifn n m)), .int .u64 lo]) (by simp [results, Try.results42, go_sem]) rfl ⟨retp (by simp only [w64_is]; exact H.out.1) H.out.2, (Below.refl _ _).alloc (Nat.le_refl _) _⟩
theorem ret2u {a b c d : Int} (h : a = c) (g : b = d) : Ending.returned (.tuple #[.int .u64 a, .int .u64 b]) = .returned (.tuple #[.int .u64 c, .int .u64 d]) := by rw [h, g]
end Go.Proofs.Ytdkppkdoconfhaa
namespace Go.Proofs.Ytdkppkdoconfhaa
open Go.Shelf
def lays134_ren : Go.Shelf.Ren := ⟨fun | 134 => 72 | 129 => 71 | n => n, fun | 53 => 78 | 3 => 3 | 4 => 4 | 46 => 94 | 5 => 5 | 9 => 9 | n => n, fun | n => n⟩
theorem lays134 : Go.Proofs.Lays.n134 Try.prog lays134_ren := {
  mixed := by kernel_rfl
  f129 := Try.func71.trans (congrArg some (by kernel_rfl))
  f134 := Try.func72.trans (congrArg some (by kernel_rfl))
  t3 := Try.underlying3
  a3 := Try.isAgg3
  z3 := Try.sizeOf3
  v3 := Try.zeroValue3
  t4 := Try.underlying4
  a4 := Try.isAgg4
  z4 := Try.sizeOf4
  v4 := Try.zeroValue4
  t5 := Try.underlying5
  a5 := Try.isAgg5
  z5 := Try.sizeOf5
  v5 := Try.zeroValue5
  t9 := Try.underlying9
  a9 := Try.isAgg9
  z9 := Try.sizeOf9
  v9 := Try.zeroValue9
  t46 := Try.underlying94
  a46 := Try.isAgg94
  z46 := Try.sizeOf94
  v46 := Try.zeroValue94
  t53 := Try.underlying78
  a53 := Try.isAgg78
  z53 := Try.sizeOf78
  v53 := Try.zeroValue78 }
theorem bits_LeadingZeros64 (x : Int) (w : World) (h0 : 0 ≤ x) (h1 : x ≤ 18446744073709551615) :
    Calls Try.prog 72 #[.int .u64 x] w fun e w' => e = .returned (.int .i64 (64 - (Lib.bitLen x.toNat : Int))) ∧ w' = w := Any.bits_LeadingZeros64 lays134 x w h0 h1
def lays129_ren : Go.Shelf.Ren := ⟨fun | 129 => 71 | n => n, fun | 53 => 78 | 3 => 3 | 4 => 4 | 46 => 94 | 5 => 5 | 9 => 9 | n => n, fun | n => n⟩
theorem lays129 : Go.Proofs.Lays.n129 Try.prog lays129_ren := {
  mixed := by kernel_rfl
  f129 := Try.func71.trans (congrArg some (by kernel_rfl))
  t3 := Try.underlying3
  a3 := Try.isAgg3
  z3 := Try.sizeOf3
  v3 := Try.zeroValue3
  t4 := Try.underlying4
  a4 := Try.isAgg4
  z4 := Try.sizeOf4
  v4 := Try.zeroValue4
  t5 := Try.underlying5
  a5 := Try.isAgg5
  z5 := Try.sizeOf5
  v5 := Try.zeroValue5
  t9 := Try.underlying9
  a9 := Try.isAgg9
  z9 := Try.sizeOf9
  v9 := Try.zeroValue9
  t46 := Try.underlying94
  a46 := Try.isAgg94
  z46 := Try.sizeOf94
  v46 := Try.zeroValue94
  t53 := Try.underlying78
  a53 := Try.isAgg78
  z53 := Try.sizeOf78
  v53 := Try.zeroValue78 }
theorem bits_Len64 (x : Int) (w : World) (h0 : 0 ≤ x) (h1 : x ≤ 18446744073709551615) :
    Calls Try.prog 71 #[.int .u64 x] w fun e w' => e = .returned (.int .i64 (Lib.bitLen x.toNat)) ∧ w' = w := Any.bits_Len64 lays129 x w h0 h1
end Go.Proofs.Ytdkppkdoconfhaa
namespace Go.Proofs.Ytdkppkdoconfhaa
open Go.ChangeShapes Go.WideShapes Go.ChangeAt Go.RowKit
set_option linter.unusedVariables false

theorem div64_low (lo y : Int) (h1 : 0 ≤ lo) (h2 : lo < 18446744073709551616) (h3 : 0 < y) (h4 : y < 18446744073709551616) (w : World) :
    Calls Try.prog 58 #[.int .u64 0, .int .u64 lo, .int .u64 y] w fun e w' => e = .returned (.tuple #[.int .u64 (lo / y), .int .u64 (lo % y)]) ∧ Below w.heap.size w w' := by
  have k1 : (y == 0) = false := by simp; omega
  have k2 : decide (y ≤ 0) = false := by simp; omega
  go_enter Try.func58, Try.ntmps58
  go_wp2
  go_quiet (fail)
  go_wp2
  go_ret2
  exact ⟨rfl, bdrewN (Below.refl _ _) _⟩
set_option maxHeartbeats 4000000 in
theorem div64_core (hi lo y : Int) (s : Nat) (hs : s < 64) (h1 : 0 ≤ lo) (h2 : lo < 18446744073709551616) (h0 : 0 < hi) (h3 : hi < y) (h4 : y < 18446744073709551616)
    (Y y1 y0 u t d1 d0 q1 u2 q0 R : Int)
    (hY : IntKind.u64.wrap (y * 2 ^ s) = Y) (hy1 : Y / 4294967296 = y1) (hy0 : bits .and .u64 Y 4294967295 = y0) (hYY : Y = y1 * 4294967296 + y0)
    (hu : bits .or .u64 (IntKind.u64.wrap (hi * 2 ^ s)) (lo / 2 ^ (64 - s)) = u) (ht : IntKind.u64.wrap (lo * 2 ^ s) = t) (hd1 : t / 4294967296 = d1) (hd0 : bits .and .u64 t 4294967295 = d0)
    (f1 : D.Fit u d1 y1 y0) (f2 : D.Fit u2 d0 y1 y0)
    (e1 : (u * 4294967296 + d1) / (y1 * 4294967296 + y0) = q1) (e2 : (u * 4294967296 + d1) % (y1 * 4294967296 + y0) = u2)
    (e3 : (u2 * 4294967296 + d0) / (y1 * 4294967296 + y0) = q0) (e4 : (u2 * 4294967296 + d0) % (y1 * 4294967296 + y0) = R)
    (c : ∀ w, Calls Try.prog 72 #[.int .u64 y] w fun e w' => e = .returned (.int .i64 s) ∧ w = w') (w : World) :
    Calls Try.prog 58 #[.int .u64 hi, .int .u64 lo, .int .u64 y] w fun e w' => e = .returned (.tuple #[.int .u64 (q1 * 4294967296 + q0), .int .u64 (R / 2 ^ s)]) ∧ w = w' := by
  have k1 : (y == 0) = false := by simp; omega
  have k2 : (hi == 0) = false := by simp; omega
  have k3 : decide (y ≤ hi) = false := by simp; omega
  have b1 := f1.u0
  have b2 := f1.ul
  have b3 := f1.d0
  have b4 := f1.d1
  have b5 := f1.y11
  have b6 := f1.y12
  have b7 := f1.y01
  have b8 := f1.y02
  have b9 := f2.u0
  have b10 := f2.ul
  have b11 := f2.d0
  have b12 := f2.d1
  have sq1 := D.small f1
  have sq0 := D.small f2
  rw [e1] at sq1
  rw [e3] at sq0
  have i1 := Lib.hid (D.start f1)
  have i2 := Lib.hid (D.start f2)
  have L1 := D.left f1
  have L2 := D.left f2
  rw [e1, e2] at L1
  rw [e3, e4] at L2
  obtain ⟨qa, hqa⟩ : ∃ z, u / y1 = z := ⟨_, rfl⟩
  obtain ⟨ra, hra⟩ : ∃ z, u % y1 = z := ⟨_, rfl⟩
  obtain ⟨qb, hqb⟩ : ∃ z, u2 / y1 = z := ⟨_, rfl⟩
  obtain ⟨rb, hrb⟩ : ∃ z, u2 % y1 = z := ⟨_, rfl⟩
  rw [hqa, hra] at i1
  rw [hqb, hrb] at i2
  rw [← hYY] at L1 L2
  have hra' : ra = u - qa * y1 := by have := Int.mul_ediv_add_emod u y1; rw [Int.mul_comm, hqa, hra] at this; omega
  have hrb' : rb = u2 - qb * y1 := by have := Int.mul_ediv_add_emod u2 y1; rw [Int.mul_comm, hqb, hrb] at this; omega
  have ca := i1.out
  have cb := i2.out
  obtain ⟨ca1, ca2, ca3, ca4, ca5, ca6⟩ := ca
  obtain ⟨cb1, cb2, cb3, cb4, cb5, cb6⟩ := cb
  have Y0 : 0 < Y := by omega
  have Y1 : Y < 18446744073709551616 := by omega
  have b2' : u < Y := by omega
  have b10' : u2 < Y := by omega
  have wa : IntKind.u64.wrap (u - IntKind.u64.wrap (u / y1 * y1)) = ra := by rw [hqa]; rw [IntKind.wrap_u64, IntKind.wrap_u64]; omega
  have wb : IntKind.u64.wrap (u2 - IntKind.u64.wrap (u2 / y1 * y1)) = rb := by rw [hqb]; rw [IntKind.wrap_u64, IntKind.wrap_u64]; omega
  have w1 : IntKind.u64.wrap (IntKind.u64.wrap (IntKind.u64.wrap (u * 4294967296) + d1) - IntKind.u64.wrap (q1 * Y)) = u2 := by simp only [IntKind.wrap_u64]; exact L1.symm
  have w2 : IntKind.u64.wrap (IntKind.u64.wrap (IntKind.u64.wrap (u2 * 4294967296) + d0) - IntKind.u64.wrap (q0 * Y)) = R := by simp only [IntKind.wrap_u64]; exact L2.symm
  have E1 := Lib.hid e1
  have E3 := Lib.hid e3
  have HQ := Lib.hid hqa
  have HQ2 := Lib.hid hqb
  clear hqa hqb
  clear L1 L2 hYY e1 e2 e3 e4 hra' hrb' hra hrb ca1 ca6 cb1 cb6
  go_enter Try.func58, Try.ntmps58
  go_wp2_with fail
  refine (c _).mono ?_; rintro e w' ⟨rfl, rfl⟩
  go_upto_block 0 with fail
  go_cut [15, 16] from 67 to 85 (fun q r wx => q = .int .u64 q1 ∧ w = wx)
  case first =>
    go_wp2_with fail
    go_loop [15, 16] (fun q r => ∃ a b : Int, q = .int .u64 a ∧ r = .int .u64 b ∧ D.Inv u d1 y1 y0 a b) (fun q _ => (intOf q).toNat)
    case atStart => exact ⟨qa, ra, vint HQ.out, by first | rfl | exact vint wa, i1.out⟩
    case round =>
      obtain ⟨a, b, rfl, rfl, iv⟩ := hrel
      have IV := Lib.hid iv
      obtain ⟨_, g1, g2, g3, g4, _⟩ := iv
      by_cases A : 4294967296 ≤ a
      · by_cases C : 4294967296 ≤ b + y1
        · have O := Lib.hid (D.out f1 IV.out (.inl A) C)
          go_wp2_with fail
          go_meet
          exact ⟨vint (by rw [← E1.out, O.out]), rfl⟩
        · have N := Lib.hid (D.next f1 IV.out (.inl A) (by omega))
          go_wp2_with fail
          exact ⟨⟨a - 1, b + y1, rfl, rfl, N.out⟩, by simp [intOf]; omega⟩
      · obtain ⟨p, hp⟩ : ∃ z, a * y0 = z := ⟨_, rfl⟩
        have p0 : 0 ≤ p := by rw [← hp]; exact Int.mul_nonneg g3 b7
        have p1 : p < 18446744073709551616 := by
          have : a * y0 ≤ 4294967295 * y0 := Int.mul_le_mul_of_nonneg_right (by omega) b7
          omega
        have HP := Lib.hid hp
        have hw : IntKind.u64.wrap (a * y0) = p := by rw [hp, IntKind.wrap_u64]; omega
        clear hp
        by_cases T : 4294967296 * b + d1 < p
        · by_cases C : 4294967296 ≤ b + y1
          · have O := Lib.hid (D.out f1 IV.out (.inr (by rw [HP.out]; exact T)) C)
            have a1 := (D.less f1 IV.out (.inr (by rw [HP.out]; exact T))).1
            go_wp2_with fail
            go_meet
            exact ⟨vint (by rw [← E1.out, O.out]), rfl⟩
          · have N := Lib.hid (D.next f1 IV.out (.inr (by rw [HP.out]; exact T)) (by omega))
            have a1 := (D.less f1 IV.out (.inr (by rw [HP.out]; exact T))).1
            go_wp2_with fail
            exact ⟨⟨a - 1, b + y1, rfl, rfl, N.out⟩, by simp [intOf]; omega⟩
        · have O := Lib.hid (D.done f1 IV.out (by rw [HP.out]; omega))
          go_wp2_with fail
          go_meet
          exact ⟨vint (by rw [← E1.out, O.out]), rfl⟩
  case rest =>
    obtain ⟨rfl, rfl⟩ := hcut
    go_upto_block 2 with fail
    go_cut [18, 16] from 102 to 120 (fun q r wx => q = .int .u64 q0 ∧ w = wx)
    case first =>
      go_wp2_with fail
      go_loop [18, 16] (fun q r => ∃ a b : Int, q = .int .u64 a ∧ r = .int .u64 b ∧ D.Inv u2 d0 y1 y0 a b) (fun q _ => (intOf q).toNat)
      case atStart => exact ⟨qb, rb, vint HQ2.out, by first | rfl | exact vint wb, i2.out⟩
      case round =>
        obtain ⟨a, b, rfl, rfl, iv⟩ := hrel
        have IV := Lib.hid iv
        obtain ⟨_, g1, g2, g3, g4, _⟩ := iv
        by_cases A : 4294967296 ≤ a
        · by_cases C : 4294967296 ≤ b + y1
          · have O := Lib.hid (D.out f2 IV.out (.inl A) C)
            go_wp2_with fail
            go_meet
            exact ⟨vint (by rw [← E3.out, O.out]), rfl⟩
          · have N := Lib.hid (D.next f2 IV.out (.inl A) (by omega))
            go_wp2_with fail
            exact ⟨⟨a - 1, b + y1, rfl, rfl, N.out⟩, by simp [intOf]; omega⟩
        · obtain ⟨p, hp⟩ : ∃ z, a * y0 = z := ⟨_, rfl⟩
          have p0 : 0 ≤ p := by rw [← hp]; exact Int.mul_nonneg g3 b7
          have p1 : p < 18446744073709551616 := by
            have : a * y0 ≤ 4294967295 * y0 := Int.mul_le_mul_of_nonneg_right (by omega) b7
            omega
          have HP := Lib.hid hp
          have hw : IntKind.u64.wrap (a * y0) = p := by rw [hp, IntKind.wrap_u64]; omega
          clear hp
          by_cases T : 4294967296 * b + d0 < p
          · by_cases C : 4294967296 ≤ b + y1
            · have O := Lib.hid (D.out f2 IV.out (.inr (by rw [HP.out]; exact T)) C)
              have a1 := (D.less f2 IV.out (.inr (by rw [HP.out]; exact T))).1
              go_wp2_with fail
              go_meet
              exact ⟨vint (by rw [← E3.out, O.out]), rfl⟩
            · have N := Lib.hid (D.next f2 IV.out (.inr (by rw [HP.out]; exact T)) (by omega))
              have a1 := (D.less f2 IV.out (.inr (by rw [HP.out]; exact T))).1
              go_wp2_with fail
              exact ⟨⟨a - 1, b + y1, rfl, rfl, N.out⟩, by simp [intOf]; omega⟩
          · have O := Lib.hid (D.done f2 IV.out (by rw [HP.out]; omega))
            go_wp2_with fail
            go_meet
            exact ⟨vint (by rw [← E3.out, O.out]), rfl⟩
    case rest =>
      obtain ⟨rfl, rfl⟩ := hcut
      go_wp2_with fail
      go_ret2
      exact ⟨rfl, rfl⟩
theorem mask32 (x : Int) (h1 : 0 ≤ x) (h2 : x < 18446744073709551616) : bits .and .u64 x 4294967295 = x % 4294967296 := by
  have h := bits_mask .u64 64 (by decide) wraps_u64 32 (by decide) x h1 (by omega)
  simpa using h
theorem or_sum (a b : Int) (s : Nat) (h1 : 0 ≤ a) (h2 : a * 2 ^ s < 18446744073709551616) (h3 : 0 ≤ b) (h4 : b < 2 ^ s) (h5 : b < 18446744073709551616) (h6 : a * 2 ^ s + b < 18446744073709551616) : bits .or .u64 (a * 2 ^ s) b = a * 2 ^ s + b := by
  obtain ⟨A, rfl⟩ := Int.eq_ofNat_of_zero_le h1
  obtain ⟨B, rfl⟩ := Int.eq_ofNat_of_zero_le h3
  have e : ((A : Int) * 2 ^ s) = ((2 ^ s * A : Nat) : Int) := by rw [Int.natCast_mul, Int.mul_comm]; simp
  have e2 : ((2 : Int) ^ s) = ((2 ^ s : Nat) : Int) := by simp
  have hB : B < 2 ^ s := by rw [e2] at h4; omega
  rw [e] at h2 h6 ⊢
  show IntKind.u64.wrap ((BitVec.ofInt 64 ((2 ^ s * A : Nat) : Int) ||| BitVec.ofInt 64 (B : Int)).toNat : Int) = _
  rw [BitVec.toNat_or, BitVec.ofInt_natCast, BitVec.ofInt_natCast, BitVec.toNat_ofNat, BitVec.toNat_ofNat, Nat.mod_eq_of_lt (by omega), Nat.mod_eq_of_lt (by omega), ← Nat.two_pow_add_eq_or_of_lt hB, IntKind.wrap_u64]
  omega
theorem bl_aux : ∀ (f x : Nat), x < 2 ^ f → x < 2 ^ (Lib.bitLenAux f x) ∧ (x ≠ 0 → 2 ^ (Lib.bitLenAux f x) ≤ 2 * x) ∧ Lib.bitLenAux f x ≤ f
  | 0, x, h => by simp at h; subst h; simp [Lib.bitLenAux]
  | f + 1, x, h => by
    by_cases x0 : x = 0
    · subst x0; simp [Lib.bitLenAux]
    · have i := bl_aux f (x / 2) (by rw [Nat.pow_succ] at h; omega)
      have e : Lib.bitLenAux (f + 1) x = 1 + Lib.bitLenAux f (x / 2) := by rw [Lib.bitLenAux, if_neg x0]
      rw [e, Nat.add_comm 1, Nat.pow_succ]
      obtain ⟨i1, i2, i3⟩ := i
      refine ⟨by omega, fun _ => ?_, by omega⟩
      by_cases x1 : x / 2 = 0
      · have : Lib.bitLenAux f (x / 2) = 0 := by
          rw [x1]; cases f with
          | zero => rfl
          | succ f => simp [Lib.bitLenAux]
        rw [this]; omega
      · have := i2 x1; omega
theorem bl_of (x : Nat) (h0 : x ≠ 0) (h : x < 18446744073709551616) : x < 2 ^ (Lib.bitLen x) ∧ 2 ^ (Lib.bitLen x) ≤ 2 * x ∧ Lib.bitLen x ≤ 64 := by
  have i := bl_aux 64 x h
  exact ⟨i.1, i.2.1 h0, i.2.2⟩
/-- The quotient and what is left, out of the digits'. -/
theorem D.join {hi lo y T T' Y y1 y0 u t d1 d0 : Int} (h0 : 0 < hi) (h1 : 0 ≤ lo) (h2 : lo < 18446744073709551616) (h3 : hi < y) (hT : 0 < T) (hT' : 0 < T') (hTT : T' * T = 18446744073709551616)
    (hY : y * T = Y) (hY1 : 9223372036854775808 ≤ Y) (hY2 : Y < 18446744073709551616) (hy1 : Y / 4294967296 = y1) (hy0 : Y % 4294967296 = y0)
    (hu : hi * T + lo / T' = u) (ht : lo * T % 18446744073709551616 = t) (hd1 : t / 4294967296 = d1) (hd0 : t % 4294967296 = d0) :
    D.Fit u d1 y1 y0 ∧ D.Fit ((u * 4294967296 + d1) % (y1 * 4294967296 + y0)) d0 y1 y0 ∧
    (u * 4294967296 + d1) / (y1 * 4294967296 + y0) * 4294967296 + ((u * 4294967296 + d1) % (y1 * 4294967296 + y0) * 4294967296 + d0) / (y1 * 4294967296 + y0) = (hi * 18446744073709551616 + lo) / y ∧
    ((u * 4294967296 + d1) % (y1 * 4294967296 + y0) * 4294967296 + d0) % (y1 * 4294967296 + y0) / T = (hi * 18446744073709551616 + lo) % y := by
  have hYY : y1 * 4294967296 + y0 = Y := by omega
  rw [hYY]
  have hl : lo * T / 18446744073709551616 = lo / T' := by
    rw [← hTT, Int.mul_ediv_mul_of_pos_left _ _ hT]
  have hU : u * 18446744073709551616 + t = (hi * 18446744073709551616 + lo) * T := by
    rw [← hu, ← hl, ← ht, Int.add_mul (hi * 18446744073709551616) lo T, Int.mul_right_comm hi 18446744073709551616 T]; omega
  have hlt : (hi * 18446744073709551616 + lo) * T < y * 18446744073709551616 * T := Int.mul_lt_mul_of_pos_right (by omega) hT
  rw [Int.mul_right_comm y, hY] at hlt
  have hhT : 0 ≤ hi * T := Int.mul_nonneg (by omega) (by omega)
  have hlT : 0 ≤ lo / T' := Int.ediv_nonneg h1 (by omega)
  have u0 : 0 ≤ u := by omega
  have ul : u < Y := by omega
  have m0 := Int.emod_nonneg (u * 4294967296 + d1) (b := Y) (by omega)
  have m1 := Int.emod_lt_of_pos (u * 4294967296 + d1) (b := Y) (by omega)
  have e1 := Int.mul_ediv_add_emod (u * 4294967296 + d1) Y
  have e2 := Int.mul_ediv_add_emod ((u * 4294967296 + d1) % Y * 4294967296 + d0) Y
  have n0 := Int.emod_nonneg ((u * 4294967296 + d1) % Y * 4294967296 + d0) (b := Y) (by omega)
  have n1 := Int.emod_lt_of_pos ((u * 4294967296 + d1) % Y * 4294967296 + d0) (b := Y) (by omega)
  refine ⟨⟨u0, by omega, by omega, by omega, by omega, by omega, by omega, by omega⟩, ⟨m0, by omega, by omega, by omega, by omega, by omega, by omega, by omega⟩, ?_⟩
  generalize (u * 4294967296 + d1) % Y = r1 at *
  generalize (u * 4294967296 + d1) / Y = q1 at *
  generalize (r1 * 4294967296 + d0) % Y = r0 at *
  generalize (r1 * 4294967296 + d0) / Y = q0 at *
  have key : (hi * 18446744073709551616 + lo) * T = r0 + Y * (q1 * 4294967296 + q0) := by
    rw [← hU, Int.mul_add, ← Int.mul_assoc]; omega
  have hq : (hi * 18446744073709551616 + lo) * T / Y = q1 * 4294967296 + q0 := by
    rw [key, Int.add_mul_ediv_left _ _ (by omega), Int.ediv_eq_zero_of_lt n0 n1, Int.zero_add]
  have hr : (hi * 18446744073709551616 + lo) * T % Y = r0 := by
    rw [key, Int.add_mul_emod_self_left, Int.emod_eq_of_lt n0 n1]
  rw [← hY] at hq hr
  rw [Int.mul_ediv_mul_of_pos_left _ _ hT] at hq
  rw [Int.mul_comm _ T, Int.mul_comm y T, Int.mul_emod_mul_of_pos _ _ hT] at hr
  refine ⟨hq.symm, ?_⟩
  rw [← hr, Int.mul_ediv_cancel_left _ (by omega)]
theorem div64_any (hi lo y : Int) (h0 : 0 ≤ hi) (h1 : 0 ≤ lo) (h2 : lo < 18446744073709551616) (h3 : hi < y) (h4 : y < 18446744073709551616) (w : World) :
    Calls Try.prog 58 #[.int .u64 hi, .int .u64 lo, .int .u64 y] w fun e w' => e = .returned (.tuple #[.int .u64 ((hi * 18446744073709551616 + lo) / y), .int .u64 ((hi * 18446744073709551616 + lo) % y)]) ∧ Below w.heap.size w w' := by
  by_cases z : hi = 0
  · subst z
    rw [Int.zero_mul, Int.zero_add]
    exact div64_low lo y h1 h2 h3 h4 w
  obtain ⟨n, rfl⟩ := Int.eq_ofNat_of_zero_le (show 0 ≤ y by omega)
  obtain ⟨l1, l2, l3⟩ := bl_of n (by omega) (by omega)
  have cl : ∀ w, Calls Try.prog 72 #[.int .u64 (n : Int)] w fun e w' => e = .returned (.int .i64 ((64 - Lib.bitLen n : Nat) : Int)) ∧ w = w' := fun w => by
    have := bits_LeadingZeros64 (n : Int) w (by omega) (by omega)
    rw [Int.toNat_natCast, show (64 - (Lib.bitLen n : Int)) = ((64 - Lib.bitLen n : Nat) : Int) by omega] at this
    exact this.mono fun _ _ h => ⟨h.1, h.2.symm⟩
  have b0 : 0 < Lib.bitLen n := by
    rcases Nat.eq_zero_or_pos (Lib.bitLen n) with e | e
    · rw [e] at l1; omega
    · exact e
  generalize Lib.bitLen n = b at *
  obtain ⟨s, hs⟩ : ∃ s, 64 - b = s := ⟨_, rfl⟩
  rw [hs] at cl
  have hp : 2 ^ b * 2 ^ s = 18446744073709551616 := by rw [← Nat.pow_add, show b + s = 64 by omega]
  have hp' : 2 ^ (64 - s) * 2 ^ s = 18446744073709551616 := by rw [← Nat.pow_add, show 64 - s + s = 64 by omega]
  have hT : 0 < 2 ^ s := Nat.two_pow_pos s
  have hT' : 0 < 2 ^ (64 - s) := Nat.two_pow_pos _
  have yu : n * 2 ^ s < 2 ^ b * 2 ^ s := Nat.mul_lt_mul_of_pos_right l1 hT
  have yl : 2 ^ b * 2 ^ s ≤ 2 * n * 2 ^ s := Nat.mul_le_mul_right _ l2
  rw [Nat.mul_assoc] at yl
  have eT : (2 : Int) ^ s = ((2 ^ s : Nat) : Int) := by simp
  have eT' : (2 : Int) ^ (64 - s) = ((2 ^ (64 - s) : Nat) : Int) := by simp
  have hYI : (n : Int) * 2 ^ s = ((n * 2 ^ s : Nat) : Int) := by rw [eT]; simp
  have hTTI : (2 : Int) ^ (64 - s) * 2 ^ s = 18446744073709551616 := by rw [eT, eT', ← Int.natCast_mul, hp']; rfl
  have hTI : (0 : Int) < 2 ^ s := by rw [eT]; omega
  have hTI' : (0 : Int) < 2 ^ (64 - s) := by rw [eT']; omega
  have Y1 : 9223372036854775808 ≤ (n : Int) * 2 ^ s := by rw [hYI]; omega
  have Y2 : (n : Int) * 2 ^ s < 18446744073709551616 := by rw [hYI]; omega
  have J := D.join (hi := hi) (lo := lo) (y := (n : Int)) (T := 2 ^ s) (T' := 2 ^ (64 - s)) (by omega) h1 h2 h3 hTI hTI' hTTI rfl Y1 Y2 rfl rfl rfl rfl rfl rfl
  have hb : hi * 2 ^ s < (n : Int) * 2 ^ s := Int.mul_lt_mul_of_pos_right h3 hTI
  have hb0 : 0 ≤ hi * 2 ^ s := Int.mul_nonneg h0 (by omega)
  have hl0 : 0 ≤ lo / 2 ^ (64 - s) := Int.ediv_nonneg h1 (by omega)
  have hl1 : lo / 2 ^ (64 - s) < 2 ^ s := Int.ediv_lt_of_lt_mul hTI' (by rw [Int.mul_comm, hTTI]; exact h2)
  have hl2 : lo / 2 ^ (64 - s) ≤ lo := Int.ediv_le_self _ h1
  have hlT : 0 ≤ lo * 2 ^ s % 18446744073709551616 ∧ lo * 2 ^ s % 18446744073709551616 < 18446744073709551616 := by omega
  have hJ := J.1.ul
  have hsum : hi * 2 ^ s + lo / 2 ^ (64 - s) < 18446744073709551616 := by omega
  rw [← J.2.2.1, ← J.2.2.2]
  refine (div64_core hi lo n s (by omega) h1 h2 (by omega) h3 h4 _ _ _ _ _ _ _ _ _ _ _ (show IntKind.u64.wrap ((n : Int) * 2 ^ s) = (n : Int) * 2 ^ s by rw [IntKind.wrap_u64]; omega) rfl ?_ ?_ ?_ ?_ rfl ?_ J.1 J.2.1 rfl rfl rfl rfl cl w).mono ?_
  · exact mask32 _ (by omega) Y2
  · omega
  · rw [IntKind.wrap_u64, Int.emod_eq_of_lt hb0 (by omega)]
    exact or_sum hi _ s h0 (by omega) hl0 hl1 (by omega) hsum
  · exact IntKind.wrap_u64 _
  · exact mask32 _ hlT.1 hlT.2
  · rintro e w' ⟨he, rfl⟩
    exact ⟨he, Below.refl _ _⟩
end Go.Proofs.Ytdkppkdoconfhaa
namespace Go.Proofs.Ytdkppkdoconfhaa
open Go.ChangeShapes Go.WideShapes Go.ChangeAt Go.RowKit
set_option linter.unusedVariables false

theorem retpib {a b c d m n : Int} {x y : Bool} (h : a = c) (g : b = d) (i : m = n) (k : x = y) : Ending.returned (.tuple #[.agg #[.int .i64 a, .int .u64 b], .int .i64 m, .bool x]) = .returned (.tuple #[.agg #[.int .i64 c, .int .u64 d], .int .i64 n, .bool y]) := by rw [h, g, i, k]
theorem div_no (h l d : Int) (hd : d < 1) (w : World) :
    Calls Try.prog 67 #[.agg #[.int .i64 h, .int .u64 l], .int .i64 d] w fun e w' => e = .returned (.tuple #[.agg #[.int .i64 0, .int .u64 0], .int .i64 0, .bool false]) ∧ Below w.heap.size w w' := by
  go_enter Try.func67, Try.ntmps67
  go_wp2
  exact bodyPost_ret (v := .tuple #[.agg #[.int .i64 0, .int .u64 0], .int .i64 0, .bool false]) (by simp [results, Try.results67, go_sem]) rfl ⟨rfl, ((Below.refl _ _).alloc (Nat.le_refl _) _).alloc (by simp) _⟩
/-- Div, with each of its words by a letter. -/
theorem div_core (h l d tt h' ut x qh rh ql rl r r' : Int) (d1 : 1 ≤ d) (d2 : d < 9223372036854775808)
    (e1 : h / 9223372036854775808 = tt) (e2 : bits .xor .i64 h tt = h') (e3 : IntKind.u64.wrap tt = ut) (e4 : bits .xor .u64 l ut = x)
    (a1 : 0 ≤ h') (a2 : h' < 9223372036854775808) (a3 : 0 ≤ x) (a4 : x < 18446744073709551616)
    (q1 : h' / d = qh) (q2 : (h' % d * 18446744073709551616 + x) / d = ql) (q3 : (h' % d * 18446744073709551616 + x) % d = r)
    (c1 : 0 ≤ ql) (c2 : ql < 18446744073709551616)
    (e5 : bits .xor .i64 qh tt = rh) (e6 : bits .xor .u64 ql ut = rl) (e7 : (if tt = 0 then r else d - 1 - r) = r') (w : World) :
    Calls Try.prog 67 #[.agg #[.int .i64 h, .int .u64 l], .int .i64 d] w fun e w' => e = .returned (.tuple #[.agg #[.int .i64 rh, .int .u64 rl], .int .i64 r', .bool true]) ∧ Below w.heap.size w w' := by
  have hm0 := Int.emod_nonneg h' (b := d) (by omega)
  have hm1 := Int.emod_lt_of_pos h' (b := d) (by omega)
  have hr0 := Int.emod_nonneg (h' % d * 18446744073709551616 + x) (b := d) (by omega)
  have hr1 := Int.emod_lt_of_pos (h' % d * 18446744073709551616 + x) (b := d) (by omega)
  have hq0 : 0 ≤ qh := by rw [← q1]; exact Int.ediv_nonneg a1 (by omega)
  have hq1 : qh ≤ h' := by rw [← q1]; exact Int.ediv_le_self _ a1
  have cA := div64_low h' d a1 (by omega) (by omega) (by omega)
  have cB := div64_any (h' % d) x d hm0 a3 a4 hm1 (by omega)
  rw [q2, q3] at cB
  rw [q1] at cA
  rw [q3] at hr0 hr1
  obtain ⟨m, hm⟩ : ∃ z, h' % d = z := ⟨_, rfl⟩
  rw [hm] at cA cB hm0 hm1
  have wd : IntKind.u64.wrap d = d := by rw [IntKind.wrap_u64]; omega
  have wh : IntKind.u64.wrap h' = h' := by rw [IntKind.wrap_u64]; omega
  clear q1 q2 q3 hm
  by_cases t0 : tt = 0
  · have k : (tt != 0) = false := by simpa using t0
    rw [if_pos t0] at e7
    subst e7
    clear t0
    go_enter Try.func67, Try.ntmps67
    go_wp2_with fail
    refine (cA _).mono ?_; rintro e w1 ⟨rfl, hb⟩
    have K := hb
    clear hb
    obtain ⟨hc, hf⟩ := bcell K
    have hz : w.heap.size + 1 < w1.heap.size := by have := K.size; simp at this; omega
    go_wp2_with fail
    refine (cB _).mono ?_; rintro e w2 ⟨rfl, hb⟩
    replace K := K.trans (hb.mono K.size)
    clear hb hc hf hz
    obtain ⟨hc, hf⟩ := bcell K
    have hz : w.heap.size + 1 < w2.heap.size := by have := K.size; simp at this; omega
    go_wp2_with fail
    exact bodyPost_ret (v := .tuple #[.agg #[.int .i64 rh, .int .u64 rl], .int .i64 r, .bool true]) (by simp [results, Try.results67, go_sem, hc]) rfl ⟨rfl, (((((Below.refl _ _).alloc (Nat.le_refl _) _).alloc (by simp) _).trans (K.mono (by simp; omega))).setCell (by simp) _).setCell (by simp) _⟩
  · have k : (tt != 0) = true := by simpa using t0
    rw [if_neg t0] at e7
    subst e7
    clear t0
    go_enter Try.func67, Try.ntmps67
    go_wp2_with fail
    refine (cA _).mono ?_; rintro e w1 ⟨rfl, hb⟩
    have K := hb
    clear hb
    obtain ⟨hc, hf⟩ := bcell K
    have hz : w.heap.size + 1 < w1.heap.size := by have := K.size; simp at this; omega
    go_wp2_with fail
    refine (cB _).mono ?_; rintro e w2 ⟨rfl, hb⟩
    replace K := K.trans (hb.mono K.size)
    clear hb hc hf hz
    obtain ⟨hc, hf⟩ := bcell K
    have hz : w.heap.size + 1 < w2.heap.size := by have := K.size; simp at this; omega
    go_wp2_with fail
    exact bodyPost_ret (v := .tuple #[.agg #[.int .i64 rh, .int .u64 rl], .int .i64 (d - 1 - r), .bool true]) (by simp [results, Try.results67, go_sem, hc]) rfl ⟨rfl, (((((Below.refl _ _).alloc (Nat.le_refl _) _).alloc (by simp) _).trans (K.mono (by simp; omega))).setCell (by simp) _).setCell (by simp) _⟩
theorem M.div_of {h x d : Int} (d1 : 1 ≤ d) :
    M.val h x / d = h / d * 18446744073709551616 + (h % d * 18446744073709551616 + x) / d ∧ M.val h x % d = (h % d * 18446744073709551616 + x) % d := by
  have e1 := Int.mul_ediv_add_emod h d
  have k : M.val h x = (h % d * 18446744073709551616 + x) + d * (h / d * 18446744073709551616) := by
    rw [← Int.mul_assoc]; unfold M.val; omega
  rw [k, Int.add_mul_ediv_left _ _ (by omega), Int.add_mul_emod_self_left]
  exact ⟨by omega, rfl⟩
theorem div_yes (h l d : Int) (b : M.B h l) (d1 : 1 ≤ d) (d2 : d < 9223372036854775808) (w : World) :
    Calls Try.prog 67 #[.agg #[.int .i64 h, .int .u64 l], .int .i64 d] w fun e w' =>
      e = .returned (.tuple #[.agg #[.int .i64 (M.oh (M.val h l / d)), .int .u64 (M.ol (M.val h l / d))], .int .i64 (M.val h l % d), .bool true]) ∧ Below w.heap.size w w' := by
  obtain ⟨h1, h2, h3, h4⟩ := b
  by_cases n : h < 0
  · have hm0 := Int.emod_nonneg (-1 - h) (b := d) (by omega)
    have hm1 := Int.emod_lt_of_pos (-1 - h) (b := d) (by omega)
    have D := M.div_of (h := -1 - h) (x := 18446744073709551615 - l) d1
    have q0 : 0 ≤ (-1 - h) / d := Int.ediv_nonneg (by omega) (by omega)
    have q1 : (-1 - h) / d ≤ -1 - h := Int.ediv_le_self _ (by omega)
    have l0 : 0 ≤ ((-1 - h) % d * 18446744073709551616 + (18446744073709551615 - l)) / d := Int.ediv_nonneg (by omega) (by omega)
    have l1 : ((-1 - h) % d * 18446744073709551616 + (18446744073709551615 - l)) / d < 18446744073709551616 := Int.ediv_lt_of_lt_mul (by omega) (by omega)
    have r0 := Int.emod_nonneg ((-1 - h) % d * 18446744073709551616 + (18446744073709551615 - l)) (b := d) (by omega)
    have r1 := Int.emod_lt_of_pos ((-1 - h) % d * 18446744073709551616 + (18446744073709551615 - l)) (b := d) (by omega)
    have C := fun e5 e6 e7 => div_core h l d (-1) (-1 - h) 18446744073709551615 (18446744073709551615 - l) _ (-1 - (-1 - h) / d) _ (18446744073709551615 - ((-1 - h) % d * 18446744073709551616 + (18446744073709551615 - l)) / d) _
      (d - 1 - ((-1 - h) % d * 18446744073709551616 + (18446744073709551615 - l)) % d) d1 d2 (by omega) (xor_ones h1 h2) (by rw [IntKind.wrap_u64]; rfl) (uxor_ones h3 h4) (by omega) (by omega) (by omega) (by omega) rfl rfl rfl l0 l1 e5 e6 e7 w
    have C2 := C (xor_ones (by omega) (by omega)) (uxor_ones l0 l1) (if_neg (by omega))
    have W := Int.mul_ediv_add_emod (M.val (-1 - h) (18446744073709551615 - l)) d
    have hv : M.val h l = -1 - M.val (-1 - h) (18446744073709551615 - l) := by unfold M.val; omega
    have k : M.val h l = (d - 1 - M.val (-1 - h) (18446744073709551615 - l) % d) + d * (-1 - M.val (-1 - h) (18446744073709551615 - l) / d) := by
      rw [Int.mul_sub, hv]; omega
    rw [D.2] at k
    have kq : M.val h l / d = -1 - M.val (-1 - h) (18446744073709551615 - l) / d := by
      rw [k, Int.add_mul_ediv_left _ _ (by omega), Int.ediv_eq_zero_of_lt (by omega) (by omega), Int.zero_add]
    have kr : M.val h l % d = d - 1 - ((-1 - h) % d * 18446744073709551616 + (18446744073709551615 - l)) % d := by
      rw [k, Int.add_mul_emod_self_left, Int.emod_eq_of_lt (by omega) (by omega)]
    rw [D.1] at kq
    have ov := M.ohl_of (v := M.val h l / d) (h := -1 - (-1 - h) / d) (l := 18446744073709551615 - ((-1 - h) % d * 18446744073709551616 + (18446744073709551615 - l)) / d) (by unfold M.B; omega) (by rw [kq]; unfold M.val; omega)
    refine C2.mono ?_
    rintro e w' ⟨rfl, hb⟩
    exact ⟨retpib ov.1.symm ov.2.symm kr.symm rfl, hb⟩
  · have hm0 := Int.emod_nonneg h (b := d) (by omega)
    have hm1 := Int.emod_lt_of_pos h (b := d) (by omega)
    have D := M.div_of (h := h) (x := l) d1
    have q0 : 0 ≤ h / d := Int.ediv_nonneg (by omega) (by omega)
    have q1 : h / d ≤ h := Int.ediv_le_self _ (by omega)
    have l0 : 0 ≤ (h % d * 18446744073709551616 + l) / d := Int.ediv_nonneg (by omega) (by omega)
    have l1 : (h % d * 18446744073709551616 + l) / d < 18446744073709551616 := Int.ediv_lt_of_lt_mul (by omega) (by omega)
    have C2 := div_core h l d 0 h 0 l _ (h / d) _ ((h % d * 18446744073709551616 + l) / d) _ _ d1 d2 (by omega) (xor_zero h1 h2) (by rw [IntKind.wrap_u64]; rfl) (uxor_zero h3 h4) (by omega) (by omega) (by omega) (by omega) rfl rfl rfl l0 l1 (xor_zero (by omega) (by omega)) (uxor_zero l0 l1) rfl w
    rw [if_pos rfl] at C2
    have ov := M.ohl_of (v := M.val h l / d) (h := h / d) (l := (h % d * 18446744073709551616 + l) / d) (by unfold M.B; omega) D.1
    refine C2.mono ?_
    rintro e w' ⟨rfl, hb⟩
    exact ⟨retpib ov.1.symm ov.2.symm D.2.symm rfl, hb⟩
end Go.Proofs.Ytdkppkdoconfhaa
namespace Go.Proofs.Ytdkppkdoconfhaa
open Go.ChangeShapes Go.WideShapes Go.ChangeAt Go.RowKit Go.Joins
set_option linter.unusedVariables false

section
variable {H : Type} {enc : TypeId × Value → H} {P : Program}
theorem post_of_below {f : Func} {s : ChangeSpec} {apart fresh handsOn again : Bool} {W W' : World} {args : Array Value} {v : Value} {ds gs : List (DataW H)} {before pa pv : List MemPlace}
    (hW : DataW.Whole enc P f.params.toList s.vars apart W args.toList ds gs before)
    (hres : ∀ (b : Nat) (sp : Nat → Bool) (hd : Bool), DataW.TrodAll enc P W' b sp hd f.resultTypes.toList (v.resultList f.resultTypes.size) (s.fn H (ds ++ gs)).results [])
    (hargs : ∀ sp : Nat → Bool, (∀ p ∈ before, sp p.block = true) → DataW.TrodAll enc P W' 0 sp true f.params.toList args.toList (s.fn H (ds ++ gs)).args pa)
    (hvars : ∀ sp : Nat → Bool, (∀ p ∈ before, sp p.block = true) → DataW.TrodVars enc P W' sp s.vars (s.fn H (ds ++ gs)).vars pv)
    (hps : before = pa ++ pv) (hb : Below W.heap.size W W')
    (hok : ∀ (j : Nat) (t : TypeId) (r : Value), f.resultTypes[j]? = some t → (v.resultList f.resultTypes.size)[j]? = some r → Value.okWide P W' .any 0 t r) :
    s.post enc P f apart fresh handsOn again W args v W' := by
  have hlt : ∀ p ∈ before, p.block < W.heap.size := fun p hp => hW.lt p hp
  have hold : ∀ p ∈ before, (fun b => decide (b < W.heap.size)) p.block = true := fun p hp => by simpa using hlt p hp
  refine ⟨ds, gs, before, [], pa, pv, hW, hres _ _ _, hargs _ hold, hvars _ hold, World.keptBut_mono (fun p hp => ⟨hp, ?_⟩) (hb.frame (· ∈ before)), fun _ => ?_⟩
  · rw [hps, List.mem_append] at hp
    exact Or.inr hp
  · obtain ⟨_, _, _, _, _, hz, hn⟩ := hW
    refine ⟨hok, _, _, ([] ++ pa) ++ pv, ⟨[] ++ pa, pv, trodAll_append (hargs _ (fun _ _ => rfl)) (hres _ _ _), hvars _ (fun _ _ => rfl), rfl, ?_, ?_⟩, ?_⟩
    · intro b off hp
      have hin : MemPlace.cell b off ∈ before := by rw [hps]; simpa using hp
      rw [hb.frozen (hlt _ hin)]
      exact hz b off hin
    · intro ha
      have := hn ha
      rw [hps] at this
      simpa using this
    · intro p hp _
      rw [hps]
      simpa using hp
end

theorem keep2a {x : World} {b : Nat} {v u : Value} {o : Obj} (h : x.cell? ⟨b, 0, none⟩ = some v ∧ x.cell? ⟨b, 1, none⟩ = some u ∧ b < x.heap.size) :
    (x.alloc o).cell? ⟨b, 0, none⟩ = some v ∧ (x.alloc o).cell? ⟨b, 1, none⟩ = some u ∧ b < (x.alloc o).heap.size :=
  ⟨(World.cell?_alloc_lt x o ⟨b, 0, none⟩ h.2.2).trans h.1, (World.cell?_alloc_lt x o ⟨b, 1, none⟩ h.2.2).trans h.2.1, by have := h.2.2; simp; omega⟩
theorem keep2b {x : World} {b : Nat} {v u : Value} {o o' : Obj} (hz : b < x.heap.size) (h : (x.alloc o).cell? ⟨b, 0, none⟩ = some v ∧ (x.alloc o).cell? ⟨b, 1, none⟩ = some u ∧ b < (x.alloc o).heap.size) :
    (x.alloc o').cell? ⟨b, 0, none⟩ = some v ∧ (x.alloc o').cell? ⟨b, 1, none⟩ = some u ∧ b < (x.alloc o').heap.size :=
  keep2a ⟨(World.cell?_alloc_lt x o ⟨b, 0, none⟩ hz).symm.trans h.1, (World.cell?_alloc_lt x o ⟨b, 1, none⟩ hz).symm.trans h.2.1, hz⟩
/-- A new struct's two cells. -/
theorem new2 {W x : World} {v u : Value} {t : TypeId} (K : Below W.heap.size W x) :
    (x.alloc (.cells #[v, u] t)).cell? ⟨x.heap.size, 0, none⟩ = some v ∧ (x.alloc (.cells #[v, u] t)).cell? ⟨x.heap.size, 1, none⟩ = some u ∧ x.heap.size < (x.alloc (.cells #[v, u] t)).heap.size ∧ Below W.heap.size W (x.alloc (.cells #[v, u] t)) :=
  ⟨by simp [World.cell?_alloc_new], by simp [World.cell?_alloc_new], by simp, K.alloc K.size _⟩
/-- A struct that was made before, stored into: its two cells. -/
theorem set2 {W y : World} {g : Nat} {a b v u : Value} (K : Below W.heap.size W y) (hg : W.heap.size ≤ g) (h0 : y.cell? ⟨g, 0, none⟩ = some a) (h1 : y.cell? ⟨g, 1, none⟩ = some b) (hz : g < y.heap.size) :
    ((y.setCell ⟨g, 0, none⟩ v).setCell ⟨g, 1, none⟩ u).cell? ⟨g, 0, none⟩ = some v ∧ ((y.setCell ⟨g, 0, none⟩ v).setCell ⟨g, 1, none⟩ u).cell? ⟨g, 1, none⟩ = some u ∧ g < ((y.setCell ⟨g, 0, none⟩ v).setCell ⟨g, 1, none⟩ u).heap.size ∧
      Below W.heap.size W ((y.setCell ⟨g, 0, none⟩ v).setCell ⟨g, 1, none⟩ u) := by
  have n01 : (⟨g, 0, none⟩ : Addr) ≠ ⟨g, 1, none⟩ := by simp
  have e1 : (y.setCell ⟨g, 0, none⟩ v).cell? ⟨g, 1, none⟩ = some b := (World.cell?_setCell_other y _ _ v n01).trans h1
  refine ⟨?_, ?_, by simp [World.setCell]; omega, (K.setCell (by dsimp only; omega) _).setCell (by dsimp only; omega) _⟩
  · rw [World.cell?_setCell_other _ _ _ u n01.symm]
    exact World.cell?_setCell_same y _ v h0
  · exact World.cell?_setCell_same _ _ u e1
theorem keep2s {x : World} {b : Nat} {v u z : Value} {p : Addr} (hp : b < p.block) (h : x.cell? ⟨b, 0, none⟩ = some v ∧ x.cell? ⟨b, 1, none⟩ = some u ∧ b < x.heap.size) :
    (x.setCell p z).cell? ⟨b, 0, none⟩ = some v ∧ (x.setCell p z).cell? ⟨b, 1, none⟩ = some u ∧ b < (x.setCell p z).heap.size :=
  ⟨(World.cell?_setCell_other x p ⟨b, 0, none⟩ z (fun e => by have : p.block = b := congrArg Addr.block e; omega)).trans h.1, (World.cell?_setCell_other x p ⟨b, 1, none⟩ z (fun e => by have : p.block = b := congrArg Addr.block e; omega)).trans h.2.1, by have := h.2.2; simp [World.setCell]; omega⟩
theorem cells24 : Try.prog.cellsOf 80 = 2 := by kernel_rfl
set_option maxRecDepth 100000 in
/-- An api.Int that came in. -/
theorem open24 {H : Type} {enc : TypeId × Value → H} {w : World} {base : Nat} {spare : Nat → Bool} {held : Bool} {r : Reach} {b0 : Nat} {v : Value} {d : DataW H} {p : List MemPlace}
    (hv : Value.okWide Try.prog w r b0 80 v) (h : DataW.Trod enc Try.prog w base spare held 80 v d p) :
    ∃ a b : Int, v = .agg #[.int .i64 a, .int .u64 b] ∧ d = .agg [.lit (.int .i64 a), .lit (.int .u64 b)] ∧ p = [] ∧ (Lit.int .i64 a).wf = true ∧ (Lit.int .u64 b).wf = true := by
  obtain ⟨c0, c1, y0, y1, m, rfl, rfl, rfl, hy0, hy1⟩ := open_agg2 Try.underlying80 (by kernel_rfl) cells24 hv h
  obtain ⟨a, e0, rfl, wa⟩ := DataW.trod_int Try.underlying3 hy0
  obtain ⟨b, e1, rfl, wb⟩ := DataW.trod_int Try.underlying78 hy1
  simp at e0 e1
  subst e0 e1
  exact ⟨a, b, rfl, rfl, rfl, wa, wb⟩
theorem shut24 {H : Type} {enc : TypeId × Value → H} {a b : Int} (wa : (Lit.int .i64 a).wf = true) (wb : (Lit.int .u64 b).wf = true) (W : World) (base : Nat) (sp : Nat → Bool) (hd : Bool) :
    DataW.Trod enc Try.prog W base sp hd 80 (.agg #[.int .i64 a, .int .u64 b]) (.agg [.lit (.int .i64 a), .lit (.int .u64 b)]) [] :=
  shut_agg2 (y0 := (.lit (.int .i64 a), [])) (y1 := (.lit (.int .u64 b), [])) Try.underlying80 (by kernel_rfl) cells24 ⟨1, by simp [DataW.trod, Try.underlying3, wa]⟩ ⟨1, by simp [DataW.trod, Try.underlying78, wb]⟩
theorem wf_urng {a : Int} (h : (Lit.int .u64 a).wf = true) : 0 ≤ a ∧ a < 18446744073709551616 := by
  simp [Lit.wf, IntKind.min, IntKind.max, IntKind.signed, IntKind.bits] at h
  omega
end Go.Proofs.Ytdkppkdoconfhaa
