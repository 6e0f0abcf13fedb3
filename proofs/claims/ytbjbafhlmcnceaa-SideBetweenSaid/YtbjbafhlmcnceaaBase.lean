/- Contracts of the program's numbers of 128 bits: Of, Small, Sign, Cmp, Neg, Add, Sub, Mul, and of what they call. -/
import Derived.Test.YtbjbafhlmcnceaaRows
import Derived.Test.YtbjbafhlmcnceaaMath
import Derived.Test.YtbjbafhlmcnceaaBits
import Derived.WalkKit
import Derived.ProofKit
import Derived.OpenShut
import Derived.Outline
import Derived.WalkLawsBesides
import Derived.Laws.Externs
import Derived.Lib.Hide
import Derived.Below
import Derived.Deep.QuietTactic
import Derived.BigQuiet
import Derived.Deep.RegionHeld3
import Derived.Shelf.Spec.BitsCarry
namespace Go.Proofs.Ytbjbafhlmcnceaa
open Go.ChangeShapes Go.WideShapes Go.ChangeAt Go.RowKit
set_option linter.unusedVariables false

theorem vint {k : IntKind} {a b : Int} (h : a = b) : Value.int k a = Value.int k b := by rw [h]
theorem ret1 {k : IntKind} {a b : Int} (h : a = b) : Ending.returned (.int k a) = .returned (.int k b) := by rw [h]
theorem retb {a b : Bool} (h : a = b) : Ending.returned (.bool a) = .returned (.bool b) := by rw [h]
theorem retp {a b c d : Int} (h : a = c) (g : b = d) : Ending.returned (.agg #[.int .i64 a, .int .u64 b]) = .returned (.agg #[.int .i64 c, .int .u64 d]) := by rw [h, g]
theorem retpb {a b c d : Int} {x y : Bool} (h : a = c) (g : b = d) (k : x = y) : Ending.returned (.tuple #[.agg #[.int .i64 a, .int .u64 b], .bool x]) = .returned (.tuple #[.agg #[.int .i64 c, .int .u64 d], .bool y]) := by rw [h, g, k]
theorem ret1b {k : IntKind} {a b : Int} {x y : Bool} (h : a = b) (g : x = y) : Ending.returned (.tuple #[.int k a, .bool x]) = .returned (.tuple #[.int k b, .bool y]) := by rw [h, g]
theorem bcell {W w1 : World} (hb : Below W.heap.size W w1) : (∀ b o, b < W.heap.size → w1.cell? ⟨b, o, none⟩ = W.cell? ⟨b, o, none⟩) ∧ (∀ b o, b < W.heap.size → w1.frozen? ⟨b, o, none⟩ = W.frozen? ⟨b, o, none⟩) :=
  ⟨fun b o h => hb.cell (p := ⟨b, o, none⟩) h, fun b o h => hb.frozen (p := ⟨b, o, none⟩) h⟩

theorem add64_run (x y c : Int) (hx : 0 ≤ x) (hy : 0 ≤ y) (hc : 0 ≤ c) (hc1 : c ≤ 1) : ∀ w : World, (callFunc 44 #[.int .u64 x, .int .u64 y, .int .u64 c]).run Try.prog w = .ok (.value (.tuple #[.int .u64 ((x + y + c) % 18446744073709551616), .int .u64 ((x + y + c) / 18446744073709551616)])) w := by
  intro w
  rw [run_callFunc_extern Try.func44 (by kernel_rfl) (by kernel_rfl) (by kernel_rfl) (e := add64Entry) (by kernel_rfl), run_add64 x y c hx hy hc hc1]
  rfl
theorem of_any (n : Int) (h1 : -9223372036854775808 ≤ n) (h2 : n < 9223372036854775808) (w : World) :
    Calls Try.prog 47 #[.int .i64 n] w fun e w' => e = .returned (.agg #[.int .i64 (M.oh n), .int .u64 (M.ol n)]) ∧ Below w.heap.size w w' := by
  have H := M.of_parts h1 h2
  have HH := Lib.hid H
  clear H
  go_enter Try.func47, Try.ntmps47
  go_wp2
  exact bodyPost_ret (v := .agg #[.int .i64 (n / 9223372036854775808), .int .u64 (IntKind.u64.wrap n)]) (by simp [results, Try.results47, go_sem]) rfl ⟨retp HH.out.1 (by rw [IntKind.wrap_u64]; exact HH.out.2), (Below.refl _ _).alloc (Nat.le_refl _) _⟩
theorem rof_any (n : Int) (h1 : -9223372036854775808 ≤ n) (h2 : n < 9223372036854775808) (w : World) :
    Calls Try.prog 29 #[.int .i64 n] w fun e w' => e = .returned (.agg #[.int .i64 (M.oh n), .int .u64 (M.ol n)]) ∧ Below w.heap.size w w' := by
  have H := M.of_parts h1 h2
  have HH := Lib.hid H
  clear H
  by_cases h : n < 0
  · have e : n / 9223372036854775808 = -1 := by omega
    have HE := Lib.hid e
    clear e
    go_enter Try.func29, Try.ntmps29
    go_wp2
    exact bodyPost_ret (v := .agg #[.int .i64 (-1), .int .u64 (IntKind.u64.wrap n)]) (by simp [results, Try.results29, go_sem]) rfl ⟨retp (by rw [← HE.out]; exact HH.out.1) (by rw [IntKind.wrap_u64]; exact HH.out.2), (Below.refl _ _).alloc (Nat.le_refl _) _⟩
  · have e : n / 9223372036854775808 = 0 := by omega
    have HE := Lib.hid e
    clear e
    go_enter Try.func29, Try.ntmps29
    go_wp2
    exact bodyPost_ret (v := .agg #[.int .i64 0, .int .u64 n]) (by simp [results, Try.results29, go_sem]) rfl ⟨retp (by rw [← HE.out]; exact HH.out.1) (by rw [← HH.out.2]; omega), (Below.refl _ _).alloc (Nat.le_refl _) _⟩
theorem bb1 {w w' : World} {n : Nat} {o : Obj} (hb : Below n (w.alloc o).drew w') (hn : w.heap.size ≤ n) : Below w.heap.size w w' :=
  (((Below.refl _ w).alloc (Nat.le_refl _) o).drew).trans (hb.mono hn)
theorem small_any (h l : Int) (b : M.B h l) (w : World) :
    Calls Try.prog 35 #[.agg #[.int .i64 h, .int .u64 l]] w fun e w' => e = .returned (.tuple #[.int .i64 (M.smv (M.val h l)), .bool (M.fits (M.val h l))]) ∧ Below w.heap.size w w' := by
  obtain ⟨n, hn⟩ : ∃ n, wrap64 l = n := ⟨_, rfl⟩
  have hl : -9223372036854775808 ≤ n ∧ n < 9223372036854775808 := by rw [← hn]; unfold wrap64; omega
  have H := Lib.hid (M.small_of b (by rw [← hn]; unfold wrap64; rfl : (l + 9223372036854775808) % 18446744073709551616 - 9223372036854775808 = n))
  have c := of_any n hl.1 hl.2
  clear hl b
  generalize M.oh n = p at *
  generalize M.ol n = q at *
  by_cases hpq : h = p ∧ l = q
  · obtain ⟨h1, h2⟩ := hpq
    have k1 : (h == p) = true := by simpa using h1
    have k2 : (l == q) = true := by simpa using h2
    have HH := Lib.hid (H.out.1 h1 h2)
    clear h1 h2 H
    go_enter Try.func35, Try.ntmps35
    go_wp2_with fail
    go_region_held3 (fun w' => w'.cell? ⟨w.heap.size, 0, none⟩ = some (.int .i64 h) ∧ w'.cell? ⟨w.heap.size, 1, none⟩ = some (.int .u64 l)) (go_keep)
      ((go_at_call 47; refine (c _).mono ?_; rintro e w' ⟨rfl, hb⟩; obtain ⟨hc, hf⟩ := bcell hb))
    all_goals go_wp2
    all_goals go_ret2
    all_goals exact ⟨ret1b (by rw [M.smv_yes HH.out.1]; exact HH.out.2) HH.out.1.symm, bb1 hb (by simp)⟩
  · have HH := Lib.hid (H.out.2 hpq)
    have k1 : (h == p && l == q) = false := by simpa using hpq
    clear hpq H
    by_cases h1 : h = p
    · have k1 : (h == p) = true := by simpa using h1
      have k2 : (l == q) = false := by simp_all
      clear h1
      go_enter Try.func35, Try.ntmps35
      go_wp2_with fail
      go_region_held3 (fun w' => w'.cell? ⟨w.heap.size, 0, none⟩ = some (.int .i64 h) ∧ w'.cell? ⟨w.heap.size, 1, none⟩ = some (.int .u64 l)) (go_keep)
        ((go_at_call 47; refine (c _).mono ?_; rintro e w' ⟨rfl, hb⟩; obtain ⟨hc, hf⟩ := bcell hb))
      all_goals go_wp2
      all_goals go_ret2
      all_goals exact ⟨ret1b (M.smv_no HH.out).symm HH.out.symm, bb1 hb (by simp)⟩
    · have k1 : (h == p) = false := by simpa using h1
      clear h1
      go_enter Try.func35, Try.ntmps35
      go_wp2_with fail
      go_region_held3 (fun w' => w'.cell? ⟨w.heap.size, 0, none⟩ = some (.int .i64 h) ∧ w'.cell? ⟨w.heap.size, 1, none⟩ = some (.int .u64 l)) (go_keep)
        ((go_at_call 47; refine (c _).mono ?_; rintro e w' ⟨rfl, hb⟩; obtain ⟨hc, hf⟩ := bcell hb))
      all_goals go_wp2
      all_goals go_ret2
      all_goals exact ⟨ret1b (M.smv_no HH.out).symm HH.out.symm, bb1 hb (by simp)⟩
theorem add_any (h l h' l' : Int) (b : M.B h l) (b' : M.B h' l') (w : World) :
    Calls Try.prog 32 #[.agg #[.int .i64 h, .int .u64 l], .agg #[.int .i64 h', .int .u64 l']] w fun e w' =>
      e = .returned (.tuple #[.agg #[.int .i64 (M.oh (M.val h l + M.val h' l')), .int .u64 (M.ol (M.val h l + M.val h' l'))], .bool (M.ok (M.val h l + M.val h' l'))]) ∧ Below w.heap.size w w' := by
  have bb := Lib.hid b
  have bb' := Lib.hid b'
  obtain ⟨h1, h2, h3, h4⟩ := b
  obtain ⟨h5, h6, h7, h8⟩ := b'
  have r1 := add64_run l l' 0 h3 h7 (by omega) (by omega)
  rw [Int.add_zero] at r1
  obtain ⟨c, hc⟩ : ∃ z, (l + l') / 18446744073709551616 = z := ⟨_, rfl⟩
  obtain ⟨lo, hlo⟩ : ∃ z, (l + l') % 18446744073709551616 = z := ⟨_, rfl⟩
  obtain ⟨u, hu⟩ : ∃ z, IntKind.u64.wrap h = z := ⟨_, rfl⟩
  obtain ⟨u', hu'⟩ : ∃ z, IntKind.u64.wrap h' = z := ⟨_, rfl⟩
  rw [hc, hlo] at r1
  have eu : h % 18446744073709551616 = u := by rw [← hu, IntKind.wrap_u64]
  have eu' : h' % 18446744073709551616 = u' := by rw [← hu', IntKind.wrap_u64]
  have r2 := add64_run u u' c (by omega) (by omega) (by omega) (by omega)
  obtain ⟨s, hs⟩ : ∃ z, (u + u' + c) % 18446744073709551616 = z := ⟨_, rfl⟩
  obtain ⟨s', hs'⟩ : ∃ z, (u + u' + c) / 18446744073709551616 = z := ⟨_, rfl⟩
  obtain ⟨x, hx⟩ : ∃ z, wrap64 s = z := ⟨_, rfl⟩
  rw [hs, hs'] at r2
  have ex : (s + 9223372036854775808) % 18446744073709551616 - 9223372036854775808 = x := by rw [← hx]; unfold wrap64; rfl
  have H := M.add_of bb.out bb'.out hc hlo eu eu' hs ex
  have T := add_test (h := h) (h' := h') (x := x) h1 h2 h5 h6 (by omega) (by omega)
  clear hc hlo eu eu' hs hs' ex bb bb'
  by_cases o : M.ok (M.val h l + M.val h' l') = true
  · obtain ⟨t, e1, e2⟩ := H.1 o
    rw [t] at T
    have E1 := Lib.hid e1
    have E2 := Lib.hid e2
    have O := Lib.hid o
    clear H t e1 e2 o
    go_enter Try.func32, Try.ntmps32
    go_wp2
    exact bodyPost_ret (v := .tuple #[.agg #[.int .i64 x, .int .u64 lo], .bool true]) (by simp [results, Try.results32, go_sem]) rfl ⟨retpb E1.out E2.out O.out.symm, (((Below.refl _ _).alloc (Nat.le_refl _) _).alloc (by simp) _).alloc (by simp; omega) _⟩
  · have o := Bool.eq_false_iff.2 o
    have t := H.2 o
    rw [t] at T
    have E1 := Lib.hid (M.no_of o)
    have O := Lib.hid o
    clear H t o
    go_enter Try.func32, Try.ntmps32
    go_wp2
    exact bodyPost_ret (v := .tuple #[.agg #[.int .i64 0, .int .u64 0], .bool false]) (by simp [results, Try.results32, go_sem]) rfl ⟨retpb E1.out.1.symm E1.out.2.symm O.out.symm, (((Below.refl _ _).alloc (Nat.le_refl _) _).alloc (by simp) _).alloc (by simp; omega) _⟩
end Go.Proofs.Ytbjbafhlmcnceaa
