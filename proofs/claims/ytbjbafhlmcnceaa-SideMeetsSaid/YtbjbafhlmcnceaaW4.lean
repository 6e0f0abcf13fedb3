/- Contract: what stands between two numbers. -/
import Derived.Test.YtbjbafhlmcnceaaTt
import Derived.Test.YtbjbafhlmcnceaaRDiv
import Derived.Test.YtbjbafhlmcnceaaSmall
namespace Go.Proofs.Ytbjbafhlmcnceaa
open Go.ChangeShapes Go.WideShapes Go.ChangeAt Go.RowKit
set_option linter.unusedVariables false
set_option linter.unusedSimpArgs false

theorem D.rng {a b n d : Int} (ha : -68719476736 ≤ a ∧ a ≤ 68719476736) (hb : -68719476736 ≤ b ∧ b ≤ 68719476736) (h0 : 0 ≤ n) (h1 : n ≤ d) (h2 : 1 ≤ d) (h3 : d < 9223372036854775808) :
    M.ok (a * (d - n)) = true ∧ M.ok (b * n) = true ∧ M.ok (a * (d - n) + b * n) = true ∧ M.ok (D.wt a b n d) = true ∧ M.fits (D.wt a b n d) = true := by
  have e1 := M.mul_hi (A := 68719476736) (B := 9223372036854775808) ha.1 ha.2 (show -9223372036854775808 ≤ d - n by omega) (show d - n ≤ 9223372036854775808 by omega)
  have e2 := M.mul_hi (A := 68719476736) (B := 9223372036854775808) hb.1 hb.2 (show -9223372036854775808 ≤ n by omega) (show n ≤ 9223372036854775808 by omega)
  have e3 := D.wt_le ha hb ⟨h0, h1⟩ h2
  refine ⟨M.ok_iff.2 ?_, M.ok_iff.2 ?_, M.ok_iff.2 ?_, M.ok_iff.2 ?_, M.fits_iff.2 ?_⟩ <;> omega
theorem addZ {z y : Int} (oz : M.ok z = true) (oy : M.ok y = true) (os : M.ok (z + y) = true) (w : World) :
    Calls Try.prog 32 #[.agg #[.int .i64 (M.oh z), .int .u64 (M.ol z)], .agg #[.int .i64 (M.oh y), .int .u64 (M.ol y)]] w fun e w' => e = .returned (.tuple #[.agg #[.int .i64 (M.oh (z + y)), .int .u64 (M.ol (z + y))], .bool true]) ∧ Below w.heap.size w w' := by
  have := add_any _ _ _ _ (M.b_of z) (M.b_of y) w
  rwa [M.val_of oz, M.val_of oy, os] at this
theorem divZ {z d : Int} (oz : M.ok z = true) (d1 : 1 ≤ d) (d2 : d < 9223372036854775808) (w : World) :
    Calls Try.prog 34 #[.agg #[.int .i64 (M.oh z), .int .u64 (M.ol z)], .int .i64 d] w fun e w' => e = .returned (.tuple #[.agg #[.int .i64 (M.oh (z / d)), .int .u64 (M.ol (z / d))], .int .i64 (z % d), .bool true]) ∧ Below w.heap.size w w' := by
  have := div_yes _ _ d (M.b_of z) d1 d2 w
  rwa [M.val_of oz] at this
theorem smallZ {z : Int} (oz : M.ok z = true) (fz : M.fits z = true) (w : World) :
    Calls Try.prog 35 #[.agg #[.int .i64 (M.oh z), .int .u64 (M.ol z)]] w fun e w' => e = .returned (.tuple #[.int .i64 z, .bool true]) ∧ Below w.heap.size w w' := by
  have := small_any _ _ (M.b_of z) w
  rwa [M.val_of oz, M.smv_yes fz, fz] at this
theorem rsmallZ {z : Int} (oz : M.ok z = true) (fz : M.fits z = true) (w : World) :
    Calls Try.prog 31 #[.agg #[.int .i64 (M.oh z), .int .u64 (M.ol z)]] w fun e w' => e = .returned (.tuple #[.int .i64 z, .bool true]) ∧ Below w.heap.size w w' := by
  have := rsmall_any _ _ (M.b_of z) w
  rwa [M.val_of oz, M.smv_yes fz, fz] at this
theorem fromZ {z : Int} (oz : M.ok z = true) (w : World) : Calls Try.prog 25 #[.agg #[.int .i64 (M.oh z), .int .u64 (M.ol z)]] w (RetNum w z) := by
  have := from_bits _ _ (M.b_of z) w
  rwa [M.val_of oz] at this
theorem one_i64 (h : Int) : (Value.int .i64 h).oneCell' = true := rfl
theorem two_one {a b : Value} (ha : a.oneCell' = true) (hb : b.oneCell' = true) : ∀ v ∈ [a, b], v.oneCell' = true := by
  intro v hv
  simp only [List.mem_cons, List.not_mem_nil, or_false] at hv
  rcases hv with rfl | rfl
  · exact ha
  · exact hb
set_option maxHeartbeats 4000000 in
theorem weighted_any (a b n d : Int) (ha : -68719476736 ≤ a ∧ a ≤ 68719476736) (hb : -68719476736 ≤ b ∧ b ≤ 68719476736) (h0 : 0 ≤ n) (h1 : n ≤ d) (h2 : 1 ≤ d) (h3 : d < 9223372036854775808) (w : World) :
    Calls Try.prog 24 #[.int .i64 a, .int .i64 b, .int .i64 n, .int .i64 d] w fun e w' => e = .returned (.int .i64 (D.wt a b n d)) ∧ Below w.heap.size w w' := by
  have O := Own.start w
  obtain ⟨o1, o2, o3, o4, o5⟩ := D.rng ha hb h0 h1 h2 h3
  have c1 := fun w => mul_any a (d - n) (by omega) (by omega) (by omega) (by omega) w
  have c2 := fun w => mul_any b n (by omega) (by omega) (by omega) (by omega) w
  have c3 := fun w => addZ o1 o2 o3 w
  have c4 := fun w => divZ o3 h2 h3 w
  have c5 := fun w => smallZ o4 o5 w
  have e : (a * (d - n) + b * n) / d = D.wt a b n d := rfl
  rw [e] at c4
  clear e
  generalize D.wt a b n d = q at *
  generalize (a * (d - n) + b * n) % d = r at *
  generalize a * (d - n) + b * n = s at *
  generalize a * (d - n) = z1 at *
  generalize b * n = z2 at *
  generalize M.oh q = qh at *
  generalize M.ol q = ql at *
  generalize M.oh s = sh at *
  generalize M.ol s = sl at *
  generalize M.oh z1 = h1' at *
  generalize M.ol z1 = l1' at *
  generalize M.oh z2 = h2' at *
  generalize M.ol z2 = l2' at *
  clear o1 o2 o3 o4 o5 ha hb
  go_enter Try.func24, Try.ntmps24
  go_wp2_with (first | (go_at_call_of 33 (Value.int IntKind.i64 a); refine (c1 _).mono ?_; rintro e w1 ⟨rfl, hb⟩; replace O := O.call hb; clear hb) | (go_at_call_of 33 (Value.int IntKind.i64 b); refine (c2 _).mono ?_; rintro e w2 ⟨rfl, hb⟩; replace O := O.call hb; clear hb) | (go_at_call 32; refine (c3 _).mono ?_; rintro e w3 ⟨rfl, hb⟩; replace O := O.call hb; clear hb) | ((with_reducible refine at_alloc 9 ?_); refine wpList_alloc_own O [.int .i64 0, .int .u64 0] zero54 ?_; clear O; intro g9 w4 O) | ((with_reducible refine at_store 9 ?_); refine wpList_put_own O 0 [.int .i64 sh, .int .u64 sl] rfl rfl rfl size54 rfl (two_one rfl rfl) ?_; clear O; intro w5 O) | ((with_reducible refine at_load 29 ?_); refine wpList_whole rfl O 0 rfl rfl Try.underlying54 rfl size54 ?_) | (go_at_call 34; refine (c4 _).mono ?_; rintro e w6 ⟨rfl, hb⟩; replace O := O.call hb; clear hb) | ((with_reducible refine at_alloc 11 ?_); refine wpList_alloc_own O [.int .i64 0, .int .u64 0] zero54 ?_; clear O; intro g11 w7 O) | ((with_reducible refine at_store 11 ?_); refine wpList_put_own O 0 [.int .i64 qh, .int .u64 ql] rfl rfl rfl size54 rfl (two_one rfl rfl) ?_; clear O; intro w8 O) | ((with_reducible refine at_load 36 ?_); refine wpList_whole rfl O 0 rfl rfl Try.underlying54 rfl size54 ?_) | (go_at_call 35; refine (c5 _).mono ?_; rintro e w9 ⟨rfl, hb⟩; replace O := O.call hb; clear hb))
  go_ret
  exact ⟨rfl, O.below⟩
end Go.Proofs.Ytbjbafhlmcnceaa
