/- Contract: what stands between two numbers. Contract: what stands between two numbers by the document. Contracts: between, At; the refusals of both At. Contract: At by the document. New blocks of four numbers, laid and written in any order; ways from end to end. -/
import Derived.Test.YtbpignicffkaoaaL2
import Derived.Test.YtbpignicffkaoaaL4
import Derived.Test.YtbpignicffkaoaaL3
import Derived.Test.YtbpignicffkaoaaL5
namespace Go.Proofs.Ytbpignicffkaoaa
open Go.ChangeShapes Go.WideShapes Go.ChangeAt Go.RowKit
set_option linter.unusedVariables false
set_option linter.unusedSimpArgs false

theorem D.rng {a b n d : Int} (ha : -68719476736 ≤ a ∧ a ≤ 68719476736) (hb : -68719476736 ≤ b ∧ b ≤ 68719476736) (h0 : 0 ≤ n) (h1 : n ≤ d) (h2 : 1 ≤ d) (h3 : d < 9223372036854775808) :
    M.ok (a * (d - n)) = true ∧ M.ok (b * n) = true ∧ M.ok (a * (d - n) + b * n) = true ∧ M.ok (D.wt a b n d) = true ∧ M.fits (D.wt a b n d) = true := by
  have e1 := M.mul_hi (A := 68719476736) (B := 9223372036854775808) ha.1 ha.2 (show -9223372036854775808 ≤ d - n by omega) (show d - n ≤ 9223372036854775808 by omega)
  have e2 := M.mul_hi (A := 68719476736) (B := 9223372036854775808) hb.1 hb.2 (show -9223372036854775808 ≤ n by omega) (show n ≤ 9223372036854775808 by omega)
  have e3 := D.wt_le ha hb ⟨h0, h1⟩ h2
  refine ⟨M.ok_iff.2 ?_, M.ok_iff.2 ?_, M.ok_iff.2 ?_, M.ok_iff.2 ?_, M.fits_iff.2 ?_⟩ <;> omega
theorem addZ {z y : Int} (oz : M.ok z = true) (oy : M.ok y = true) (os : M.ok (z + y) = true) (w : World) :
    Calls Try.prog 51 #[.agg #[.int .i64 (M.oh z), .int .u64 (M.ol z)], .agg #[.int .i64 (M.oh y), .int .u64 (M.ol y)]] w fun e w' => e = .returned (.tuple #[.agg #[.int .i64 (M.oh (z + y)), .int .u64 (M.ol (z + y))], .bool true]) ∧ Below w.heap.size w w' := by
  have := add_any _ _ _ _ (M.b_of z) (M.b_of y) w
  rwa [M.val_of oz, M.val_of oy, os] at this
theorem divZ {z d : Int} (oz : M.ok z = true) (d1 : 1 ≤ d) (d2 : d < 9223372036854775808) (w : World) :
    Calls Try.prog 53 #[.agg #[.int .i64 (M.oh z), .int .u64 (M.ol z)], .int .i64 d] w fun e w' => e = .returned (.tuple #[.agg #[.int .i64 (M.oh (z / d)), .int .u64 (M.ol (z / d))], .int .i64 (z % d), .bool true]) ∧ Below w.heap.size w w' := by
  have := div_yes _ _ d (M.b_of z) d1 d2 w
  rwa [M.val_of oz] at this
theorem smallZ {z : Int} (oz : M.ok z = true) (fz : M.fits z = true) (w : World) :
    Calls Try.prog 54 #[.agg #[.int .i64 (M.oh z), .int .u64 (M.ol z)]] w fun e w' => e = .returned (.tuple #[.int .i64 z, .bool true]) ∧ Below w.heap.size w w' := by
  have := small_any _ _ (M.b_of z) w
  rwa [M.val_of oz, M.smv_yes fz, fz] at this
theorem rsmallZ {z : Int} (oz : M.ok z = true) (fz : M.fits z = true) (w : World) :
    Calls Try.prog 40 #[.agg #[.int .i64 (M.oh z), .int .u64 (M.ol z)]] w fun e w' => e = .returned (.tuple #[.int .i64 z, .bool true]) ∧ Below w.heap.size w w' := by
  have := rsmall_any _ _ (M.b_of z) w
  rwa [M.val_of oz, M.smv_yes fz, fz] at this
theorem fromZ {z : Int} (oz : M.ok z = true) (w : World) : Calls Try.prog 34 #[.agg #[.int .i64 (M.oh z), .int .u64 (M.ol z)]] w (RetNum w z) := by
  have := from_bits _ _ (M.b_of z) w
  rwa [M.val_of oz] at this
theorem one_i64 (h : Int) : (Value.int .i64 h).oneCell' = true := rfl
theorem two_one {a b : Value} (ha : a.oneCell' = true) (hb : b.oneCell' = true) : ∀ v ∈ [a, b], v.oneCell' = true := by
  intro v hv
  simp only [List.mem_cons, List.not_mem_nil, or_false] at hv
  rcases hv with rfl | rfl
  · exact ha
  · exact hb
set_option maxHeartbeats 4000000 in
theorem weighted_any (a b n d : Int) (ha : -68719476736 ≤ a ∧ a ≤ 68719476736) (hb : -68719476736 ≤ b ∧ b ≤ 68719476736) (h0 : 0 ≤ n) (h1 : n ≤ d) (h2 : 1 ≤ d) (h3 : d < 9223372036854775808) (w : World) :
    Calls Try.prog 50 #[.int .i64 a, .int .i64 b, .int .i64 n, .int .i64 d] w fun e w' => e = .returned (.int .i64 (D.wt a b n d)) ∧ Below w.heap.size w w' := by
  have O := Own.start w
  obtain ⟨o1, o2, o3, o4, o5⟩ := D.rng ha hb h0 h1 h2 h3
  have c1 := fun w => mul_any a (d - n) (by omega) (by omega) (by omega) (by omega) w
  have c2 := fun w => mul_any b n (by omega) (by omega) (by omega) (by omega) w
  have c3 := fun w => addZ o1 o2 o3 w
  have c4 := fun w => divZ o3 h2 h3 w
  have c5 := fun w => smallZ o4 o5 w
  have e : (a * (d - n) + b * n) / d = D.wt a b n d := rfl
  rw [e] at c4
  clear e
  generalize D.wt a b n d = q at *
  generalize (a * (d - n) + b * n) % d = r at *
  generalize a * (d - n) + b * n = s at *
  generalize a * (d - n) = z1 at *
  generalize b * n = z2 at *
  generalize M.oh q = qh at *
  generalize M.ol q = ql at *
  generalize M.oh s = sh at *
  generalize M.ol s = sl at *
  generalize M.oh z1 = h1' at *
  generalize M.ol z1 = l1' at *
  generalize M.oh z2 = h2' at *
  generalize M.ol z2 = l2' at *
  clear o1 o2 o3 o4 o5 ha hb
  go_enter Try.func50, Try.ntmps50
  go_wp2_with (first | (go_at_call_of 52 (Value.int IntKind.i64 a); refine (c1 _).mono ?_; rintro e w1 ⟨rfl, hb⟩; replace O := O.call hb; clear hb) | (go_at_call_of 52 (Value.int IntKind.i64 b); refine (c2 _).mono ?_; rintro e w2 ⟨rfl, hb⟩; replace O := O.call hb; clear hb) | (go_at_call 51; refine (c3 _).mono ?_; rintro e w3 ⟨rfl, hb⟩; replace O := O.call hb; clear hb) | ((with_reducible refine at_alloc 9 ?_); refine wpList_alloc_own O [.int .i64 0, .int .u64 0] zero54 ?_; clear O; intro g9 w4 O) | ((with_reducible refine at_store 9 ?_); refine wpList_put_own O 0 [.int .i64 sh, .int .u64 sl] rfl rfl rfl size54 rfl (two_one rfl rfl) ?_; clear O; intro w5 O) | ((with_reducible refine at_load 29 ?_); refine wpList_whole rfl O 0 rfl rfl Try.underlying65 rfl size54 ?_) | (go_at_call 53; refine (c4 _).mono ?_; rintro e w6 ⟨rfl, hb⟩; replace O := O.call hb; clear hb) | ((with_reducible refine at_alloc 11 ?_); refine wpList_alloc_own O [.int .i64 0, .int .u64 0] zero54 ?_; clear O; intro g11 w7 O) | ((with_reducible refine at_store 11 ?_); refine wpList_put_own O 0 [.int .i64 qh, .int .u64 ql] rfl rfl rfl size54 rfl (two_one rfl rfl) ?_; clear O; intro w8 O) | ((with_reducible refine at_load 36 ?_); refine wpList_whole rfl O 0 rfl rfl Try.underlying65 rfl size54 ?_) | (go_at_call 54; refine (c5 _).mono ?_; rintro e w9 ⟨rfl, hb⟩; replace O := O.call hb; clear hb))
  go_ret
  exact ⟨rfl, O.below⟩
end Go.Proofs.Ytbpignicffkaoaa
namespace Go.Proofs.Ytbpignicffkaoaa
open Go.ChangeShapes Go.WideShapes Go.ChangeAt Go.RowKit
set_option linter.unusedVariables false
set_option linter.unusedSimpArgs false

/-- A number of the document's that lies in memory, as a list. -/
def numE (lo : Nat) (A : Option Addr) (l : List Nat) : Ent := ⟨lo, A, l.length, l.length, 1, cells l⟩
theorem num_lies {w : World} {z : Int} {A : Option Addr} {l : List Nat} (h : NumR w z A l) : Lies w free (numE 0 A l) :=
  ⟨by simp [numE, cells], Nat.le_refl _, fun h0 => by
    obtain ⟨ad, h1, h2, h3⟩ := h.1.lies h0
    exact ⟨ad, h1, Nat.zero_le _, h2, id, h3⟩⟩
theorem num_gain {w0 w w' : World} {bs : List (Nat × TypeId × List Value)} {R : RowD} {es : List Ent} {z : Int} {e : Ending} (O : Held w0 w bs R es) (h : RetNum w z e w') :
    ∃ A c l, e = .returned (.agg #[.bool (decide (z < 0)), .slice A (List.length l) c]) ∧ Held w0 w' bs R (numE w0.heap.size A l :: es) ∧ L.Can l ∧ L.nat l = z.natAbs := by
  obtain ⟨A, c, l, rfl, hr, hC, hz, hA, hb⟩ := h
  refine ⟨A, c, l, rfl, O.gain hb ⟨by simp [cells], Nat.le_refl _, fun h0 => ?_⟩, hC, hz⟩
  obtain ⟨ad, h1, h2, h3⟩ := hr.lies h0
  exact ⟨ad, h1, hA ad h1, h2, id, h3⟩
theorem num_of {w0 w : World} {bs : List (Nat × TypeId × List Value)} {R : RowD} {es : List Ent} {z : Int} {lo : Nat} {A : Option Addr} {l : List Nat} (O : Held w0 w bs R es) (hm : numE lo A l ∈ es) (hC : L.Can l) (hz : L.nat l = z.natAbs) : NumR w z A l :=
  ⟨(O.arg hm).reads, hC, hz⟩
set_option maxHeartbeats 4000000 in
theorem mid_any (a b n d : Int) (ha : -68719476736 ≤ a ∧ a ≤ 68719476736) (hb : -68719476736 ≤ b ∧ b ≤ 68719476736) (h0 : 0 ≤ n) (h1 : n ≤ d) (h2 : 1 ≤ d) (h3 : d < 9223372036854775808) (w : World) :
    Calls Try.prog 29 #[.int .i64 a, .int .i64 b, .int .i64 n, .int .i64 d] w fun e w' => e = .returned (.int .i64 (D.wt a b n d)) ∧ Below w.heap.size w w' := by
  have O := Held.start w [] (by simp)
  obtain ⟨o1, o2, o3, o4, o5⟩ := D.rng ha hb h0 h1 h2 h3
  have od : M.ok d = true := M.ok_iff.2 (by omega)
  have c1 := fun w => rmul_any a (d - n) (by omega) (by omega) (by omega) (by omega) w
  have c2 := fun w => rmul_any b n (by omega) (by omega) (by omega) (by omega) w
  have c3 := fun w => rof_any d (by omega) (by omega) w
  have f1 := fun w => fromZ o1 w
  have f2 := fun w => fromZ o2 w
  have f3 := fun w => fromZ od w
  have t4 := fun w A l c (h : NumR w (D.wt a b n d) A l) => toZ c h (by have := h.len 128 (natAbs_lt o4); omega)
  have c5 := fun w => rsmallZ o4 o5 w
  have e : (a * (d - n) + b * n) / d = D.wt a b n d := rfl
  have fl := fun w A l c B m c' (h : NumR w (a * (d - n) + b * n) A l) (g : NumR w d B m) => floorZ c c' h g h2 (by have := h.len 128 (natAbs_lt o3); omega) (by have := g.len 128 (natAbs_lt od); omega)
  have su := fun w A l c B m c' (h : NumR w (a * (d - n)) A l) (g : NumR w (b * n) B m) => sumZ c c' h g (by have := h.len 128 (natAbs_lt o1); omega) (by have := g.len 128 (natAbs_lt o2); omega)
  rw [o4] at t4
  rw [e] at fl
  clear e
  generalize D.wt a b n d = q at *
  generalize (a * (d - n) + b * n) % d = r at *
  generalize a * (d - n) + b * n = s at *
  generalize a * (d - n) = z1 at *
  generalize b * n = z2 at *
  generalize M.oh q = qh at *
  generalize M.ol q = ql at *
  generalize M.oh d = dh at *
  generalize M.ol d = dl at *
  generalize M.oh z1 = h1' at *
  generalize M.ol z1 = l1' at *
  generalize M.oh z2 = h2' at *
  generalize M.ol z2 = l2' at *
  clear o1 o2 o3 o4 o5 od ha hb
  go_enter Try.func29, Try.ntmps29
  go_wp2_with (first | (go_at_call_of 35 (Value.int IntKind.i64 a); refine (c1 _).mono ?_; rintro e w1 ⟨rfl, hb⟩; replace O := O.call hb; clear hb) | (go_at_call_of 34 (Value.agg #[Value.int IntKind.i64 h1', Value.int IntKind.u64 l1']); refine (f1 _).mono ?_; rintro e w2 hret; obtain ⟨A1, k1, n1, rfl, O2, C1, Z1⟩ := num_gain O hret; clear hret O; have O := O2; clear O2) | ((with_reducible refine at_alloc 9 ?_); refine wpList_alloc_h O [.bool false, .slice none 0 0] zero50 ?_; clear O; intro g9 w3 O) | ((with_reducible refine at_store 9 ?_); refine wpList_put_h O 0 [.bool (decide (z1 < 0)), .slice A1 (List.length n1) k1] rfl rfl rfl size50 rfl (two_one rfl rfl) ?_; clear O; intro w4 O) | (go_at_call_of 35 (Value.int IntKind.i64 b); refine (c2 _).mono ?_; rintro e w5 ⟨rfl, hb⟩; replace O := O.call hb; clear hb) | (go_at_call_of 34 (Value.agg #[Value.int IntKind.i64 h2', Value.int IntKind.u64 l2']); refine (f2 _).mono ?_; rintro e w6 hret; obtain ⟨A2, k2, n2, rfl, O2, C2, Z2⟩ := num_gain O hret; clear hret O; have O := O2; clear O2) | ((with_reducible refine at_alloc 10 ?_); refine wpList_alloc_h O [.bool false, .slice none 0 0] zero50 ?_; clear O; intro g10 w7 O) | ((with_reducible refine at_store 10 ?_); refine wpList_put_h O 0 [.bool (decide (z2 < 0)), .slice A2 (List.length n2) k2] rfl rfl rfl size50 rfl (two_one rfl rfl) ?_; clear O; intro w8 O) | ((with_reducible refine at_load 28 ?_); refine wpList_rowg_h rfl O 1 rfl rfl Try.underlying61 rfl size50 ?_) | ((with_reducible refine at_load 29 ?_); refine wpList_rowg_h rfl O 0 rfl rfl Try.underlying61 rfl size50 ?_) | (go_at_call 37; refine (su _ _ _ _ _ _ _ (num_of O (List.mem_cons_of_mem _ List.mem_cons_self) C1 Z1) (num_of O List.mem_cons_self C2 Z2)).mono ?_; rintro e w9 hret; obtain ⟨A3, k3, n3, rfl, O2, C3, Z3⟩ := num_gain O hret; clear hret O; have O := O2; clear O2) | (go_at_call 38; refine (c3 _).mono ?_; rintro e w10 ⟨rfl, hb⟩; replace O := O.call hb; clear hb) | (go_at_call_of 34 (Value.agg #[Value.int IntKind.i64 dh, Value.int IntKind.u64 dl]); refine (f3 _).mono ?_; rintro e w11 hret; obtain ⟨A4, k4, n4, rfl, O2, C4, Z4⟩ := num_gain O hret; clear hret O; have O := O2; clear O2) | (go_at_call 36; refine (fl _ _ _ _ _ _ _ (num_of O (List.mem_cons_of_mem _ List.mem_cons_self) C3 Z3) (num_of O List.mem_cons_self C4 Z4)).mono ?_; rintro e w12 ⟨Aq, kq, nq, Ar, kr, nr, rfl, NQ, NR, hb⟩; replace O := O.call hb; have hB := O.below; clear O hb; have O := Held.start w12 [numE 0 Aq nq, numE 0 Ar nr] (by simpa using ⟨num_lies NQ, num_lies NR⟩); obtain ⟨-, Cq, Zq⟩ := NQ; clear NR) | ((with_reducible refine at_alloc 11 ?_); refine wpList_alloc_h O [.bool false, .slice none 0 0] zero50 ?_; clear O; intro g11 w13 O) | ((with_reducible refine at_alloc 12 ?_); refine wpList_alloc_h O [.bool false, .slice none 0 0] zero50 ?_; clear O; intro g12 w14 O) | ((with_reducible refine at_store 11 ?_); refine wpList_put_h O 1 [.bool (decide (q < 0)), .slice Aq (List.length nq) kq] rfl rfl rfl size50 rfl (two_one rfl rfl) ?_; clear O; intro w15 O) | ((with_reducible refine at_store 12 ?_); refine wpList_put_h O 0 [.bool (decide (r < 0)), .slice Ar (List.length nr) kr] rfl rfl rfl size50 rfl (two_one rfl rfl) ?_; clear O; intro w16 O) | ((with_reducible refine at_load 38 ?_); refine wpList_rowg_h rfl O 1 rfl rfl Try.underlying61 rfl size50 ?_) | (go_at_call 39; refine (t4 _ _ _ _ (num_of O List.mem_cons_self Cq Zq)).mono ?_; rintro e w17 ⟨rfl, hb⟩; replace O := O.call hb; clear hb) | ((with_reducible refine at_alloc 13 ?_); refine wpList_alloc_h O [.int .i64 0, .int .u64 0] zero54 ?_; clear O; intro g13 w18 O) | ((with_reducible refine at_store 13 ?_); refine wpList_put_h O 0 [.int .i64 qh, .int .u64 ql] rfl rfl rfl size54 rfl (two_one rfl rfl) ?_; clear O; intro w19 O) | ((with_reducible refine at_load 43 ?_); refine wpList_rowg_h rfl O 0 rfl rfl Try.underlying65 rfl size54 ?_) | (go_at_call 40; refine (c5 _).mono ?_; rintro e w20 ⟨rfl, hb⟩; replace O := O.call hb; clear hb))
  go_ret
  exact ⟨rfl, hB.trans (O.below.mono hB.size)⟩
end Go.Proofs.Ytbpignicffkaoaa
namespace Go.Proofs.Ytbpignicffkaoaa
open Go.ChangeShapes Go.WideShapes Go.ChangeAt Go.RowKit
set_option linter.unusedVariables false
set_option linter.unusedSimpArgs false

/-- The first k numbers have been laid. -/
def D.wayK (a b : Nat → Int) (n d : Int) (k j : Nat) : Int := if j < k then D.way a b n d j else 0
theorem D.wayK_set {m : Nat} (a b : Nat → Int) (n d : Int) (k : Nat) (hk : k < m) : (M.mat m (D.wayK a b n d k)).set k (.int .i64 (D.wt (a k) (b k) n d)) = M.mat m (D.wayK a b n d (k + 1)) :=
  M.mat_set_to hk (by simp [D.wayK, D.way]) fun j _ hj => by
    simp only [D.wayK]
    by_cases h : j < k
    · rw [if_pos h, if_pos (by omega)]
    · rw [if_neg h, if_neg (by omega)]
theorem D.wayK_0 (m : Nat) (a b : Nat → Int) (n d : Int) : M.mat m (D.wayK a b n d 0) = M.mat m M.zero := M.mat_ext fun j hj => by simp [D.wayK, M.zero]
theorem D.wayK_end (m : Nat) (a b : Nat → Int) (n d : Int) : M.mat m (D.wayK a b n d m) = M.mat m (D.way a b n d) := M.mat_ext fun j hj => by simp [D.wayK, hj]
set_option maxHeartbeats 4000000 in
theorem between_any (a b : Nat → Int) (n d : Int) (ha : ∀ i, i < 4 → -68719476736 ≤ a i ∧ a i ≤ 68719476736) (hb : ∀ i, i < 4 → -68719476736 ≤ b i ∧ b i ≤ 68719476736) (h0 : 0 ≤ n) (h1 : n ≤ d) (h2 : 1 ≤ d) (h3 : d < 9223372036854775808) (w : World) :
    Calls Try.prog 41 #[arr 4 a, arr 4 b, .int .i64 n, .int .i64 d] w fun e w' => e = .returned (arr 4 (D.way a b n d)) ∧ Below w.heap.size w w' := by
  have O := Own.start w
  have CW := Lib.hid (fun (k : Nat) (hk : k < 4) (w : World) => weighted_any (a k) (b k) n d (ha k hk) (hb k hk) h0 h1 h2 h3 w)
  clear ha hb h0 h1 h2 h3
  go_enter Try.func41, Try.ntmps41
  go_wp2_with (first | ((with_reducible refine at_box 4 ?_); refine wpList_box_own O (M.mat 4 (a)) rfl ?_; clear O; intro g4 w1 O) | ((with_reducible refine at_box 5 ?_); refine wpList_box_own O (M.mat 4 (b)) rfl ?_; clear O; intro g5 w2 O) | ((with_reducible refine at_alloc 8 ?_); refine wpList_alloc_own O (M.mat 4 M.zero) zero22 ?_; clear O; intro g8 w3 O) | ((with_reducible refine at_alloc 9 ?_); refine wpList_alloc_own O (M.mat 4 M.zero) zero22 ?_; clear O; intro g9 w4 O))
  go_loopw [11] (fun t wr => ∃ k : Nat, k ≤ 4 ∧ t = .int .i64 k ∧ Own w wr [(g9, 33, M.mat 4 (D.wayK a b n d k)), (g8, 33, M.mat 4 M.zero), (g5, 33, M.mat 4 b), (g4, 33, M.mat 4 a)]) (fun t _ => 4 - (intOf t).toNat)
  case atStart => exact ⟨0, by omega, rfl, by rw [D.wayK_0]; exact O⟩
  case round =>
    clear O
    obtain ⟨k, hk, rfl, O⟩ := hrel
    have q4 : (0 : Int) ≤ k := by omega
    by_cases hlt : k < 4
    · have q5 : (k : Int) < 4 := by omega
      go_wp2_with fail
      refine region_V (fun w2 => Own w w2 [(g9, 33, M.mat 4 (D.wayK a b n d k)), (g8, 33, M.mat 4 M.zero), (g5, 33, M.mat 4 b), (g4, 33, M.mat 4 a)]) [0, 1, 2, 3, 4, 5, 6, 7, 8, 9, 10] [some 14, some 15, some 16, some 17, some 18, some 19, some 20, some 21, some 22, some 23, some 24] [.int .i64 k, .int .i64 k, .pointer (some ⟨g4, k, none⟩), .int .i64 (a k), .int .i64 k, .pointer (some ⟨g5, k, none⟩), .int .i64 (b k), .int .i64 n, .int .i64 d, .int .i64 (D.wt (a k) (b k) n d), .pointer (some ⟨g9, k, none⟩)] 1 (by kernel_rfl) (by kernel_rfl) (by rfl) (by rfl) (O.drew) (fun F hF => ?_)
      simp only [fillD, Act.put, List.setIfInBounds_toArray, List.set_cons_zero, List.set_cons_succ] at hF
      subst hF
      refine ⟨⟨does_want rfl (by rfl) (fun w' O K hK => ?_), does_want rfl (by rfl) (fun w' O K hK => ?_), does_want rfl (by rfl) (fun w' O K hK => ?_), does_want rfl (by rfl) (fun w' O K hK => ?_), does_want rfl (by rfl) (fun w' O K hK => ?_), does_want rfl (by rfl) (fun w' O K hK => ?_), does_want rfl (by rfl) (fun w' O K hK => ?_), does_want rfl (by rfl) (fun w' O K hK => ?_), does_want rfl (by rfl) (fun w' O K hK => ?_), does_want rfl (by rfl) (fun w' O K hK => ?_), does_want rfl (by rfl) (fun w' O K hK => ?_), trivial⟩, fun w' O => ?_⟩
      · go_simp
        exact hK _ O
      · go_simp
        exact hK _ O
      · go_simp
        exact hK _ O
      · exact wp_cell_h (v := .int .i64 ((a) (k))) O.held 3 rfl (M.mat_get (by omega)) rfl agg3 rfl (hK _ O)
      · go_simp
        exact hK _ O
      · go_simp
        exact hK _ O
      · exact wp_cell_h (v := .int .i64 ((b) (k))) O.held 2 rfl (M.mat_get (by omega)) rfl agg3 rfl (hK _ O)
      · go_simp
        exact hK _ O
      · go_simp
        exact hK _ O
      · go_simp
        go_at_call 50
        refine (CW.out k hlt _).mono ?_
        rintro e w2 ⟨rfl, hb⟩
        exact hK _ (O.call hb)
      · go_simp
        exact hK _ O
      refine wpAny_want (i := 11) (by kernel_rfl) rfl (by rfl) (fun K hK => ?_)
      refine wp_set_own O 0 (.int .i64 (D.wt (a k) (b k) n d)) rfl (by rw [M.mat_len]; omega) rfl rfl size3 rfl rfl fun w9 O9 => hK _ _ ?_
      clear O
      have O := O9
      clear O9
      clear hK K
      try simp only [Act.put, List.setIfInBounds_toArray, List.set_cons_zero, List.set_cons_succ]
      refine wpAny_done (by kernel_rfl) ?_ _
      go_wp2_with fail
      go_roundw
      case rel => exact ⟨k + 1, by omega, by go_num, by rw [← D.wayK_set a b n d k hlt]; exact O⟩
      case measure => simp [intOf]; omega
    · have q5 : ¬ (k : Int) < 4 := by omega
      obtain rfl : k = 4 := by omega
      go_wp2_with (first | ((with_reducible refine at_load 26 ?_); refine wpList_whole rfl O 0 rfl rfl Try.underlying33 rfl (s22 _) ?_) | ((with_reducible refine at_store 8 ?_); refine wpList_put_own O 1 (M.mat 4 (D.wayK a b n d 4)) rfl rfl rfl (s22 _) (M.mat_len2 _ _ _) (M.mat_one _ _) ?_; clear O; intro w5 O))
      exact bodyPost_ret (v := arr 4 (D.wayK a b n d 4)) (res_cell rfl O 1 rfl rfl Try.underlying33 (s22 _)) rfl ⟨by rw [arr, D.wayK_end], O.below⟩
/-- How a vertex and a number are handed back. -/
def RetAt (w : World) (r : (Nat → Int) × Int) (e : Ending) (w' : World) : Prop := e = .returned (.tuple #[arr 8 r.1, .int .i64 r.2]) ∧ Below w.heap.size w w'
theorem Own.held_res {w0 w : World} {bs : List (Nat × TypeId × List Value)} (O : Own w0 w bs) : Held w0 w bs nilRow [] := O.held
theorem built27 (a b : Nat → Int) (n d : Int) : Try.prog.built 39 [(0, .int .i64 (D.wt (a 0) (b 0) n d)), (1, .int .i64 (D.wt (a 1) (b 1) n d)), (2, .int .i64 (D.wt (a 2) (b 2) n d)), (3, .int .i64 (D.wt (a 3) (b 3) n d))] = some (M.mat 8 (D.wayK a b n d 4)).toArray := by kernel_rfl
theorem D.okAt_split {a b : Nat → Int} {n d : Int} (h : D.okAt a b n d = false) : D.fits a = false ∨ (D.fits a = true ∧ D.fits b = false) ∨ (D.fits a = true ∧ D.fits b = true ∧ d < 1) ∨ (D.fits a = true ∧ D.fits b = true ∧ ¬ d < 1 ∧ n < 0) ∨ (D.fits a = true ∧ D.fits b = true ∧ ¬ d < 1 ∧ ¬ n < 0 ∧ d < n) := by
  cases ha : D.fits a
  · exact .inl rfl
  cases hb : D.fits b
  · exact .inr (.inl ⟨rfl, rfl⟩)
  by_cases hd : d < 1
  · exact .inr (.inr (.inl ⟨rfl, rfl, hd⟩))
  by_cases hn : n < 0
  · exact .inr (.inr (.inr (.inl ⟨rfl, rfl, hd, hn⟩)))
  by_cases hx : d < n
  · exact .inr (.inr (.inr (.inr ⟨rfl, rfl, hd, hn, hx⟩)))
  · have : D.okAt a b n d = true := D.okAt_iff.2 ⟨ha, hb, by omega, by omega, by omega⟩
    rw [this] at h
    cases h
set_option maxHeartbeats 4000000 in
theorem at_no (a b : Nat → Int) (n d : Int) (h : D.okAt a b n d = false) (w : World) : Calls Try.prog 33 #[arr 8 a, arr 8 b, .int .i64 n, .int .i64 d] w (RetAt w (D.at_ a b n d)) := by
  have O := Own.start w
  have HE := Lib.hid (D.at_no h)
  rcases D.okAt_split h with h1 | ⟨h1, h2⟩ | ⟨h1, h2, h3⟩ | ⟨h1, h2, h3, h4⟩ | ⟨h1, h2, h3, h4, h5⟩
  all_goals
    clear h
    go_enter Try.func33, Try.ntmps33
    go_wp2_with (first | ((with_reducible refine at_box 4 ?_); refine wpList_box_own O (M.mat 8 (a)) rfl ?_; clear O; intro g4 w1 O) | ((with_reducible refine at_box 5 ?_); refine wpList_box_own O (M.mat 8 (b)) rfl ?_; clear O; intro g5 w2 O) | ((with_reducible refine at_alloc 8 ?_); refine wpList_alloc_own O (M.mat 8 M.zero) zero27 ?_; clear O; intro g8 w3 O) | ((with_reducible refine at_load 11 ?_); refine wpList_whole rfl O 2 rfl rfl Try.underlying39 rfl (s27 _) ?_) | (go_at_call 24; refine (fits_any _ _).mono ?_; rintro e w4 ⟨rfl, hb⟩; replace O := O.call hb; clear hb) | ((with_reducible refine at_load 15 ?_); refine wpList_whole rfl O 1 rfl rfl Try.underlying39 rfl (s27 _) ?_) | ((with_reducible refine at_build 32 ?_); refine wpList_build_g rfl ([]) ((M.mat 8 M.zero).toArray) ?_ (built27z) ?_; (focus (simp only [List.map_toArray, List.map_cons, List.map_nil]; rfl))) | ((with_reducible refine at_store 8 ?_); refine wpList_put_own O 0 (M.mat 8 (M.zero)) rfl rfl rfl (s27 _) (M.mat_len2 _ _ _) (M.mat_one _ _) ?_; clear O; intro w5 O))
    exact bodyPost_ret (v := .tuple #[arr 8 M.zero, .int .i64 1]) (res_h2 rfl O.held 0 rfl rfl Try.underlying39 rfl (s27 _) rfl) rfl ⟨by rw [HE.out], O.below⟩
set_option maxHeartbeats 4000000 in
theorem rat_no (a b : Nat → Int) (n d : Int) (h : D.okAt a b n d = false) (w : World) : Calls Try.prog 23 #[arr 8 a, arr 8 b, .int .i64 n, .int .i64 d] w (RetAt w (D.at_ a b n d)) := by
  have O := Own.start w
  have HE := Lib.hid (D.at_no h)
  rcases D.okAt_split h with h1 | ⟨h1, h2⟩ | ⟨h1, h2, h3⟩ | ⟨h1, h2, h3, h4⟩ | ⟨h1, h2, h3, h4, h5⟩
  all_goals
    clear h
    go_enter Try.func23, Try.ntmps23
    go_wp2_with (first | ((with_reducible refine at_box 4 ?_); refine wpList_box_own O (M.mat 8 (a)) rfl ?_; clear O; intro g4 w1 O) | ((with_reducible refine at_box 5 ?_); refine wpList_box_own O (M.mat 8 (b)) rfl ?_; clear O; intro g5 w2 O) | ((with_reducible refine at_alloc 8 ?_); refine wpList_alloc_own O (M.mat 8 M.zero) zero27 ?_; clear O; intro g8 w3 O) | ((with_reducible refine at_load 12 ?_); refine wpList_whole rfl O 2 rfl rfl Try.underlying39 rfl (s27 _) ?_) | (go_at_call 21; refine (rfits_any _ _).mono ?_; rintro e w4 ⟨rfl, hb⟩; replace O := O.call hb; clear hb) | ((with_reducible refine at_load 16 ?_); refine wpList_whole rfl O 1 rfl rfl Try.underlying39 rfl (s27 _) ?_) | ((with_reducible refine at_build 33 ?_); refine wpList_build_g rfl ([]) ((M.mat 8 M.zero).toArray) ?_ (built27z) ?_; (focus (simp only [List.map_toArray, List.map_cons, List.map_nil]; rfl))) | ((with_reducible refine at_store 8 ?_); refine wpList_put_own O 0 (M.mat 8 (M.zero)) rfl rfl rfl (s27 _) (M.mat_len2 _ _ _) (M.mat_one _ _) ?_; clear O; intro w5 O))
    exact bodyPost_ret (v := .tuple #[arr 8 M.zero, .int .i64 1]) (res_h2 rfl O.held 0 rfl rfl Try.underlying39 rfl (s27 _) rfl) rfl ⟨by rw [HE.out], O.below⟩
theorem built27w (a b : Nat → Int) (n d : Int) : Try.prog.built 39 [(0, .int .i64 (D.way a b n d 0)), (1, .int .i64 (D.way a b n d 1)), (2, .int .i64 (D.way a b n d 2)), (3, .int .i64 (D.way a b n d 3)), (4, arr 4 (D.way (D.sub 4 a) (D.sub 4 b) n d))] = some (M.mat 8 (D.way a b n d)).toArray := by kernel_rfl
set_option maxHeartbeats 8000000 in
theorem at_yes_any (a b : Nat → Int) (n d : Int) (h : D.okAt a b n d = true) (h9 : d < 9223372036854775808) (w : World) : Calls Try.prog 33 #[arr 8 a, arr 8 b, .int .i64 n, .int .i64 d] w (RetAt w (D.at_ a b n d)) := by
  have O := Own.start w
  have HE := Lib.hid (D.at_yes h)
  obtain ⟨h1, h2, h3, h4, h5⟩ := D.okAt_iff.1 h
  have CB := Lib.hid (fun w => between_any a b n d (D.fits_iff.1 h1).1 (D.fits_iff.1 h2).1 h4 h5 h3 h9 w)
  have CC := Lib.hid (fun w => between_any (D.sub 4 a) (D.sub 4 b) n d (fun i hi => D.fits_rng h1 (i := 4 + i) (by omega)) (fun i hi => D.fits_rng h2 (i := 4 + i) (by omega)) h4 h5 h3 h9 w)
  have q1 : decide (d < 1) = false := by simp; omega
  have q2 : decide (n < 0) = false := by simp; omega
  have q3 : decide (d < n) = false := by simp; omega
  clear h h3 h4 h5 h9
  go_enter Try.func33, Try.ntmps33
  go_wp2_with (first | ((with_reducible refine at_box 4 ?_); refine wpList_box_own O (M.mat 8 (a)) rfl ?_; clear O; intro g4 w1 O) | ((with_reducible refine at_box 5 ?_); refine wpList_box_own O (M.mat 8 (b)) rfl ?_; clear O; intro g5 w2 O) | ((with_reducible refine at_alloc 8 ?_); refine wpList_alloc_own O (M.mat 8 M.zero) zero27 ?_; clear O; intro g8 w3 O) | ((with_reducible refine at_load 11 ?_); refine wpList_whole rfl O 2 rfl rfl Try.underlying39 rfl (s27 _) ?_) | (go_at_call 24; refine (fits_any _ _).mono ?_; rintro e w4 ⟨rfl, hb⟩; replace O := O.call hb; clear hb) | ((with_reducible refine at_load 15 ?_); refine wpList_whole rfl O 1 rfl rfl Try.underlying39 rfl (s27 _) ?_))
  clear h1 h2 q1 q2 q3
  refine region_A w [(g8, 39, M.mat 8 M.zero), (g5, 39, M.mat 8 b), (g4, 39, M.mat 8 a)] 33 (M.mat 4 M.zero) (M.mat 4 (D.way a b n d)) 7 8 9 [some 33, some 34, some 35, some 36, some 37, some 38, some 39, some 10, none] [arr 8 a, arr 4 a, arr 8 b, arr 4 b, .int .i64 n, .int .i64 d, arr 4 (D.way a b n d), undef, undef] 0 (by kernel_rfl) (by kernel_rfl) (by rfl) (by rfl) (by rfl) (by decide) (by decide) (by decide) (by kernel_rfl) (O.drew) (fun F hF => ?_)
  simp only [fillD, List.set_cons_zero, List.set_cons_succ, Act.put, List.setIfInBounds_toArray, List.set_cons_zero, List.set_cons_succ] at hF
  have hF2 := funext hF
  clear hF
  subst hF2
  refine ⟨⟨doesA_want rfl (fun p => rfl) (fun ext hx p w' O K hK => ?_), doesA_want rfl (fun p => rfl) (fun ext hx p w' O K hK => ?_), doesA_want rfl (fun p => rfl) (fun ext hx p w' O K hK => ?_), doesA_want rfl (fun p => rfl) (fun ext hx p w' O K hK => ?_), doesA_want rfl (fun p => rfl) (fun ext hx p w' O K hK => ?_), doesA_want rfl (fun p => rfl) (fun ext hx p w' O K hK => ?_), doesA_want rfl (fun p => rfl) (fun ext hx p w' O K hK => ?_), doesA_alloc, doesA_store, trivial⟩, ⟨_, rfl, rfl, fun w' O K hK => ?_⟩, ⟨_, rfl, fun g => rfl, fun g w' O K hK => ?_⟩, fun g w' O => ?_⟩
  · try dsimp only
    exact wp_whole (hx _ O) 2 rfl rfl Try.underlying39 rfl (s27 _) (hK _ O)
  · try dsimp only
    go_simp
    go_at_call 31
    refine (place_any _ _).mono ?_
    rintro e w2 ⟨rfl, hb⟩
    exact hK _ (O.call hb)
  · try dsimp only
    exact wp_whole (hx _ O) 1 rfl rfl Try.underlying39 rfl (s27 _) (hK _ O)
  · try dsimp only
    go_simp
    go_at_call 31
    refine (place_any _ _).mono ?_
    rintro e w2 ⟨rfl, hb⟩
    exact hK _ (O.call hb)
  · try dsimp only
    go_simp
    exact hK _ O
  · try dsimp only
    go_simp
    exact hK _ O
  · try dsimp only
    go_simp
    go_at_call 41
    refine (CB.out _).mono ?_
    rintro e w2 ⟨rfl, hb⟩
    exact hK _ (O.call hb)
  · try dsimp only
    exact wp_alloc_own O (M.mat 4 M.zero) zero22 fun g w1 O1 => hK g w1 O1
  · try dsimp only
    exact wp_put_own O 0 (M.mat 4 (D.way a b n d)) rfl rfl rfl (s22 _) (M.mat_len2 _ _ _) (M.mat_one _ _) fun w1 O1 => hK w1 O1
  try dsimp only
  refine wpAny_done (by kernel_rfl) ?_ _
  go_wp2_with fail
  refine region_V (fun w2 => Own w w2 ((g, 33, M.mat 4 (D.way a b n d)) :: [(g8, 39, M.mat 8 M.zero), (g5, 39, M.mat 8 b), (g4, 39, M.mat 8 a)])) [0, 1, 2, 3, 4, 5, 6, 7, 8, 9, 10, 11, 12, 13, 14, 15] [some 40, some 41, some 42, some 43, some 44, some 45, some 46, some 47, some 48, some 49, some 50, some 51, some 52, some 53, some 54, some 55] [.pointer (some ⟨g, 0, none⟩), .int .i64 (D.way a b n d 0), .pointer (some ⟨g, 1, none⟩), .int .i64 (D.way a b n d 1), .pointer (some ⟨g, 2, none⟩), .int .i64 (D.way a b n d 2), .pointer (some ⟨g, 3, none⟩), .int .i64 (D.way a b n d 3), .pointer (some ⟨g4, 4, none⟩), arr 4 (D.sub 4 a), .pointer (some ⟨g5, 4, none⟩), arr 4 (D.sub 4 b), .int .i64 n, .int .i64 d, arr 4 (D.way (D.sub 4 a) (D.sub 4 b) n d), arr 8 (D.way a b n d)] 2 (by kernel_rfl) (by kernel_rfl) (by rfl) (by rfl) (O.drew) (fun F hF => ?_)
  simp only [fillD, Act.put, List.setIfInBounds_toArray, List.set_cons_zero, List.set_cons_succ] at hF
  subst hF
  refine ⟨⟨does_want rfl (by rfl) (fun w' O K hK => ?_), does_want rfl (by rfl) (fun w' O K hK => ?_), does_want rfl (by rfl) (fun w' O K hK => ?_), does_want rfl (by rfl) (fun w' O K hK => ?_), does_want rfl (by rfl) (fun w' O K hK => ?_), does_want rfl (by rfl) (fun w' O K hK => ?_), does_want rfl (by rfl) (fun w' O K hK => ?_), does_want rfl (by rfl) (fun w' O K hK => ?_), does_want rfl (by rfl) (fun w' O K hK => ?_), does_want rfl (by rfl) (fun w' O K hK => ?_), does_want rfl (by rfl) (fun w' O K hK => ?_), does_want rfl (by rfl) (fun w' O K hK => ?_), does_want rfl (by rfl) (fun w' O K hK => ?_), does_want rfl (by rfl) (fun w' O K hK => ?_), does_want rfl (by rfl) (fun w' O K hK => ?_), does_want rfl (by rfl) (fun w' O K hK => ?_), trivial⟩, fun w' O => ?_⟩
  · go_simp
    exact hK _ O
  · exact wp_cell_h (v := .int .i64 ((D.way a b n d) (0))) O.held 0 rfl (M.mat_get (by omega)) rfl agg3 rfl (hK _ O)
  · go_simp
    exact hK _ O
  · exact wp_cell_h (v := .int .i64 ((D.way a b n d) (1))) O.held 0 rfl (M.mat_get (by omega)) rfl agg3 rfl (hK _ O)
  · go_simp
    exact hK _ O
  · exact wp_cell_h (v := .int .i64 ((D.way a b n d) (2))) O.held 0 rfl (M.mat_get (by omega)) rfl agg3 rfl (hK _ O)
  · go_simp
    exact hK _ O
  · exact wp_cell_h (v := .int .i64 ((D.way a b n d) (3))) O.held 0 rfl (M.mat_get (by omega)) rfl agg3 rfl (hK _ O)
  · go_simp
    exact hK _ O
  · exact wp_mid_h O.held 3 rfl (M.mat 4 (D.sub 4 a)) (mat_sub a (by omega)) rfl Try.underlying37 rfl (s25 _) (hK _ O)
  · go_simp
    exact hK _ O
  · exact wp_mid_h O.held 2 rfl (M.mat 4 (D.sub 4 b)) (mat_sub b (by omega)) rfl Try.underlying37 rfl (s25 _) (hK _ O)
  · go_simp
    exact hK _ O
  · go_simp
    exact hK _ O
  · go_simp
    go_at_call 41
    refine (CC.out _).mono ?_
    rintro e w2 ⟨rfl, hb⟩
    exact hK _ (O.call hb)
  · refine wp_build_own ([(0, .int .i64 (D.way a b n d 0)), (1, .int .i64 (D.way a b n d 1)), (2, .int .i64 (D.way a b n d 2)), (3, .int .i64 (D.way a b n d 3)), (4, arr 4 (D.way (D.sub 4 a) (D.sub 4 b) n d))]) ((M.mat 8 (D.way a b n d)).toArray) ?_ (built27w a b n d) (hK _ O)
    simp only [List.map_toArray, List.map_cons, List.map_nil]
    rfl
  refine wpAny_want (i := 16) (by kernel_rfl) rfl (by rfl) (fun K hK => ?_)
  refine wp_put_own O 1 (M.mat 8 (D.way a b n d)) rfl rfl rfl (s27 _) (M.mat_len2 _ _ _) (M.mat_one _ _) fun w9 O9 => hK _ _ ?_
  clear O
  have O := O9
  clear O9
  clear hK K
  try simp only [Act.put, List.setIfInBounds_toArray, List.set_cons_zero, List.set_cons_succ]
  refine wpAny_one (i := 17) (by kernel_rfl) rfl (fun K hK => ?_)
  go_simp
  refine hK _ _ ?_
  clear hK K
  try simp only [Act.put, List.setIfInBounds_toArray, List.set_cons_zero, List.set_cons_succ]
  refine wpAny_done (by kernel_rfl) ?_ _
  go_wp2_with fail
  exact bodyPost_ret (v := .tuple #[arr 8 (D.way a b n d), .int .i64 0]) (res_h2 rfl O.held 1 rfl rfl Try.underlying39 rfl (s27 _) rfl) rfl ⟨by rw [HE.out], O.below⟩
theorem at_any (a b : Nat → Int) (n d : Int) (h9 : d < 9223372036854775808) (w : World) : Calls Try.prog 33 #[arr 8 a, arr 8 b, .int .i64 n, .int .i64 d] w (RetAt w (D.at_ a b n d)) := by
  cases h : D.okAt a b n d
  · exact at_no a b n d h w
  · exact at_yes_any a b n d h h9 w
end Go.Proofs.Ytbpignicffkaoaa
namespace Go.Proofs.Ytbpignicffkaoaa
open Go.ChangeShapes Go.WideShapes Go.ChangeAt Go.RowKit
set_option linter.unusedVariables false
set_option linter.unusedSimpArgs false

set_option maxHeartbeats 8000000 in
theorem rat_yes (a b : Nat → Int) (n d : Int) (h : D.okAt a b n d = true) (h9 : d < 9223372036854775808) (w : World) : Calls Try.prog 23 #[arr 8 a, arr 8 b, .int .i64 n, .int .i64 d] w (RetAt w (D.at_ a b n d)) := by
  have O := Own.start w
  have HE := Lib.hid (D.at_yes h)
  obtain ⟨h1, h2, h3, h4, h5⟩ := D.okAt_iff.1 h
  have CM := Lib.hid (fun (i : Nat) (hi : i < 8) (w : World) => mid_any (a i) (b i) n d (D.fits_rng h1 hi) (D.fits_rng h2 hi) h4 h5 h3 h9 w)
  have q1 : decide (d < 1) = false := by simp; omega
  have q2 : decide (n < 0) = false := by simp; omega
  have q3 : decide (d < n) = false := by simp; omega
  clear h h3 h4 h5 h9
  go_enter Try.func23, Try.ntmps23
  go_wp2_with (first | ((with_reducible refine at_box 4 ?_); refine wpList_box_own O (M.mat 8 (a)) rfl ?_; clear O; intro g4 w1 O) | ((with_reducible refine at_box 5 ?_); refine wpList_box_own O (M.mat 8 (b)) rfl ?_; clear O; intro g5 w2 O) | ((with_reducible refine at_alloc 8 ?_); refine wpList_alloc_own O (M.mat 8 M.zero) zero27 ?_; clear O; intro g8 w3 O) | ((with_reducible refine at_load 12 ?_); refine wpList_whole rfl O 2 rfl rfl Try.underlying39 rfl (s27 _) ?_) | (go_at_call 21; refine (rfits_any _ _).mono ?_; rintro e w4 ⟨rfl, hb⟩; replace O := O.call hb; clear hb) | ((with_reducible refine at_load 16 ?_); refine wpList_whole rfl O 1 rfl rfl Try.underlying39 rfl (s27 _) ?_))
  clear h1 h2 q1 q2 q3
  refine region_A w [(g8, 39, M.mat 8 M.zero), (g5, 39, M.mat 8 b), (g4, 39, M.mat 8 a)] 39 (M.mat 8 M.zero) (M.mat 8 (D.wayK a b n d 4)) 29 30 31 [some 34, some 35, some 36, some 37, some 38, some 39, some 40, some 41, some 42, some 43, some 44, some 45, some 46, some 47, some 48, some 49, some 50, some 51, some 52, some 53, some 54, some 55, some 56, some 57, some 58, some 59, some 60, some 61, some 62, some 10, none] [.pointer (some ⟨g4, 0, none⟩), .int .i64 (a 0), .pointer (some ⟨g5, 0, none⟩), .int .i64 (b 0), .int .i64 n, .int .i64 d, .int .i64 (D.wt (a 0) (b 0) n d), .pointer (some ⟨g4, 1, none⟩), .int .i64 (a 1), .pointer (some ⟨g5, 1, none⟩), .int .i64 (b 1), .int .i64 n, .int .i64 d, .int .i64 (D.wt (a 1) (b 1) n d), .pointer (some ⟨g4, 2, none⟩), .int .i64 (a 2), .pointer (some ⟨g5, 2, none⟩), .int .i64 (b 2), .int .i64 n, .int .i64 d, .int .i64 (D.wt (a 2) (b 2) n d), .pointer (some ⟨g4, 3, none⟩), .int .i64 (a 3), .pointer (some ⟨g5, 3, none⟩), .int .i64 (b 3), .int .i64 n, .int .i64 d, .int .i64 (D.wt (a 3) (b 3) n d), arr 8 (D.wayK a b n d 4), undef, undef] 0 (by kernel_rfl) (by kernel_rfl) (by rfl) (by rfl) (by rfl) (by decide) (by decide) (by decide) (by kernel_rfl) (O.drew) (fun F hF => ?_)
  simp only [fillD, List.set_cons_zero, List.set_cons_succ, Act.put, List.setIfInBounds_toArray, List.set_cons_zero, List.set_cons_succ] at hF
  have hF2 := funext hF
  clear hF
  subst hF2
  refine ⟨⟨doesA_want rfl (fun p => rfl) (fun ext hx p w' O K hK => ?_), doesA_want rfl (fun p => rfl) (fun ext hx p w' O K hK => ?_), doesA_want rfl (fun p => rfl) (fun ext hx p w' O K hK => ?_), doesA_want rfl (fun p => rfl) (fun ext hx p w' O K hK => ?_), doesA_want rfl (fun p => rfl) (fun ext hx p w' O K hK => ?_), doesA_want rfl (fun p => rfl) (fun ext hx p w' O K hK => ?_), doesA_want rfl (fun p => rfl) (fun ext hx p w' O K hK => ?_), doesA_want rfl (fun p => rfl) (fun ext hx p w' O K hK => ?_), doesA_want rfl (fun p => rfl) (fun ext hx p w' O K hK => ?_), doesA_want rfl (fun p => rfl) (fun ext hx p w' O K hK => ?_), doesA_want rfl (fun p => rfl) (fun ext hx p w' O K hK => ?_), doesA_want rfl (fun p => rfl) (fun ext hx p w' O K hK => ?_), doesA_want rfl (fun p => rfl) (fun ext hx p w' O K hK => ?_), doesA_want rfl (fun p => rfl) (fun ext hx p w' O K hK => ?_), doesA_want rfl (fun p => rfl) (fun ext hx p w' O K hK => ?_), doesA_want rfl (fun p => rfl) (fun ext hx p w' O K hK => ?_), doesA_want rfl (fun p => rfl) (fun ext hx p w' O K hK => ?_), doesA_want rfl (fun p => rfl) (fun ext hx p w' O K hK => ?_), doesA_want rfl (fun p => rfl) (fun ext hx p w' O K hK => ?_), doesA_want rfl (fun p => rfl) (fun ext hx p w' O K hK => ?_), doesA_want rfl (fun p => rfl) (fun ext hx p w' O K hK => ?_), doesA_want rfl (fun p => rfl) (fun ext hx p w' O K hK => ?_), doesA_want rfl (fun p => rfl) (fun ext hx p w' O K hK => ?_), doesA_want rfl (fun p => rfl) (fun ext hx p w' O K hK => ?_), doesA_want rfl (fun p => rfl) (fun ext hx p w' O K hK => ?_), doesA_want rfl (fun p => rfl) (fun ext hx p w' O K hK => ?_), doesA_want rfl (fun p => rfl) (fun ext hx p w' O K hK => ?_), doesA_want rfl (fun p => rfl) (fun ext hx p w' O K hK => ?_), doesA_want rfl (fun p => rfl) (fun ext hx p w' O K hK => ?_), doesA_alloc, doesA_store, trivial⟩, ⟨_, rfl, rfl, fun w' O K hK => ?_⟩, ⟨_, rfl, fun g => rfl, fun g w' O K hK => ?_⟩, fun g w' O => ?_⟩
  · try dsimp only
    go_simp
    exact hK _ O
  · try dsimp only
    exact wp_cell_h (v := .int .i64 ((a) (0))) (hx _ O).held 2 rfl (M.mat_get (by omega)) rfl agg3 rfl (hK _ O)
  · try dsimp only
    go_simp
    exact hK _ O
  · try dsimp only
    exact wp_cell_h (v := .int .i64 ((b) (0))) (hx _ O).held 1 rfl (M.mat_get (by omega)) rfl agg3 rfl (hK _ O)
  · try dsimp only
    go_simp
    exact hK _ O
  · try dsimp only
    go_simp
    exact hK _ O
  · try dsimp only
    go_simp
    go_at_call 29
    refine (CM.out 0 (by omega) _).mono ?_
    rintro e w2 ⟨rfl, hb⟩
    exact hK _ (O.call hb)
  · try dsimp only
    go_simp
    exact hK _ O
  · try dsimp only
    exact wp_cell_h (v := .int .i64 ((a) (1))) (hx _ O).held 2 rfl (M.mat_get (by omega)) rfl agg3 rfl (hK _ O)
  · try dsimp only
    go_simp
    exact hK _ O
  · try dsimp only
    exact wp_cell_h (v := .int .i64 ((b) (1))) (hx _ O).held 1 rfl (M.mat_get (by omega)) rfl agg3 rfl (hK _ O)
  · try dsimp only
    go_simp
    exact hK _ O
  · try dsimp only
    go_simp
    exact hK _ O
  · try dsimp only
    go_simp
    go_at_call 29
    refine (CM.out 1 (by omega) _).mono ?_
    rintro e w2 ⟨rfl, hb⟩
    exact hK _ (O.call hb)
  · try dsimp only
    go_simp
    exact hK _ O
  · try dsimp only
    exact wp_cell_h (v := .int .i64 ((a) (2))) (hx _ O).held 2 rfl (M.mat_get (by omega)) rfl agg3 rfl (hK _ O)
  · try dsimp only
    go_simp
    exact hK _ O
  · try dsimp only
    exact wp_cell_h (v := .int .i64 ((b) (2))) (hx _ O).held 1 rfl (M.mat_get (by omega)) rfl agg3 rfl (hK _ O)
  · try dsimp only
    go_simp
    exact hK _ O
  · try dsimp only
    go_simp
    exact hK _ O
  · try dsimp only
    go_simp
    go_at_call 29
    refine (CM.out 2 (by omega) _).mono ?_
    rintro e w2 ⟨rfl, hb⟩
    exact hK _ (O.call hb)
  · try dsimp only
    go_simp
    exact hK _ O
  · try dsimp only
    exact wp_cell_h (v := .int .i64 ((a) (3))) (hx _ O).held 2 rfl (M.mat_get (by omega)) rfl agg3 rfl (hK _ O)
  · try dsimp only
    go_simp
    exact hK _ O
  · try dsimp only
    exact wp_cell_h (v := .int .i64 ((b) (3))) (hx _ O).held 1 rfl (M.mat_get (by omega)) rfl agg3 rfl (hK _ O)
  · try dsimp only
    go_simp
    exact hK _ O
  · try dsimp only
    go_simp
    exact hK _ O
  · try dsimp only
    go_simp
    go_at_call 29
    refine (CM.out 3 (by omega) _).mono ?_
    rintro e w2 ⟨rfl, hb⟩
    exact hK _ (O.call hb)
  · try dsimp only
    refine wp_build_own ([(0, .int .i64 (D.wt (a 0) (b 0) n d)), (1, .int .i64 (D.wt (a 1) (b 1) n d)), (2, .int .i64 (D.wt (a 2) (b 2) n d)), (3, .int .i64 (D.wt (a 3) (b 3) n d))]) ((M.mat 8 (D.wayK a b n d 4)).toArray) ?_ (built27 a b n d) (hK _ O)
    simp only [List.map_toArray, List.map_cons, List.map_nil]
    rfl
  · try dsimp only
    exact wp_alloc_own O (M.mat 8 M.zero) zero27 fun g w1 O1 => hK g w1 O1
  · try dsimp only
    exact wp_put_own O 0 (M.mat 8 (D.wayK a b n d 4)) rfl rfl rfl (s27 _) (M.mat_len2 _ _ _) (M.mat_one _ _) fun w1 O1 => hK w1 O1
  try dsimp only
  refine wpAny_done (by kernel_rfl) ?_ _
  go_wp2_with fail
  go_loopw [11] (fun t wr => ∃ k : Nat, k ≤ 4 ∧ t = .int .i64 k ∧ Own w wr [(g, 39, M.mat 8 (D.wayK a b n d (4 + k))), (g8, 39, M.mat 8 M.zero), (g5, 39, M.mat 8 b), (g4, 39, M.mat 8 a)]) (fun t _ => 4 - (intOf t).toNat)
  case atStart => exact ⟨0, by omega, rfl, O⟩
  case round =>
    clear O
    obtain ⟨k, hk, rfl, O⟩ := hrel
    have q4 : (0 : Int) ≤ k := by omega
    by_cases hlt : k < 4
    · have q5 : (k : Int) < 4 := by omega
      go_wp2_with fail
      refine region_T ((fun w2 => Own w w2 [(g, 39, M.mat 8 (D.wayK a b n d (4 + k))), (g8, 39, M.mat 8 M.zero), (g5, 39, M.mat 8 b), (g4, 39, M.mat 8 a)])) [0, 1, 2, 3, 4, 5, 6, 7, 8, 9, 10, 11, 12, 13] 12 [some 67, some 68, some 69, some 70, some 71, some 72, some 73, some 74, some 75, some 76, some 77, some 78, some 79, some 80] [.int .i64 k, .int .i64 k, .pointer (some ⟨g4, 4, none⟩), .pointer (some ⟨g4, 4 + k, none⟩), .int .i64 (a (4 + k)), .int .i64 k, .pointer (some ⟨g5, 4, none⟩), .pointer (some ⟨g5, 4 + k, none⟩), .int .i64 (b (4 + k)), .int .i64 n, .int .i64 d, .int .i64 (D.wt (a (4 + k)) (b (4 + k)) n d), .pointer (some ⟨g, 4, none⟩), .pointer (some ⟨g, 4 + k, none⟩)] 1 (by kernel_rfl) (by rfl) (by kernel_rfl) (by rfl) (by rfl) (O.drew) (fun F hF => ?_)
      simp only [fillD, Act.put, List.setIfInBounds_toArray, List.set_cons_zero, List.set_cons_succ] at hF
      subst hF
      refine ⟨⟨does_want rfl (by rfl) (fun w' O K hK => ?_), does_want rfl (by rfl) (fun w' O K hK => ?_), does_want rfl (by rfl) (fun w' O K hK => ?_), does_want rfl (by rfl) (fun w' O K hK => ?_), does_want rfl (by rfl) (fun w' O K hK => ?_), does_want rfl (by rfl) (fun w' O K hK => ?_), does_want rfl (by rfl) (fun w' O K hK => ?_), does_want rfl (by rfl) (fun w' O K hK => ?_), does_want rfl (by rfl) (fun w' O K hK => ?_), does_want rfl (by rfl) (fun w' O K hK => ?_), does_want rfl (by rfl) (fun w' O K hK => ?_), does_want rfl (by rfl) (fun w' O K hK => ?_), does_want rfl (by rfl) (fun w' O K hK => ?_), does_want rfl (by rfl) (fun w' O K hK => ?_), trivial⟩, fun w' O => ?_⟩
      · go_simp
        exact hK _ O
      · go_simp
        exact hK _ O
      · go_simp
        exact hK _ O
      · exact wp_ino Try.underlying37 sizeOf3 (by decide) (k) rfl rfl (by omega) (by omega) (hK _ O)
      · exact wp_cell_h (v := .int .i64 ((a) (4 + k))) O.held 3 rfl (M.mat_get (by omega)) rfl agg3 rfl (hK _ O)
      · go_simp
        exact hK _ O
      · go_simp
        exact hK _ O
      · exact wp_ino Try.underlying37 sizeOf3 (by decide) (k) rfl rfl (by omega) (by omega) (hK _ O)
      · exact wp_cell_h (v := .int .i64 ((b) (4 + k))) O.held 2 rfl (M.mat_get (by omega)) rfl agg3 rfl (hK _ O)
      · go_simp
        exact hK _ O
      · go_simp
        exact hK _ O
      · go_simp
        go_at_call 29
        refine (CM.out (4 + k) (by omega) _).mono ?_
        rintro e w2 ⟨rfl, hb⟩
        exact hK _ (O.call hb)
      · go_simp
        exact hK _ O
      · exact wp_ino Try.underlying37 sizeOf3 (by decide) (k) rfl rfl (by omega) (by omega) (hK _ O)
      refine wpAny_want (i := 14) (by kernel_rfl) rfl (by rfl) (fun K hK => ?_)
      refine wp_set_own O 0 (.int .i64 (D.wt (a (4 + k)) (b (4 + k)) n d)) rfl (by rw [M.mat_len]; omega) rfl rfl size3 rfl rfl fun w9 O9 => hK _ _ ?_
      clear O
      have O := O9
      clear O9
      clear hK K
      try simp only [Act.put, List.setIfInBounds_toArray, List.set_cons_zero, List.set_cons_succ]
      refine wpAny_done (by kernel_rfl) ?_ _
      go_wp2_with fail
      go_roundw
      case rel => exact ⟨k + 1, by omega, by go_num, by rw [← Nat.add_assoc, ← D.wayK_set a b n d (4 + k) (by omega)]; exact O⟩
      case measure => simp [intOf]; omega
    · have q5 : ¬ (k : Int) < 4 := by omega
      obtain rfl : k = 4 := by omega
      go_wp2_with (first | ((with_reducible refine at_load 81 ?_); refine wpList_whole rfl O 0 rfl rfl Try.underlying39 rfl (s27 _) ?_) | ((with_reducible refine at_store 8 ?_); refine wpList_put_own O 1 (M.mat 8 (D.wayK a b n d (4 + 4))) rfl rfl rfl (s27 _) (M.mat_len2 _ _ _) (M.mat_one _ _) ?_; clear O; intro w5 O))
      exact bodyPost_ret (v := .tuple #[arr 8 (D.wayK a b n d (4 + 4)), .int .i64 0]) (res_h2 rfl O.held 1 rfl rfl Try.underlying39 rfl (s27 _) rfl) rfl ⟨by rw [HE.out, arr, D.wayK_end], O.below⟩
theorem rat_any (a b : Nat → Int) (n d : Int) (h9 : d < 9223372036854775808) (w : World) : Calls Try.prog 23 #[arr 8 a, arr 8 b, .int .i64 n, .int .i64 d] w (RetAt w (D.at_ a b n d)) := by
  cases h : D.okAt a b n d
  · exact rat_no a b n d h w
  · exact rat_yes a b n d h h9 w
end Go.Proofs.Ytbpignicffkaoaa
namespace Go.Proofs.Ytbpignicffkaoaa
open Go.ChangeShapes Go.WideShapes Go.ChangeAt Go.RowKit
set_option linter.unusedVariables false
set_option linter.unusedSimpArgs false

theorem Own.perm {w0 w : World} {l l' : List (Nat × TypeId × List Value)} (h : Own w0 w l) (hp : l.Perm l') : Own w0 w l' :=
  ⟨h.1, (hp.map _).nodup_iff.1 h.2.1, fun x hx => h.2.2 x (hp.mem_iff.2 hx)⟩
theorem Own.drop {w0 w : World} : ∀ {l bs : List (Nat × TypeId × List Value)}, Own w0 w (l ++ bs) → Own w0 w bs
  | [], _, h => h
  | _ :: l, bs, h => Own.drop (l := l) (Own.tail h)
/-- A new block of four numbers: laid, and written. -/
def wr (a b : Option Value) (q : List Value) : List (Nat × TypeId × List Value) :=
  match a with
  | some (.pointer (some ad)) => [(ad.block, 33, if b.isSome then q else M.mat 4 M.zero)]
  | _ => []
def isP (a : Option Value) : Prop := ∀ v, a = some v → ∃ g, v = .pointer (some ⟨g, 0, none⟩)
/-- Three new blocks, of which two are written. -/
def Nb (w0 : World) (bs : List (Nat × TypeId × List Value)) (x y : List Value) (a b c d e : Option Value) (w : World) : Prop :=
  (a = none → d = none) ∧ (b = none → e = none) ∧ isP a ∧ isP b ∧ isP c ∧ Own w0 w (wr a d x ++ (wr b e y ++ (wr c none [] ++ bs)))
theorem isP_none : isP none := fun v h => by cases h
theorem isP_some (g : Nat) : isP (some (.pointer (some ⟨g, 0, none⟩))) := fun v h => ⟨g, (Option.some.inj h).symm⟩
section
variable {w0 w : World} {bs : List (Nat × TypeId × List Value)} {x y : List Value} {a b c d e : Option Value}
theorem Nb.start (O : Own w0 w bs) : Nb w0 bs x y none none none none none w := ⟨fun _ => rfl, fun _ => rfl, isP_none, isP_none, isP_none, O⟩
theorem Nb.own (h : Nb w0 bs x y a b c d e w) : Own w0 w bs := Own.drop (Own.drop (Own.drop h.2.2.2.2.2))
variable {dst : Option Tmp} {ty : TypeId} {pos : String} {after : Array Edge} {K : Act → World → Prop} {p q : Operand} {ac : Act} {Q : Exit → Act → World → Prop} {gd : Option (Nat × Bool)}
theorem Nb.alloc_a (h : Nb w0 bs x y none b c d e w) (hK : ∀ v w1, Nb w0 bs x y (some v) b c d e w1 → K (ac.put dst v) w1) : Oper.wp Try.prog ⟨dst, .alloc 33, ty, pos, after, none⟩ ac w K Q := by
  obtain ⟨h1, h2, h3, h4, h5, O⟩ := h
  obtain rfl := h1 rfl
  exact wp_alloc_own O (M.mat 4 M.zero) zero22 fun g w1 O1 => hK _ _ ⟨by simp, h2, isP_some g, h4, h5, O1⟩
theorem Nb.alloc_b (h : Nb w0 bs x y a none c d e w) (hK : ∀ v w1, Nb w0 bs x y a (some v) c d e w1 → K (ac.put dst v) w1) : Oper.wp Try.prog ⟨dst, .alloc 33, ty, pos, after, none⟩ ac w K Q := by
  obtain ⟨h1, h2, h3, h4, h5, O⟩ := h
  obtain rfl := h2 rfl
  exact wp_alloc_own O (M.mat 4 M.zero) zero22 fun g w1 O1 => hK _ _ ⟨h1, by simp, h3, isP_some g, h5, O1.perm List.perm_middle.symm⟩
theorem Nb.alloc_c (h : Nb w0 bs x y a b none d e w) (hK : ∀ v w1, Nb w0 bs x y a b (some v) d e w1 → K (ac.put dst v) w1) : Oper.wp Try.prog ⟨dst, .alloc 33, ty, pos, after, none⟩ ac w K Q := by
  obtain ⟨h1, h2, h3, h4, h5, O⟩ := h
  refine wp_alloc_own O (M.mat 4 M.zero) zero22 fun g w1 O1 => hK _ _ ⟨h1, h2, h3, h4, isP_some g, ?_⟩
  have O2 := O1.perm (l' := (wr a d x ++ wr b e y) ++ (g, 33, M.mat 4 M.zero) :: bs) (by
    rw [← List.append_assoc]
    exact List.perm_middle.symm)
  rw [List.append_assoc] at O2
  exact O2
theorem Nb.put_a (h : Nb w0 bs x y a b c none e w) (ha : a.isSome = true) (f : Nat → Int) (hx0 : x = M.mat 4 f) (hx : ac.eval p = a.getD undef) (hy : ac.eval q = arr 4 f) (hK : ∀ v w1, Nb w0 bs x y a b c (some v) e w1 → K (ac.put dst v) w1) : Oper.wp Try.prog ⟨dst, .store 33 p q, ty, pos, after, gd⟩ ac w K Q := by
  obtain ⟨h1, h2, h3, h4, h5, O⟩ := h
  obtain ⟨v, rfl⟩ := Option.isSome_iff_exists.1 ha
  obtain ⟨g, rfl⟩ := h3 v rfl
  subst hx0
  exact wp_put_own O 0 (M.mat 4 f) rfl hx hy (s22 _) (M.mat_len2 _ _ _) (M.mat_one _ _) fun w1 O1 => hK _ _ ⟨by simp, h2, h3, h4, h5, O1⟩
theorem Nb.put_b (h : Nb w0 bs x y a b c d none w) (hb : b.isSome = true) (f : Nat → Int) (hy0 : y = M.mat 4 f) (hx : ac.eval p = b.getD undef) (hy : ac.eval q = arr 4 f) (hK : ∀ v w1, Nb w0 bs x y a b c d (some v) w1 → K (ac.put dst v) w1) : Oper.wp Try.prog ⟨dst, .store 33 p q, ty, pos, after, gd⟩ ac w K Q := by
  obtain ⟨h1, h2, h3, h4, h5, O⟩ := h
  obtain ⟨v, rfl⟩ := Option.isSome_iff_exists.1 hb
  obtain ⟨g, rfl⟩ := h4 v rfl
  subst hy0
  have O2 : Own w0 w ((g, 33, M.mat 4 M.zero) :: (wr a d x ++ (wr c none [] ++ bs))) := O.perm List.perm_middle
  exact wp_put_own O2 0 (M.mat 4 f) rfl hx hy (s22 _) (M.mat_len2 _ _ _) (M.mat_one _ _) fun w1 O1 => hK _ _ ⟨h1, by simp, h3, h4, h5, Own.perm O1 List.perm_middle.symm⟩
theorem Nb.done (h : Nb w0 bs x y a b c d e w) (ha : a.isSome = true) (hb : b.isSome = true) (hc : c.isSome = true) (hd : d.isSome = true) (he : e.isSome = true) :
    ∃ g1 g2 g3, a = some (.pointer (some ⟨g1, 0, none⟩)) ∧ b = some (.pointer (some ⟨g2, 0, none⟩)) ∧ c = some (.pointer (some ⟨g3, 0, none⟩)) ∧ Own w0 w ((g1, 33, x) :: (g2, 33, y) :: (g3, 33, M.mat 4 M.zero) :: bs) := by
  obtain ⟨h1, h2, h3, h4, h5, O⟩ := h
  obtain ⟨v, rfl⟩ := Option.isSome_iff_exists.1 ha
  obtain ⟨v', rfl⟩ := Option.isSome_iff_exists.1 hb
  obtain ⟨v2, rfl⟩ := Option.isSome_iff_exists.1 hc
  obtain ⟨v3, rfl⟩ := Option.isSome_iff_exists.1 hd
  obtain ⟨v4, rfl⟩ := Option.isSome_iff_exists.1 he
  obtain ⟨g1, rfl⟩ := h3 v rfl
  obtain ⟨g2, rfl⟩ := h4 v' rfl
  obtain ⟨g3, rfl⟩ := h5 v2 rfl
  exact ⟨g1, g2, g3, rfl, rfl, rfl, O⟩
end
theorem min_if (x y : Int) : (if y < x then y else x) = min x y := by
  split <;> omega
theorem max_if (x y : Int) : (if x < y then y else x) = max x y := by
  split <;> omega
theorem way_begin {a b : Nat → Int} {d : Int} (hd : 1 ≤ d) : D.way a b 0 d = a := funext fun i => D.wt_0 hd
theorem way_end {a b : Nat → Int} {d : Int} (hd : 1 ≤ d) : D.way a b d d = b := funext fun i => D.wt_d hd
theorem way_back (a b : Nat → Int) (n d : Int) : D.way b a (d - n) d = D.way a b n d := funext fun i => D.wt_back _ _ _ _
theorem at_is {a b : Nat → Int} {n d : Int} (h : D.okAt a b n d = true) (h9 : d < 9223372036854775808) (v : Nat → Int) (hv : D.way a b n d = v) (w : World) :
    Calls Try.prog 33 #[arr 8 a, arr 8 b, .int .i64 n, .int .i64 d] w fun e w' => e = .returned (.tuple #[arr 8 v, .int .i64 0]) ∧ Below w.heap.size w w' := by
  have := at_any a b n d h9 w
  rw [D.at_yes h] at this
  subst hv
  exact this
end Go.Proofs.Ytbpignicffkaoaa
