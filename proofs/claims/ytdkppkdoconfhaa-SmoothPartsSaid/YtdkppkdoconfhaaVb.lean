/- Contracts: the document's Mid of layer 8, over numbers up to 2^40. -/
import Derived.Test.YtdkppkdoconfhaaL2
import Derived.Test.YtdkppkdoconfhaaL4
import Derived.Test.YtdkppkdoconfhaaL3
namespace Go.Proofs.Ytdkppkdoconfhaa
open Go.ChangeShapes Go.WideShapes Go.ChangeAt Go.RowKit
set_option linter.unusedVariables false
set_option linter.unusedSimpArgs false

theorem size50 : (Try.prog.info? 112).map (·.size) = some 2 := by kernel_rfl
theorem size54 : (Try.prog.info? 80).map (·.size) = some 2 := by kernel_rfl
theorem zero50 : (Try.prog.info? 112).map (·.zero) = some (some (.agg #[.bool false, .slice none 0 0])) := by kernel_rfl
theorem zero54 : (Try.prog.info? 80).map (·.zero) = some (some (.agg #[.int .i64 0, .int .u64 0])) := by kernel_rfl
theorem D.rng {a b n d : Int} (ha : -1099511627776 ≤ a ∧ a ≤ 1099511627776) (hb : -1099511627776 ≤ b ∧ b ≤ 1099511627776) (h0 : 0 ≤ n) (h1 : n ≤ d) (h2 : 1 ≤ d) (h3 : d < 9223372036854775808) :
    M.ok (a * (d - n)) = true ∧ M.ok (b * n) = true ∧ M.ok (a * (d - n) + b * n) = true ∧ M.ok (D.wt a b n d) = true ∧ M.fits (D.wt a b n d) = true := by
  have e1 := M.mul_hi (A := 1099511627776) (B := 9223372036854775808) ha.1 ha.2 (show -9223372036854775808 ≤ d - n by omega) (show d - n ≤ 9223372036854775808 by omega)
  have e2 := M.mul_hi (A := 1099511627776) (B := 9223372036854775808) hb.1 hb.2 (show -9223372036854775808 ≤ n by omega) (show n ≤ 9223372036854775808 by omega)
  have e3 := D.wt_le ha hb ⟨h0, h1⟩ h2
  refine ⟨M.ok_iff.2 ?_, M.ok_iff.2 ?_, M.ok_iff.2 ?_, M.ok_iff.2 ?_, M.fits_iff.2 ?_⟩ <;> omega
theorem addZ {z y : Int} (oz : M.ok z = true) (oy : M.ok y = true) (os : M.ok (z + y) = true) (w : World) :
    Calls Try.prog 66 #[.agg #[.int .i64 (M.oh z), .int .u64 (M.ol z)], .agg #[.int .i64 (M.oh y), .int .u64 (M.ol y)]] w fun e w' => e = .returned (.tuple #[.agg #[.int .i64 (M.oh (z + y)), .int .u64 (M.ol (z + y))], .bool true]) ∧ Below w.heap.size w w' := by
  have := add_any _ _ _ _ (M.b_of z) (M.b_of y) w
  rwa [M.val_of oz, M.val_of oy, os] at this
theorem divZ {z d : Int} (oz : M.ok z = true) (d1 : 1 ≤ d) (d2 : d < 9223372036854775808) (w : World) :
    Calls Try.prog 67 #[.agg #[.int .i64 (M.oh z), .int .u64 (M.ol z)], .int .i64 d] w fun e w' => e = .returned (.tuple #[.agg #[.int .i64 (M.oh (z / d)), .int .u64 (M.ol (z / d))], .int .i64 (z % d), .bool true]) ∧ Below w.heap.size w w' := by
  have := div_yes _ _ d (M.b_of z) d1 d2 w
  rwa [M.val_of oz] at this
theorem smallZ {z : Int} (oz : M.ok z = true) (fz : M.fits z = true) (w : World) :
    Calls Try.prog 68 #[.agg #[.int .i64 (M.oh z), .int .u64 (M.ol z)]] w fun e w' => e = .returned (.tuple #[.int .i64 z, .bool true]) ∧ Below w.heap.size w w' := by
  have := small_any _ _ (M.b_of z) w
  rwa [M.val_of oz, M.smv_yes fz, fz] at this
theorem rsmallZ {z : Int} (oz : M.ok z = true) (fz : M.fits z = true) (w : World) :
    Calls Try.prog 83 #[.agg #[.int .i64 (M.oh z), .int .u64 (M.ol z)]] w fun e w' => e = .returned (.tuple #[.int .i64 z, .bool true]) ∧ Below w.heap.size w w' := by
  have := rsmall_any _ _ (M.b_of z) w
  rwa [M.val_of oz, M.smv_yes fz, fz] at this
theorem fromZ {z : Int} (oz : M.ok z = true) (w : World) : Calls Try.prog 77 #[.agg #[.int .i64 (M.oh z), .int .u64 (M.ol z)]] w (RetNum w z) := by
  have := from_bits _ _ (M.b_of z) w
  rwa [M.val_of oz] at this
theorem one_i64 (h : Int) : (Value.int .i64 h).oneCell' = true := rfl
theorem two_one {a b : Value} (ha : a.oneCell' = true) (hb : b.oneCell' = true) : ∀ v ∈ [a, b], v.oneCell' = true := by
  intro v hv
  simp only [List.mem_cons, List.not_mem_nil, or_false] at hv
  rcases hv with rfl | rfl
  · exact ha
  · exact hb
/-- A number of the document's that lies in memory, as a list. -/
def numE (lo : Nat) (A : Option Addr) (l : List Nat) : Ent := ⟨lo, A, l.length, l.length, 1, cells l⟩
theorem num_lies {w : World} {z : Int} {A : Option Addr} {l : List Nat} (h : NumR w z A l) : Lies w free (numE 0 A l) :=
  ⟨by simp [numE, cells], Nat.le_refl _, fun h0 => by
    obtain ⟨ad, h1, h2, h3⟩ := h.1.lies h0
    exact ⟨ad, h1, Nat.zero_le _, h2, id, h3⟩⟩
theorem num_gain {w0 w w' : World} {bs : List (Nat × TypeId × List Value)} {R : RowD} {es : List Ent} {z : Int} {e : Ending} (O : Held w0 w bs R es) (h : RetNum w z e w') :
    ∃ A c l, e = .returned (.agg #[.bool (decide (z < 0)), .slice A (List.length l) c]) ∧ Held w0 w' bs R (numE w0.heap.size A l :: es) ∧ L.Can l ∧ L.nat l = z.natAbs := by
  obtain ⟨A, c, l, rfl, hr, hC, hz, hA, hb⟩ := h
  refine ⟨A, c, l, rfl, O.gain hb ⟨by simp [cells], Nat.le_refl _, fun h0 => ?_⟩, hC, hz⟩
  obtain ⟨ad, h1, h2, h3⟩ := hr.lies h0
  exact ⟨ad, h1, hA ad h1, h2, id, h3⟩
theorem num_of {w0 w : World} {bs : List (Nat × TypeId × List Value)} {R : RowD} {es : List Ent} {z : Int} {lo : Nat} {A : Option Addr} {l : List Nat} (O : Held w0 w bs R es) (hm : numE lo A l ∈ es) (hC : L.Can l) (hz : L.nat l = z.natAbs) : NumR w z A l :=
  ⟨(O.arg hm).reads, hC, hz⟩
set_option maxHeartbeats 4000000 in
theorem rmid8_any (a b n d : Int) (ha : -1099511627776 ≤ a ∧ a ≤ 1099511627776) (hb : -1099511627776 ≤ b ∧ b ≤ 1099511627776) (h0 : 0 ≤ n) (h1 : n ≤ d) (h2 : 1 ≤ d) (h3 : d < 9223372036854775808) (w : World) :
    Calls Try.prog 76 #[.int .i64 a, .int .i64 b, .int .i64 n, .int .i64 d] w fun e w' => e = .returned (.int .i64 (D.wt a b n d)) ∧ Below w.heap.size w w' := by
  have O := Held.start w [] (by simp)
  obtain ⟨o1, o2, o3, o4, o5⟩ := D.rng ha hb h0 h1 h2 h3
  have od : M.ok d = true := M.ok_iff.2 (by omega)
  have c1 := fun w => rmul_any a (d - n) (by omega) (by omega) (by omega) (by omega) w
  have c2 := fun w => rmul_any b n (by omega) (by omega) (by omega) (by omega) w
  have c3 := fun w => rof_any d (by omega) (by omega) w
  have f1 := fun w => fromZ o1 w
  have f2 := fun w => fromZ o2 w
  have f3 := fun w => fromZ od w
  have t4 := fun w A l c (h : NumR w (D.wt a b n d) A l) => toZ c h (by have := h.len 128 (natAbs_lt o4); omega)
  have c5 := fun w => rsmallZ o4 o5 w
  have e : (a * (d - n) + b * n) / d = D.wt a b n d := rfl
  have fl := fun w A l c B m c' (h : NumR w (a * (d - n) + b * n) A l) (g : NumR w d B m) => floorZ c c' h g h2 (by have := h.len 128 (natAbs_lt o3); omega) (by have := g.len 128 (natAbs_lt od); omega)
  have su := fun w A l c B m c' (h : NumR w (a * (d - n)) A l) (g : NumR w (b * n) B m) => sumZ c c' h g (by have := h.len 128 (natAbs_lt o1); omega) (by have := g.len 128 (natAbs_lt o2); omega)
  rw [o4] at t4
  rw [e] at fl
  clear e
  generalize D.wt a b n d = q at *
  generalize (a * (d - n) + b * n) % d = r at *
  generalize a * (d - n) + b * n = s at *
  generalize a * (d - n) = z1 at *
  generalize b * n = z2 at *
  generalize M.oh q = qh at *
  generalize M.ol q = ql at *
  generalize M.oh d = dh at *
  generalize M.ol d = dl at *
  generalize M.oh z1 = h1' at *
  generalize M.ol z1 = l1' at *
  generalize M.oh z2 = h2' at *
  generalize M.ol z2 = l2' at *
  clear o1 o2 o3 o4 o5 od ha hb
  go_enter Try.func76, Try.ntmps76
  go_wp2_with (first | (go_at_call_of 78 (Value.int IntKind.i64 a); refine (c1 _).mono ?_; rintro e w1 ⟨rfl, hb⟩; replace O := O.call hb; clear hb) | (go_at_call_of 77 (Value.agg #[Value.int IntKind.i64 h1', Value.int IntKind.u64 l1']); refine (f1 _).mono ?_; rintro e w2 hret; obtain ⟨A1, k1, n1, rfl, O2, C1, Z1⟩ := num_gain O hret; clear hret O; have O := O2; clear O2) | ((with_reducible refine at_alloc 9 ?_); refine wpList_alloc_h O [.bool false, .slice none 0 0] zero50 ?_; clear O; intro g9 w3 O) | ((with_reducible refine at_store 9 ?_); refine wpList_put_h O 0 [.bool (decide (z1 < 0)), .slice A1 (List.length n1) k1] rfl rfl rfl size50 rfl (two_one rfl rfl) ?_; clear O; intro w4 O) | (go_at_call_of 78 (Value.int IntKind.i64 b); refine (c2 _).mono ?_; rintro e w5 ⟨rfl, hb⟩; replace O := O.call hb; clear hb) | (go_at_call_of 77 (Value.agg #[Value.int IntKind.i64 h2', Value.int IntKind.u64 l2']); refine (f2 _).mono ?_; rintro e w6 hret; obtain ⟨A2, k2, n2, rfl, O2, C2, Z2⟩ := num_gain O hret; clear hret O; have O := O2; clear O2) | ((with_reducible refine at_alloc 10 ?_); refine wpList_alloc_h O [.bool false, .slice none 0 0] zero50 ?_; clear O; intro g10 w7 O) | ((with_reducible refine at_store 10 ?_); refine wpList_put_h O 0 [.bool (decide (z2 < 0)), .slice A2 (List.length n2) k2] rfl rfl rfl size50 rfl (two_one rfl rfl) ?_; clear O; intro w8 O) | ((with_reducible refine at_load 28 ?_); refine wpList_rowg_h rfl O 1 rfl rfl Try.underlying112 rfl size50 ?_) | ((with_reducible refine at_load 29 ?_); refine wpList_rowg_h rfl O 0 rfl rfl Try.underlying112 rfl size50 ?_) | (go_at_call 80; refine (su _ _ _ _ _ _ _ (num_of O (List.mem_cons_of_mem _ List.mem_cons_self) C1 Z1) (num_of O List.mem_cons_self C2 Z2)).mono ?_; rintro e w9 hret; obtain ⟨A3, k3, n3, rfl, O2, C3, Z3⟩ := num_gain O hret; clear hret O; have O := O2; clear O2) | (go_at_call 81; refine (c3 _).mono ?_; rintro e w10 ⟨rfl, hb⟩; replace O := O.call hb; clear hb) | (go_at_call_of 77 (Value.agg #[Value.int IntKind.i64 dh, Value.int IntKind.u64 dl]); refine (f3 _).mono ?_; rintro e w11 hret; obtain ⟨A4, k4, n4, rfl, O2, C4, Z4⟩ := num_gain O hret; clear hret O; have O := O2; clear O2) | (go_at_call 79; refine (fl _ _ _ _ _ _ _ (num_of O (List.mem_cons_of_mem _ List.mem_cons_self) C3 Z3) (num_of O List.mem_cons_self C4 Z4)).mono ?_; rintro e w12 ⟨Aq, kq, nq, Ar, kr, nr, rfl, NQ, NR, hb⟩; replace O := O.call hb; have hB := O.below; clear O hb; have O := Held.start w12 [numE 0 Aq nq, numE 0 Ar nr] (by simpa using ⟨num_lies NQ, num_lies NR⟩); obtain ⟨-, Cq, Zq⟩ := NQ; clear NR) | ((with_reducible refine at_alloc 11 ?_); refine wpList_alloc_h O [.bool false, .slice none 0 0] zero50 ?_; clear O; intro g11 w13 O) | ((with_reducible refine at_alloc 12 ?_); refine wpList_alloc_h O [.bool false, .slice none 0 0] zero50 ?_; clear O; intro g12 w14 O) | ((with_reducible refine at_store 11 ?_); refine wpList_put_h O 1 [.bool (decide (q < 0)), .slice Aq (List.length nq) kq] rfl rfl rfl size50 rfl (two_one rfl rfl) ?_; clear O; intro w15 O) | ((with_reducible refine at_store 12 ?_); refine wpList_put_h O 0 [.bool (decide (r < 0)), .slice Ar (List.length nr) kr] rfl rfl rfl size50 rfl (two_one rfl rfl) ?_; clear O; intro w16 O) | ((with_reducible refine at_load 38 ?_); refine wpList_rowg_h rfl O 1 rfl rfl Try.underlying112 rfl size50 ?_) | (go_at_call 82; refine (t4 _ _ _ _ (num_of O List.mem_cons_self Cq Zq)).mono ?_; rintro e w17 ⟨rfl, hb⟩; replace O := O.call hb; clear hb) | ((with_reducible refine at_alloc 13 ?_); refine wpList_alloc_h O [.int .i64 0, .int .u64 0] zero54 ?_; clear O; intro g13 w18 O) | ((with_reducible refine at_store 13 ?_); refine wpList_put_h O 0 [.int .i64 qh, .int .u64 ql] rfl rfl rfl size54 rfl (two_one rfl rfl) ?_; clear O; intro w19 O) | ((with_reducible refine at_load 43 ?_); refine wpList_rowg_h rfl O 0 rfl rfl Try.underlying80 rfl size54 ?_) | (go_at_call 83; refine (c5 _).mono ?_; rintro e w20 ⟨rfl, hb⟩; replace O := O.call hb; clear hb))
  go_ret
  exact ⟨rfl, hB.trans (O.below.mono hB.size)⟩
end Go.Proofs.Ytdkppkdoconfhaa
