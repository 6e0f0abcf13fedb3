/- Contracts of the document's num and To. -/
import Derived.Test.YtbjbafhlmcnceaaFrom
namespace Go.Proofs.Ytbjbafhlmcnceaa
open Go.ChangeShapes Go.WideShapes Go.ChangeAt Go.RowKit
set_option linter.unusedVariables false

theorem num_any (n : Int) (h1 : -9223372036854775808 ≤ n) (h2 : n < 9223372036854775808) (w : World) : Calls Try.prog 39 #[.int .i64 n] w (RetNum w n) := by
  have cO := rof_any n h1 h2
  have cF := fun w => from_bits (M.oh n) (M.ol n) (M.b_of n) w
  rw [M.val_of (v := n) (by rw [M.ok_iff]; omega)] at cF
  clear h1 h2
  go_enter Try.func39, Try.ntmps39
  go_wp2_with fail
  refine (cO _).mono ?_; rintro e w1 ⟨rfl, hb⟩
  have d0 := (hb.cell (p := ⟨w.heap.size, 0, none⟩) (by simp)).trans (by simp : (w.alloc (.cells #[.bool false, .slice none 0 0] 50)).cell? ⟨w.heap.size, 0, none⟩ = some (.bool false))
  have d1 := (hb.cell (p := ⟨w.heap.size, 1, none⟩) (by simp)).trans (by simp : (w.alloc (.cells #[.bool false, .slice none 0 0] 50)).cell? ⟨w.heap.size, 1, none⟩ = some (.slice none 0 0))
  have g0 := (hb.frozen (p := ⟨w.heap.size, 0, none⟩) (by simp)).trans (World.frozen?_alloc_new w _ 50 0)
  have g1 := (hb.frozen (p := ⟨w.heap.size, 1, none⟩) (by simp)).trans (World.frozen?_alloc_new w _ 50 1)
  have K := ((Below.refl _ w).alloc (Nat.le_refl _) _).trans (hb.mono (show w.heap.size ≤ _ by simp))
  have hs : w.heap.size < w1.heap.size := by have := hb.size; simp at this; omega
  clear hb
  go_wp2_with fail
  refine (cF _).mono ?_
  rintro e w2 ⟨A, c, l, rfl, hr, hC, hz, hA, hb⟩
  have E := Lib.hid (end_num (w := w) (R := w.heap.size) (c := c) hr hC hz (fun ad e => by have := hA ad e; omega) (Nat.le_refl _) (K.trans (hb.mono K.size)))
  have q0 := (hb.cell (p := ⟨w.heap.size, 0, none⟩) hs).trans d0
  have q1 := (hb.cell (p := ⟨w.heap.size, 1, none⟩) hs).trans d1
  have q2 := (hb.frozen (p := ⟨w.heap.size, 0, none⟩) hs).trans g0
  have q3 := (hb.frozen (p := ⟨w.heap.size, 1, none⟩) hs).trans g1
  clear hb d0 d1 g0 g1 hA hz hC hr
  go_wp2_with fail
  exact bodyPost_ret (v := .agg #[.bool (decide (n < 0)), .slice A l.length c]) (by simp [results, Try.results39, go_sem, q0, q1]) rfl E.out
/-- What To has read of the bits from j on. -/
theorem L.to_step {b : List Nat} {j k : Nat} (hb : L.Bits b) : L.nat (b.drop j) % 2 ^ (k + 1) = L.nat (b.drop (j + 1)) % 2 ^ k * 2 + L.bit b j := by
  rw [L.nat_drop b j, Nat.pow_succ]
  have h := L.bit_lt hb j
  generalize L.nat (b.drop (j + 1)) = x
  have e1 := Nat.div_add_mod x (2 ^ k)
  have e2 := Nat.mod_lt x (Nat.two_pow_pos k)
  have e : L.bit b j + 2 * x = (x % 2 ^ k * 2 + L.bit b j) + 2 ^ k * 2 * (x / 2 ^ k) := by
    have : 2 ^ k * 2 * (x / 2 ^ k) = 2 * (2 ^ k * (x / 2 ^ k)) := by rw [Nat.mul_comm (2 ^ k) 2, Nat.mul_assoc]
    omega
  rw [e, Nat.add_mul_mod_self_left, Nat.mod_eq_of_lt (by omega)]
theorem L.to_end {b : List Nat} (hb : L.Bits b) : L.nat (b.drop 64) % 18446744073709551616 = L.nat b / 18446744073709551616 % 18446744073709551616 := by
  have h := L.nat_take b 64
  have l := L.nat_lt (hb.take 64)
  by_cases k : 64 ≤ b.length
  · rw [List.length_take, show min 64 b.length = 64 by omega] at l
    rw [show min 64 b.length = 64 by omega] at h
    omega
  · rw [L.nat_drop_out (by omega)] at h ⊢
    rw [List.length_take] at l
    have := Nat.pow_le_pow_right (n := 2) (by omega) (show min 64 b.length ≤ 64 by omega)
    omega
theorem L.bit127 {b : List Nat} (hb : L.Bits b) (hl : b.length = 129) (hT : L.nat b < 340282366920938463463374607431768211456) : (L.bit b 127 = 0 → L.nat b < 170141183460469231731687303715884105728) ∧ (L.bit b 127 = 1 → 170141183460469231731687303715884105728 ≤ L.nat b) := by
  have h := L.nat_take b 127
  have l := L.nat_lt (hb.take 127)
  rw [List.length_take, hl, show min 127 129 = 127 by omega] at l
  rw [hl, show min 127 129 = 127 by omega, L.nat_drop] at h
  have e : (2 : Nat) ^ 127 = 170141183460469231731687303715884105728 := by decide
  rw [e] at h l
  constructor <;> intro g <;> rw [g] at h <;> omega
theorem M.to_fin {z : Int} {T : Nat} (o : M.ok z = true) (hT : T < 340282366920938463463374607431768211456) (h : (T : Int) = z ∨ (T : Int) = z + 340282366920938463463374607431768211456) (x y : Nat) (hx : x = T % 18446744073709551616) (hy : y = T / 18446744073709551616 % 18446744073709551616) :
    M.oh z = M.w64 (y : Int) ∧ M.ol z = (x : Int) := by
  rw [M.ok_iff] at o
  refine M.ohl_of (by unfold M.B M.w64; omega) ?_
  unfold M.val M.w64
  omega
set_option maxRecDepth 100000 in
set_option maxHeartbeats 2000000 in
theorem to_any (z : Int) (A : Option Addr) (c : Nat) (l : List Nat) (w : World) (h : Reads w w.heap.size 1 A l.length (cells l)) (hC : L.Can l) (hz : L.nat l = z.natAbs) (hn : l.length ≤ 900) :
    Calls Try.prog 30 #[.agg #[.bool (decide (z < 0)), .slice A l.length c]] w fun e w' => e = .returned (.tuple #[.agg #[.int .i64 (M.oh z), .int .u64 (M.ol z)], .bool (M.ok z)]) ∧ Below w.heap.size w w' := by
  have kW : Below w.heap.size w ((w.alloc (.cells #[.bool (decide (z < 0)), .slice A l.length c] 50)).alloc (.cells #[.int .i64 0, .int .u64 0] 54)) := ((Below.refl _ w).alloc (Nat.le_refl _) _).alloc (by simp) _
  have hr := h.up kW
  by_cases n : z < 0
  · have nd : decide (z < 0) = true := decide_eq_true n
    rw [nd] at hr kW ⊢
    have npos : 0 < L.nat l := by omega
    by_cases big : 128 < l.length
    · have o : M.ok z = false := by
        rw [Bool.eq_false_iff]; intro o; rw [M.ok_iff] at o
        have := L.can_ge hC (by intro e; rw [e] at big; simp at big)
        have := Nat.pow_le_pow_right (n := 2) (by omega) (show 128 ≤ l.length - 1 by omega)
        omega
      have E := Lib.hid (M.no_of o)
      have O := Lib.hid o
      have bi : (128 : Int) < (l.length : Int) := by omega
      clear o hz hC h hr kW nd n big npos
      go_enter Try.func30, Try.ntmps30
      go_wp2
      exact bodyPost_ret (v := .tuple #[.agg #[.int .i64 0, .int .u64 0], .bool false]) (by simp [results, Try.results30, go_sem]) rfl ⟨retpb E.out.1.symm E.out.2.symm O.out.symm, ((Below.refl _ w).alloc (Nat.le_refl _) _).alloc (by simp) _⟩
    · have lt128 : L.nat l < 340282366920938463463374607431768211456 := Nat.lt_of_lt_of_le (L.nat_lt hC.1) (Nat.pow_le_pow_right (n := 2) (by omega) (show l.length ≤ 128 by omega))
      have bi : ¬ (128 : Int) < (l.length : Int) := by omega
      obtain ⟨i0, hi0, hz0, hz1, hz2⟩ := info_parts u8_info
      have hi0' := Lib.hid hi0
      have d1 : ((w.alloc (.cells #[.bool true, .slice A l.length c] 50)).alloc (.cells #[.int .i64 0, .int .u64 0] 54)).cell? ⟨w.heap.size + 1, 0, none⟩ = some (.int .i64 0) := by simp
      have d2 : ((w.alloc (.cells #[.bool true, .slice A l.length c] 50)).alloc (.cells #[.int .i64 0, .int .u64 0] 54)).cell? ⟨w.heap.size + 1, 1, none⟩ = some (.int .u64 0) := by simp
      have g1 : ((w.alloc (.cells #[.bool true, .slice A l.length c] 50)).alloc (.cells #[.int .i64 0, .int .u64 0] 54)).frozen? ⟨w.heap.size + 1, 0, none⟩ = false := World.frozen?_alloc2_new _ _ _ _
      have g2 : ((w.alloc (.cells #[.bool true, .slice A l.length c] 50)).alloc (.cells #[.int .i64 0, .int .u64 0] 54)).frozen? ⟨w.heap.size + 1, 1, none⟩ = false := World.frozen?_alloc2_new _ _ _ _
      have hs' : w.heap.size + 1 < ((w.alloc (.cells #[.bool true, .slice A l.length c] 50)).alloc (.cells #[.int .i64 0, .int .u64 0] 54)).heap.size := by simp
      have HZ := Lib.hid (show L.nat l = z.natAbs ∧ z < 0 ∧ 0 < L.nat l ∧ L.nat l < 340282366920938463463374607431768211456 from ⟨hz, n, npos, lt128⟩)
      have xl := hC.1
      have hl900 : l.length ≤ 128 := by omega
      clear hz n npos lt128 big nd h hC
      go_enter Try.func30, Try.ntmps30
      go_upto_region 5 with fail
      generalize (w.alloc (.cells #[.bool true, .slice A l.length c] 50)).alloc (.cells #[.int .i64 0, .int .u64 0] 54) = wr at *
      clear bi
      obtain ⟨ZR, hZR, hmk⟩ := make_run 128 (by omega)
      have hmk' : ∀ w : World, (Instr.makeSlice 48 (.int .i64 128) (.int .i64 128)).run Try.prog w = .ok (.slice (some ⟨w.heap.size, 0, none⟩) 128 128) (w.alloc (.cells ZR 5)) := hmk
      clear hmk
      have LZ := Lib.hid (show L.Bits (List.replicate 128 0) ∧ L.nat (List.replicate 128 0) = 0 ∧ (List.replicate 128 0).length = 128 from ⟨L.bits_rep _, L.nat_rep _, by simp⟩)
      have ho := make_own (x := wr) (base := wr.heap.size) hZR (by omega) (Nat.le_refl _)
      have ho2 := ho.alloc (.cells #[.int .u8 1] 5)
      have kB : Below wr.heap.size wr ((wr.alloc (.cells ZR 5)).alloc (.cells #[.int .u8 1] 5)) := ((Below.refl _ wr).alloc (Nat.le_refl _) _).alloc (by simp) _
      clear ho hZR
      generalize List.replicate 128 0 = Z0 at *
      go_wp2_with (at_builtin; go_must (refine wpList_append_own _ rfl _ _ 48 rfl wr.heap.size 5 i0 (.int .u8 0) 1 1 Try.underlying48 hi0'.out hz0 hz1 hz2 rfl (by decide) _ 128 _ rfl ho2 ⟨wr.heap.size + 1, 0, none⟩ 1 1 [.int .u8 1] rfl rfl (by have := new_one (w := wr.alloc (.cells ZR 5)) (x := .int .u8 1) (t := 5); simpa using this) (by simp [Value.oneCell']) (by simp only [maxLen]; omega) (by omega) (by simp; omega) ?_); intro v' w6 hown1 hgrow _)
      have kB2 : Below wr.heap.size wr w6 := kB.grown hgrow (by first | (simp; done) | (simp; omega)) (own_ge ho2)
      have hl129 : (Z0 ++ [1]).length = 128 + 1 := by rw [List.length_append, LZ.out.2.2]; rfl
      obtain ⟨A', c', rfl, hr'⟩ : ∃ A' c', v' = .slice A' (Z0 ++ [1]).length c' ∧ Reads w6 w6.heap.size 1 A' (Z0 ++ [1]).length (cells (Z0 ++ [1])) := by
        rw [hl129, cells_snoc]
        rcases hown1.2 with ⟨rfl, hn⟩ | ⟨g, cap, cur, rfl, _⟩
        · omega
        · exact ⟨some ⟨g, 0, none⟩, cap, rfl, Reads.of_own hown1⟩
      have hZ1 : L.nat (Z0 ++ [1]) = 340282366920938463463374607431768211456 := by rw [L.nat_snoc, LZ.out.2.1, LZ.out.2.2]
      have cl := (less_any A' A c' c (Z0 ++ [1]) l w6 hr' (hr.up kB2) (LZ.out.1.snoc (by omega)) xl (by omega) (by omega) (by have := HZ.out.2.2.2; omega)).mono fun _ _ h => sl_of h
      have hT : ∀ l2 : List Nat, L.nat l2 = L.nat (Z0 ++ [1]) - L.nat l → (L.nat l2 : Int) = z + 340282366920938463463374607431768211456 ∧ L.nat l2 < 340282366920938463463374607431768211456 := by
        intro l2 e
        have h1 := HZ.out
        rw [e, hZ1]
        omega
      have HT := Lib.hid hT
      have HL := Lib.hid hl129
      have K2 := kW.trans (kB2.mono kW.size)
      have d1' := (kB2.cell (p := ⟨w.heap.size + 1, 0, none⟩) hs').trans d1
      have d2' := (kB2.cell (p := ⟨w.heap.size + 1, 1, none⟩) hs').trans d2
      have g1' := (kB2.frozen (p := ⟨w.heap.size + 1, 0, none⟩) hs').trans g1
      have g2' := (kB2.frozen (p := ⟨w.heap.size + 1, 1, none⟩) hs').trans g2
      have hs6 : w.heap.size + 1 < w6.heap.size := Nat.lt_of_lt_of_le hs' kB2.size
      clear hT hZ1 hown1 hgrow ho2 kB hr' hmk' hl129 kB2 d1 d2 g1 g2 hr kW
      refine cl.mono ?_
      rintro e w7 ⟨A2, c2, l2, rfl, hr2, ⟨xb, p2, p3⟩, hb7⟩
      obtain ⟨T1, T2⟩ := HT.out l2 p2
      have l129 : l2.length = 129 := by rw [p3, HL.out]
      have K3 := K2.trans (hb7.mono K2.size)
      have d1'' := (hb7.cell (p := ⟨w.heap.size + 1, 0, none⟩) hs6).trans d1'
      have d2'' := (hb7.cell (p := ⟨w.heap.size + 1, 1, none⟩) hs6).trans d2'
      have g1'' := (hb7.frozen (p := ⟨w.heap.size + 1, 0, none⟩) hs6).trans g1'
      have g2'' := (hb7.frozen (p := ⟨w.heap.size + 1, 1, none⟩) hs6).trans g2'
      have hs7 : w.heap.size + 1 < w7.heap.size := Nat.lt_of_lt_of_le hs6 hb7.size
      have cb := bit_any A2 c2 l2 127 w7 w7.heap.size hr2 (by omega) (by omega)
      have hbit := L.bit127 xb l129 T2
      have hl9 : l2.length ≤ 1000 := by omega
      have hrr := hr2
      clear d1' d2' g1' g2' hb7 K2 p2 p3 cl hr2
      by_cases o : M.ok z = true
      · have b1 : L.bit l2 127 = 1 := by rw [M.ok_iff] at o; have := L.bit_lt xb 127; omega
        have O := Lib.hid o
        have FIN := Lib.hid (M.to_fin (T := L.nat l2) o T2 (Or.inr T1))
        rw [b1] at cb
        clear o T1 T2 hbit b1 l129
        go_wp2_with fail
        refine cb.mono ?_; rintro e w' ⟨rfl, rfl⟩
        go_wp2_with fail
        go_loop [5, 6, 7] (fun lo hi i => ∃ (j x y : Nat), i = .int .i64 ((j : Int) - 1) ∧ lo = .int .u64 (x : Nat) ∧ hi = .int .u64 (y : Nat) ∧ j ≤ 64 ∧ Hid (x = L.nat (l2.drop j) % 2 ^ (64 - j) ∧ y = L.nat (l2.drop (64 + j)) % 2 ^ (64 - j))) (fun _ _ i => (intOf i + 1).toNat)
        case atStart => exact ⟨64, 0, 0, rfl, rfl, rfl, Nat.le_refl _, Lib.hid ⟨by simp [Nat.mod_one], by simp [Nat.mod_one]⟩⟩
        case round =>
          obtain ⟨j, x, y, rfl, rfl, rfl, hj, hI⟩ := hrel
          rcases Nat.eq_zero_or_pos j with z0 | z0
          · subst z0
            have F := Lib.hid (FIN.out x y (by simpa using hI.out.1) (by have := hI.out.2; rw [Nat.sub_zero, Nat.add_zero] at this; rw [this]; exact L.to_end xb))
            clear hI
            go_wp2
            exact bodyPost_ret (v := .tuple #[.agg #[.int .i64 (wrap64 (y : Int)), .int .u64 (x : Int)], .bool true]) (by simp [results, Try.results30, go_sem, d1'', d2'']) rfl ⟨retpb (by rw [w64_is]; exact F.out.1.symm) F.out.2.symm O.out.symm, (K3.setCell (by dsimp only; omega) _).setCell (by dsimp only; omega) _⟩
          · obtain ⟨i, rfl⟩ : ∃ i, j = i + 1 := ⟨j - 1, by omega⟩
            have ei : (((i + 1 : Nat) : Int) - 1) = (i : Int) := by omega
            rw [ei]
            have cA := fun w' hw' => bit_any A2 c2 l2 i w' w'.heap.size hw' hl9 (by omega)
            have cB : ∀ w', Reads w' w'.heap.size 1 A2 l2.length (cells l2) → Calls Try.prog 43 #[.slice A2 l2.length c2, .int .i64 (64 + (i : Int))] w' fun e w'' => e = .returned (.int .u8 (L.bit l2 (64 + i))) ∧ w' = w'' := fun w' hw' => by
              have := bit_any A2 c2 l2 (64 + i) w' w'.heap.size hw' hl9 (by omega)
              rwa [Int.natCast_add] at this
            have p2 := L.bit_lt xb i
            have q2 := L.bit_lt xb (64 + i)
            have s1 := L.to_step (b := l2) (j := i) (k := 64 - (i + 1)) xb
            have s2 := L.to_step (b := l2) (j := 64 + i) (k := 64 - (i + 1)) xb
            rw [show 64 - (i + 1) + 1 = 64 - i by omega] at s1 s2
            rw [← hI.out.1] at s1
            rw [show 64 + i + 1 = 64 + (i + 1) by omega, ← hI.out.2] at s2
            have p63 : 2 ^ (64 - (i + 1)) ≤ 9223372036854775808 := by
              have := Nat.pow_le_pow_right (n := 2) (by omega) (show 64 - (i + 1) ≤ 63 by omega); omega
            have x63 : x < 9223372036854775808 := by rw [hI.out.1]; exact Nat.lt_of_lt_of_le (Nat.mod_lt _ (Nat.two_pow_pos _)) p63
            have y63 : y < 9223372036854775808 := by rw [hI.out.2]; exact Nat.lt_of_lt_of_le (Nat.mod_lt _ (Nat.two_pow_pos _)) p63
            generalize L.bit l2 i = p at *
            generalize L.bit l2 (64 + i) = q at *
            have NX := Lib.hid (show x * 2 + p = L.nat (l2.drop i) % 2 ^ (64 - i) ∧ y * 2 + q = L.nat (l2.drop (64 + i)) % 2 ^ (64 - i) from ⟨s1.symm, s2.symm⟩)
            have i0 : (0 : Int) ≤ (i : Int) := by omega
            have i1 : (i : Int) < 64 := by omega
            clear s1 s2 p63 hI
            go_wp2_with fail
            refine (cA _ hrr).mono ?_; rintro e w' ⟨rfl, rfl⟩
            go_wp2_with fail
            refine (cB _ hrr).mono ?_; rintro e w' ⟨rfl, rfl⟩
            go_wp2_with fail
            exact ⟨⟨i, x * 2 + p, y * 2 + q, rfl, vint (by simp), vint (by simp), by omega, NX⟩, by simp [intOf]⟩
      · have o := Bool.eq_false_iff.2 o
        have b0 : L.bit l2 127 = 0 := by have := M.ok_no o; have := HZ.out; have := L.bit_lt xb 127; omega
        have E := Lib.hid (M.no_of o)
        have O := Lib.hid o
        rw [b0] at cb
        clear o T1 T2 hbit b0 l129
        go_wp2_with fail
        refine cb.mono ?_; rintro e w' ⟨rfl, rfl⟩
        go_wp2_with fail
        exact bodyPost_ret (v := .tuple #[.agg #[.int .i64 0, .int .u64 0], .bool false]) (by simp [results, Try.results30, go_sem, d1'', d2'']) rfl ⟨retpb E.out.1.symm E.out.2.symm O.out.symm, (K3.setCell (by dsimp only; omega) _).setCell (by dsimp only; omega) _⟩
  · have nd : decide (z < 0) = false := decide_eq_false n
    rw [nd] at hr kW ⊢
    by_cases big : 127 < l.length
    · have o : M.ok z = false := by
        rw [Bool.eq_false_iff]; intro o; rw [M.ok_iff] at o
        have := L.can_ge hC (by intro e; rw [e] at big; simp at big)
        have := Nat.pow_le_pow_right (n := 2) (by omega) (show 127 ≤ l.length - 1 by omega)
        omega
      have E := Lib.hid (M.no_of o)
      have O := Lib.hid o
      have bi : (127 : Int) < (l.length : Int) := by omega
      clear o hz hC h hr kW nd n big
      go_enter Try.func30, Try.ntmps30
      go_wp2
      exact bodyPost_ret (v := .tuple #[.agg #[.int .i64 0, .int .u64 0], .bool false]) (by simp [results, Try.results30, go_sem]) rfl ⟨retpb E.out.1.symm E.out.2.symm O.out.symm, ((Below.refl _ w).alloc (Nat.le_refl _) _).alloc (by simp) _⟩
    · have lt127 : L.nat l < 2 ^ 127 := Nat.lt_of_lt_of_le (L.nat_lt hC.1) (Nat.pow_le_pow_right (by omega) (by omega))
      have o : M.ok z = true := by rw [M.ok_iff]; omega
      have O := Lib.hid o
      have bi : ¬ (127 : Int) < (l.length : Int) := by omega
      have FIN := Lib.hid (M.to_fin (T := L.nat l) o (by omega) (Or.inl (show (L.nat l : Int) = z by omega)))
      have xb := hC.1
      have hl9 : l.length ≤ 1000 := by omega
      have hrr := hr
      clear o hz hC h hr kW nd n big lt127
      go_enter Try.func30, Try.ntmps30
      go_wp2
      go_loop [5, 6, 7] (fun lo hi i => ∃ (j x y : Nat), i = .int .i64 ((j : Int) - 1) ∧ lo = .int .u64 (x : Nat) ∧ hi = .int .u64 (y : Nat) ∧ j ≤ 64 ∧ Hid (x = L.nat (l.drop j) % 2 ^ (64 - j) ∧ y = L.nat (l.drop (64 + j)) % 2 ^ (64 - j))) (fun _ _ i => (intOf i + 1).toNat)
      case atStart => exact ⟨64, 0, 0, rfl, rfl, rfl, Nat.le_refl _, Lib.hid ⟨by simp [Nat.mod_one], by simp [Nat.mod_one]⟩⟩
      case round =>
        obtain ⟨j, x, y, rfl, rfl, rfl, hj, hI⟩ := hrel
        rcases Nat.eq_zero_or_pos j with z0 | z0
        · subst z0
          have F := Lib.hid (FIN.out x y (by simpa using hI.out.1) (by have := hI.out.2; rw [Nat.sub_zero, Nat.add_zero] at this; rw [this]; exact L.to_end xb))
          clear hI
          go_wp2
          exact bodyPost_ret (v := .tuple #[.agg #[.int .i64 (wrap64 (y : Int)), .int .u64 (x : Int)], .bool true]) (by simp [results, Try.results30, go_sem]) rfl ⟨retpb (by rw [w64_is]; exact F.out.1.symm) F.out.2.symm O.out.symm, ((Below.refl _ w).alloc (Nat.le_refl _) _).alloc (by simp) _⟩
        · obtain ⟨i, rfl⟩ : ∃ i, j = i + 1 := ⟨j - 1, by omega⟩
          have ei : (((i + 1 : Nat) : Int) - 1) = (i : Int) := by omega
          rw [ei]
          have cA := fun w' hw' => bit_any A c l i w' w'.heap.size hw' hl9 (by omega)
          have cB : ∀ w', Reads w' w'.heap.size 1 A l.length (cells l) → Calls Try.prog 43 #[.slice A l.length c, .int .i64 (64 + (i : Int))] w' fun e w'' => e = .returned (.int .u8 (L.bit l (64 + i))) ∧ w' = w'' := fun w' hw' => by
            have := bit_any A c l (64 + i) w' w'.heap.size hw' hl9 (by omega)
            rwa [Int.natCast_add] at this
          have p2 := L.bit_lt xb i
          have q2 := L.bit_lt xb (64 + i)
          have s1 := L.to_step (b := l) (j := i) (k := 64 - (i + 1)) xb
          have s2 := L.to_step (b := l) (j := 64 + i) (k := 64 - (i + 1)) xb
          rw [show 64 - (i + 1) + 1 = 64 - i by omega] at s1 s2
          rw [← hI.out.1] at s1
          rw [show 64 + i + 1 = 64 + (i + 1) by omega, ← hI.out.2] at s2
          have p63 : 2 ^ (64 - (i + 1)) ≤ 9223372036854775808 := by
            have := Nat.pow_le_pow_right (n := 2) (by omega) (show 64 - (i + 1) ≤ 63 by omega); omega
          have x63 : x < 9223372036854775808 := by rw [hI.out.1]; exact Nat.lt_of_lt_of_le (Nat.mod_lt _ (Nat.two_pow_pos _)) p63
          have y63 : y < 9223372036854775808 := by rw [hI.out.2]; exact Nat.lt_of_lt_of_le (Nat.mod_lt _ (Nat.two_pow_pos _)) p63
          generalize L.bit l i = p at *
          generalize L.bit l (64 + i) = q at *
          have NX := Lib.hid (show x * 2 + p = L.nat (l.drop i) % 2 ^ (64 - i) ∧ y * 2 + q = L.nat (l.drop (64 + i)) % 2 ^ (64 - i) from ⟨s1.symm, s2.symm⟩)
          have i0 : (0 : Int) ≤ (i : Int) := by omega
          have i1 : (i : Int) < 64 := by omega
          clear s1 s2 p63 hI
          go_wp2_with fail
          refine (cA _ hrr).mono ?_; rintro e w' ⟨rfl, rfl⟩
          go_wp2_with fail
          refine (cB _ hrr).mono ?_; rintro e w' ⟨rfl, rfl⟩
          go_wp2_with fail
          exact ⟨⟨i, x * 2 + p, y * 2 + q, rfl, vint (by simp), vint (by simp), by omega, NX⟩, by simp [intOf]⟩
end Go.Proofs.Ytbjbafhlmcnceaa
