/- Contract of the document's From: the bits of a number of 128 bits. -/
import Derived.Test.YtbjbafhlmcnceaaSumB
import Derived.Laws.MakeOwn
namespace Go.Proofs.Ytbjbafhlmcnceaa
open Go.ChangeShapes Go.WideShapes Go.ChangeAt Go.RowKit
set_option linter.unusedVariables false

/-- Bits taken from below: what is left is x. -/
def L.FromI (U : Nat) (bs : List Nat) (x : Nat) : Prop := L.Bits bs ∧ L.nat bs + 2 ^ bs.length * x = U
theorem L.from_step {U x : Nat} {bs : List Nat} (h : L.FromI U bs x) : L.FromI U (bs ++ [x % 2]) (x / 2) := by
  obtain ⟨h1, h2⟩ := h
  refine ⟨h1.snoc (Nat.mod_lt _ (by omega)), ?_⟩
  rw [L.nat_snoc, List.length_append, List.length_singleton, Nat.pow_succ, ← h2]
  have : 2 ^ bs.length * x = 2 ^ bs.length * (x % 2) + 2 ^ bs.length * 2 * (x / 2) := by
    rw [Nat.mul_assoc, ← Nat.mul_add]; congr 1; omega
  omega
theorem made_list (n : Nat) : (madeCells (Value.int .u8 0).cells (n * 1)).toList = cells (List.replicate n 0) := by
  apply List.ext_getElem
  · simp [madeCells, cells]
  · intro i h1 h2
    simp [madeCells, cells, Value.cells, Nat.mod_one]
theorem L.nat_rep : ∀ n, L.nat (List.replicate n 0) = 0
  | 0 => rfl
  | n + 1 => by rw [List.replicate_succ]; show 0 + 2 * L.nat _ = 0; rw [L.nat_rep n]
theorem L.bits_rep (n : Nat) : L.Bits (List.replicate n 0) := by intro b hb; rw [List.mem_replicate] at hb; omega
/-- make([]byte, n). -/
theorem make_run (n : Nat) (hn : n ≤ 100000) : ∃ ZR : Array Value, ZR.toList = cells (List.replicate n 0) ∧ ∀ w : World, (Instr.makeSlice 48 (.int .i64 (n : Int)) (.int .i64 (n : Int))).run Try.prog w = .ok (.slice (some ⟨w.heap.size, 0, none⟩) n n) (w.alloc (.cells ZR 5)) := by
  obtain ⟨i0, hi0, hz0, hz1, hz2⟩ := info_parts u8_info
  refine ⟨_, made_list n, fun w => ?_⟩
  have := run_make (P := Try.prog) w 48 5 i0 (.int .u8 0) Try.underlying48 hi0 hz0 .i64 .i64 (n : Int) (n : Int) (by omega) (by omega) (by rw [hz2]; omega) (by omega)
  rw [Int.toNat_natCast, hz1] at this
  exact this
theorem make_own {x : World} {ZR : Array Value} {n base : Nat} (h : ZR.toList = cells (List.replicate n 0)) (hn : n ≤ 100000) (hb : base ≤ x.heap.size) : (x.alloc (.cells ZR 5)).ownsRow base 5 1 (.slice (some ⟨x.heap.size, 0, none⟩) n n) n (cells (List.replicate n 0)) := by
  have hs : ZR.size = n := by rw [← Array.length_toList, h]; simp [cells]
  refine ⟨by simp [cells], .inr ⟨x.heap.size, n, ZR, rfl, hb, heap_alloc_new x _, Nat.le_refl _, by simp only [maxLen]; omega, by omega, ?_⟩⟩
  rw [h, List.take_of_length_le (by simp [cells])]
set_option maxRecDepth 100000 in
set_option maxHeartbeats 2000000 in
theorem from_bits (h l : Int) (b : M.B h l) (w : World) :
    Calls Try.prog 25 #[.agg #[.int .i64 h, .int .u64 l]] w (RetNum w (M.val h l)) := by
  obtain ⟨i0, hi0, hz0, hz1, hz2⟩ := info_parts u8_info
  obtain ⟨h1, h2, h3, h4⟩ := b
  obtain ⟨lo, rfl⟩ := Int.eq_ofNat_of_zero_le h3
  obtain ⟨hi, hhi⟩ : ∃ hi : Nat, IntKind.u64.wrap h = (hi : Int) := ⟨(h % 18446744073709551616).toNat, by rw [IntKind.wrap_u64]; omega⟩
  have ehi : h % 18446744073709551616 = (hi : Int) := by rw [← hhi, IntKind.wrap_u64]
  have EHI := Lib.hid ehi
  have hi2 : hi < 18446744073709551616 := by omega
  have lo2 : lo < 18446744073709551616 := by omega
  clear ehi
  go_enter Try.func25, Try.ntmps25
  go_wp2
  go_quiet (fail)
  go_wp2
  have K0 : Below w.heap.size w (((w.alloc (.cells #[.int .i64 h, .int .u64 (lo : Int)] 54)).alloc (.cells #[.bool false, .slice none 0 0] 50)).drewN nq) := bdrewN (((Below.refl _ w).alloc (Nat.le_refl _) _).alloc (by simp) _) nq
  have c0 : (((w.alloc (.cells #[.int .i64 h, .int .u64 (lo : Int)] 54)).alloc (.cells #[.bool false, .slice none 0 0] 50)).drewN nq).cell? ⟨w.heap.size, 0, none⟩ = some (.int .i64 h) := by
    show ((w.alloc (.cells #[.int .i64 h, .int .u64 (lo : Int)] 54)).alloc (.cells #[.bool false, .slice none 0 0] 50)).cell? _ = _
    rw [World.cell?_alloc_lt _ _ _ (by simp)]; simp [World.cell?_alloc_new]
  have c1 : (((w.alloc (.cells #[.int .i64 h, .int .u64 (lo : Int)] 54)).alloc (.cells #[.bool false, .slice none 0 0] 50)).drewN nq).cell? ⟨w.heap.size + 1, 0, none⟩ = some (.bool false) := by show ((w.alloc (.cells #[.int .i64 h, .int .u64 (lo : Int)] 54)).alloc (.cells #[.bool false, .slice none 0 0] 50)).cell? _ = _; simp
  have c2 : (((w.alloc (.cells #[.int .i64 h, .int .u64 (lo : Int)] 54)).alloc (.cells #[.bool false, .slice none 0 0] 50)).drewN nq).cell? ⟨w.heap.size + 1, 1, none⟩ = some (.slice none 0 0) := by show ((w.alloc (.cells #[.int .i64 h, .int .u64 (lo : Int)] 54)).alloc (.cells #[.bool false, .slice none 0 0] 50)).cell? _ = _; simp
  have f1 : (((w.alloc (.cells #[.int .i64 h, .int .u64 (lo : Int)] 54)).alloc (.cells #[.bool false, .slice none 0 0] 50)).drewN nq).frozen? ⟨w.heap.size + 1, 0, none⟩ = false := World.frozen?_alloc2_new _ _ _ _
  have f2 : (((w.alloc (.cells #[.int .i64 h, .int .u64 (lo : Int)] 54)).alloc (.cells #[.bool false, .slice none 0 0] 50)).drewN nq).frozen? ⟨w.heap.size + 1, 1, none⟩ = false := World.frozen?_alloc2_new _ _ _ _
  have hs : w.heap.size + 1 < (((w.alloc (.cells #[.int .i64 h, .int .u64 (lo : Int)] 54)).alloc (.cells #[.bool false, .slice none 0 0] 50)).drewN nq).heap.size := by simp
  generalize ((w.alloc (.cells #[.int .i64 h, .int .u64 (lo : Int)] 54)).alloc (.cells #[.bool false, .slice none 0 0] 50)).drewN nq = W1 at *
  have hi0' := Lib.hid hi0
  go_loopw [3, 4, 6] (fun v x i wr => ∃ (bs : List Nat) (y : Nat), i = .int .i64 (bs.length : Nat) ∧ x = .int .u64 (y : Nat) ∧ bs.length ≤ 64 ∧ y < 18446744073709551616 ∧ Hid (L.FromI lo bs y) ∧ wr.ownsRow W1.heap.size 5 1 v bs.length (cells bs) ∧ Below W1.heap.size W1 wr) (fun _ _ i _ => 64 - (intOf i).toNat)
  case atStart => exact ⟨[], lo, rfl, rfl, by simp, lo2, Lib.hid ⟨L.Bits.nil, by simp [L.nat]⟩, ⟨rfl, .inl ⟨rfl, rfl⟩⟩, Below.refl _ _⟩
  case round =>
    obtain ⟨bs, y, rfl, rfl, hbs, hy, hI, hown, hB⟩ := hrel
    have hz := hB.size
    by_cases k : bs.length < 64
    · have N := Lib.hid (L.from_step hI.out)
      obtain ⟨p, hp⟩ : ∃ p, y % 2 = p := ⟨_, rfl⟩
      obtain ⟨q, hq⟩ : ∃ q, y / 2 = q := ⟨_, rfl⟩
      rw [hp, hq] at N
      have hp2 : p < 2 := by omega
      have hq2 : q < 18446744073709551616 := by omega
      have hp' : (y : Int) % 2 = (p : Int) := by omega
      have hq' : (y : Int) / 2 = (q : Int) := by omega
      have kk : (bs.length : Int) < 64 := by omega
      clear hp hq
      go_wp2_with (at_builtin; refine wpList_append_own _ rfl _ _ 48 rfl W1.heap.size 5 i0 (.int .u8 0) 1 1 Try.underlying48 hi0 hz0 hz1 hz2 rfl (by decide) _ _ _ rfl (hown.alloc _) ⟨wr.heap.size, 0, none⟩ 1 1 [.int .u8 (p : Int)] rfl rfl new_one (by simp [Value.oneCell']) (by simp only [maxLen]; omega) (by omega) (by simp; omega) ?_; intro v' w1 hown1 hgrow _)
      exact ⟨⟨bs ++ [p], q, vint (by simp), by first | rfl | exact vint hq', by simp; omega, hq2, N, by rw [cells_snoc, List.length_append]; exact hown1, (hB.alloc hz _).grown hgrow (by simp; omega) (fun k hk => own_ge hown k hk)⟩, by simp [intOf]; omega⟩
    · have kk : ¬ (bs.length : Int) < 64 := by omega
      have e64 : bs.length = 64 := by omega
      have hlo : L.nat bs = lo := by
        have := hI.out.2
        rw [e64] at this
        have h5 := L.nat_lt hI.out.1
        rw [e64] at h5
        omega
      have BS := Lib.hid (show L.Bits bs ∧ L.nat bs = lo ∧ bs.length = 64 from ⟨hI.out.1, hlo, e64⟩)
      clear hI hy hlo e64 hbs
      obtain ⟨U, hU0⟩ : ∃ U, lo + 18446744073709551616 * hi = U := ⟨_, rfl⟩
      have HU := Lib.hid hU0
      clear hU0
      go_wp2
      clear kk
      go_loopw [3, 5, 7] (fun v x i wr => ∃ (cs : List Nat) (k y : Nat), i = .int .i64 (k : Nat) ∧ x = .int .u64 (y : Nat) ∧ k ≤ 64 ∧ cs.length = 64 + k ∧ y < 18446744073709551616 ∧ Hid (L.FromI U cs y) ∧ wr.ownsRow W1.heap.size 5 1 v cs.length (cells cs) ∧ Below W1.heap.size W1 wr) (fun _ _ i _ => 64 - (intOf i).toNat)
      case atStart => exact ⟨bs, 0, hi, rfl, rfl, by omega, BS.out.2.2, hi2, Lib.hid ⟨BS.out.1, by rw [BS.out.2.1, BS.out.2.2, ← HU.out]⟩, hown, hB⟩
      case round =>
        clear hown hB hz
        obtain ⟨cs, k, y, rfl, rfl, hk, hcs, hy, hI, hown, hB⟩ := hrel
        have hz := hB.size
        have HCS := Lib.hid hcs
        have hcl : cs.length ≤ 128 := by omega
        clear hcs
        by_cases k6 : k < 64
        · have N := Lib.hid (L.from_step hI.out)
          obtain ⟨p, hp⟩ : ∃ p, y % 2 = p := ⟨_, rfl⟩
          obtain ⟨q, hq⟩ : ∃ q, y / 2 = q := ⟨_, rfl⟩
          rw [hp, hq] at N
          have hp2 : p < 2 := by omega
          have hq2 : q < 18446744073709551616 := by omega
          have hp' : (y : Int) % 2 = (p : Int) := by omega
          have hq' : (y : Int) / 2 = (q : Int) := by omega
          have kk : (k : Int) < 64 := by omega
          clear hp hq
          go_wp2_with (at_builtin; refine wpList_append_own _ rfl _ _ 48 rfl W1.heap.size 5 i0 (.int .u8 0) 1 1 Try.underlying48 hi0 hz0 hz1 hz2 rfl (by decide) _ _ _ rfl (hown.alloc _) ⟨wr.heap.size, 0, none⟩ 1 1 [.int .u8 (p : Int)] rfl rfl new_one (by simp [Value.oneCell']) (by simp only [maxLen]; omega) (by omega) (by simp; omega) ?_; intro v' w1 hown1 hgrow _)
          exact ⟨⟨cs ++ [p], k + 1, q, vint (by simp), by first | rfl | exact vint hq', by omega, by rw [List.length_append, HCS.out]; simp; omega, hq2, N, by rw [cells_snoc, List.length_append]; exact hown1, (hB.alloc hz _).grown hgrow (by simp; omega) (fun k hk => own_ge hown k hk)⟩, by simp [intOf]; omega⟩
        · have kk : ¬ (k : Int) < 64 := by omega
          have e128 : cs.length = 128 := by rw [HCS.out]; omega
          have hU : L.nat cs = lo + 18446744073709551616 * hi := by
            have hu := HU.out
            have := hI.out.2
            rw [e128] at this
            have h5 := L.nat_lt hI.out.1
            rw [e128] at h5
            omega
          have CS := Lib.hid (show L.Bits cs ∧ L.nat cs = lo + 18446744073709551616 * hi ∧ cs.length = 128 from ⟨hI.out.1, hU, e128⟩)
          obtain ⟨A, c, rfl, hr⟩ : ∃ A c, u3 = .slice A cs.length c ∧ Reads wr wr.heap.size 1 A cs.length (cells cs) := by
            rcases hown.2 with ⟨rfl, hn⟩ | ⟨g, cap, cur, rfl, _⟩
            · omega
            · exact ⟨some ⟨g, 0, none⟩, cap, rfl, Reads.of_own hown⟩
          have d0 := (hB.cell (p := ⟨w.heap.size, 0, none⟩) (by dsimp only; omega)).trans c0
          have d1 := (hB.cell (p := ⟨w.heap.size + 1, 0, none⟩) hs).trans c1
          have d2 := (hB.cell (p := ⟨w.heap.size + 1, 1, none⟩) hs).trans c2
          have g1 := (hB.frozen (p := ⟨w.heap.size + 1, 0, none⟩) hs).trans f1
          have g2 := (hB.frozen (p := ⟨w.heap.size + 1, 1, none⟩) hs).trans f2
          have K := K0.trans (hB.mono K0.size)
          have hs' : w.heap.size + 1 < wr.heap.size := by omega
          clear hI hU e128 hown hB hcl c0 c1 c2 f1 f2 hs K0 hz
          by_cases n : 0 ≤ h
          · have hV : M.sg false (L.nat cs : Int) = M.val h lo := by
              have := EHI.out; rw [CS.out.2.1]; unfold M.val; simp [M.sg]; omega
            have ct := trim_any false A c cs wr hr CS.out.1 (by have := CS.out.2.2; omega)
            rw [hV] at ct
            clear hV
            go_wp2_with fail
            refine ct.mono ?_
            rintro e w5 ⟨A', c', l', rfl, hr', hC, hz', hA, hb⟩
            have E := Lib.hid (end_num (w := w) (R := w.heap.size + 1) (c := c') hr' hC hz' (fun ad e => by have := hA ad e; omega) (by omega) (K.trans (hb.mono K.size)))
            have q1 := (hb.cell (p := ⟨w.heap.size + 1, 0, none⟩) hs').trans d1
            have q2 := (hb.cell (p := ⟨w.heap.size + 1, 1, none⟩) hs').trans d2
            have q3 := (hb.frozen (p := ⟨w.heap.size + 1, 0, none⟩) hs').trans g1
            have q4 := (hb.frozen (p := ⟨w.heap.size + 1, 1, none⟩) hs').trans g2
            clear hA hz' hC hr' hb d0 d1 d2 g1 g2
            go_wp2_with fail
            exact bodyPost_ret (v := .agg #[.bool (decide (M.val h lo < 0)), .slice A' l'.length c']) (by simp [results, Try.results25, go_sem, q1, q2]) rfl E.out
          · have hn : decide (0 ≤ h) = false := decide_eq_false n
            have HN := Lib.hid (show h < 0 ∧ -9223372036854775808 ≤ h from ⟨by omega, h1⟩)
            clear n hhi h1 h2
            obtain ⟨ZR, hZR, hmk⟩ := make_run 128 (by omega)
            have hmk' : ∀ w : World, (Instr.makeSlice 48 (.int .i64 128) (.int .i64 128)).run Try.prog w = .ok (.slice (some ⟨w.heap.size, 0, none⟩) 128 128) (w.alloc (.cells ZR 5)) := hmk
            clear hmk
            have LZ := Lib.hid (show L.Bits (List.replicate 128 0) ∧ L.nat (List.replicate 128 0) = 0 ∧ (List.replicate 128 0).length = 128 from ⟨L.bits_rep _, L.nat_rep _, by simp⟩)
            have ho := make_own (x := wr) (base := wr.heap.size) hZR (by omega) (Nat.le_refl _)
            have ho2 := ho.alloc (.cells #[.int .u8 1] 5)
            have kB : Below wr.heap.size wr ((wr.alloc (.cells ZR 5)).alloc (.cells #[.int .u8 1] 5)) := ((Below.refl _ wr).alloc (Nat.le_refl _) _).alloc (by simp) _
            clear ho hZR
            generalize List.replicate 128 0 = Z0 at *
            go_wp2_with (at_builtin; go_must (refine wpList_append_own _ rfl _ _ 48 rfl wr.heap.size 5 i0 (.int .u8 0) 1 1 Try.underlying48 hi0'.out hz0 hz1 hz2 rfl (by decide) _ 128 _ rfl ho2 ⟨wr.heap.size + 1, 0, none⟩ 1 1 [.int .u8 1] rfl rfl (by have := new_one (w := wr.alloc (.cells ZR 5)) (x := .int .u8 1) (t := 5); simpa using this) (by simp [Value.oneCell']) (by simp only [maxLen]; omega) (by omega) (by simp; omega) ?_); intro v' w6 hown1 hgrow _)
            have kB2 : Below wr.heap.size wr w6 := kB.grown hgrow (by first | (simp; done) | (simp; omega)) (own_ge ho2)
            have hl129 : (Z0 ++ [1]).length = 128 + 1 := by rw [List.length_append, LZ.out.2.2]; rfl
            obtain ⟨A', c', rfl, hr'⟩ : ∃ A' c', v' = .slice A' (Z0 ++ [1]).length c' ∧ Reads w6 w6.heap.size 1 A' (Z0 ++ [1]).length (cells (Z0 ++ [1])) := by
              rw [hl129, cells_snoc]
              rcases hown1.2 with ⟨rfl, hn⟩ | ⟨g, cap, cur, rfl, _⟩
              · omega
              · exact ⟨some ⟨g, 0, none⟩, cap, rfl, Reads.of_own hown1⟩
            have hZ1 : L.nat (Z0 ++ [1]) = 340282366920938463463374607431768211456 := by rw [L.nat_snoc, LZ.out.2.1, LZ.out.2.2]
            have hU2 : L.nat cs < 340282366920938463463374607431768211456 := by have := L.nat_lt CS.out.1; rw [CS.out.2.2] at this; exact this
            have cl := (less_any A' A c' c (Z0 ++ [1]) cs w6 hr' (hr.up kB2) (LZ.out.1.snoc (by omega)) CS.out.1 (by omega) (by have := CS.out.2.2; omega) (by omega)).mono fun _ _ h => sl_of h
            have hV : ∀ l2 : List Nat, L.nat l2 = L.nat (Z0 ++ [1]) - L.nat cs → M.sg true (L.nat l2 : Int) = M.val h lo := by
              intro l2 e
              rw [e, hZ1, CS.out.2.1]
              have := EHI.out
              have := HN.out.1
              have := HN.out.2
              have := CS.out.2.1
              rw [Int.ofNat_sub (by omega)]
              unfold M.val M.sg
              simp
              omega
            have HVV := Lib.hid hV
            have HL := Lib.hid hl129
            clear hV hZ1 hU2 hown1 hgrow ho2 kB hr' hmk' hl129
            have K2 := K.trans (kB2.mono K.size)
            have d1' := (kB2.cell (p := ⟨w.heap.size + 1, 0, none⟩) hs').trans d1
            have d2' := (kB2.cell (p := ⟨w.heap.size + 1, 1, none⟩) hs').trans d2
            have g1' := (kB2.frozen (p := ⟨w.heap.size + 1, 0, none⟩) hs').trans g1
            have g2' := (kB2.frozen (p := ⟨w.heap.size + 1, 1, none⟩) hs').trans g2
            have hs6 : w.heap.size + 1 < w6.heap.size := Nat.lt_of_lt_of_le hs' kB2.size
            clear kB2 d0 d1 d2 g1 g2
            refine cl.mono ?_
            rintro e w7 ⟨A2, c2, l2, rfl, hr2, ⟨p1, p2, p3⟩, hb7⟩
            have ct := trim_any true A2 c2 l2 w7 hr2 p1 (by rw [p3]; have := HL.out; omega)
            rw [HVV.out l2 p2] at ct
            have K3 := K2.trans (hb7.mono K2.size)
            have d1'' := (hb7.cell (p := ⟨w.heap.size + 1, 0, none⟩) hs6).trans d1'
            have d2'' := (hb7.cell (p := ⟨w.heap.size + 1, 1, none⟩) hs6).trans d2'
            have g1'' := (hb7.frozen (p := ⟨w.heap.size + 1, 0, none⟩) hs6).trans g1'
            have g2'' := (hb7.frozen (p := ⟨w.heap.size + 1, 1, none⟩) hs6).trans g2'
            have hs7 : w.heap.size + 1 < w7.heap.size := Nat.lt_of_lt_of_le hs6 hb7.size
            clear d1' d2' g1' g2' hb7 K2 p2 p3 cl
            go_wp2_with fail
            refine ct.mono ?_
            rintro e w8 ⟨A3, c3, l3, rfl, hr3, hC3, hz3, hA3, hb8⟩
            have E := Lib.hid (end_num (w := w) (R := w.heap.size + 1) (c := c3) hr3 hC3 hz3 (fun ad e => by have := hA3 ad e; omega) (by omega) (K3.trans (hb8.mono K3.size)))
            have q1 := (hb8.cell (p := ⟨w.heap.size + 1, 0, none⟩) hs7).trans d1''
            have q2 := (hb8.cell (p := ⟨w.heap.size + 1, 1, none⟩) hs7).trans d2''
            have q3 := (hb8.frozen (p := ⟨w.heap.size + 1, 0, none⟩) hs7).trans g1''
            have q4 := (hb8.frozen (p := ⟨w.heap.size + 1, 1, none⟩) hs7).trans g2''
            clear hA3 hz3 hC3 hr3 hb8 d1'' d2'' g1'' g2''
            go_wp2_with fail
            exact bodyPost_ret (v := .agg #[.bool (decide (M.val h lo < 0)), .slice A3 l3.length c3]) (by simp [results, Try.results25, go_sem, q1, q2]) rfl E.out
end Go.Proofs.Ytbjbafhlmcnceaa
