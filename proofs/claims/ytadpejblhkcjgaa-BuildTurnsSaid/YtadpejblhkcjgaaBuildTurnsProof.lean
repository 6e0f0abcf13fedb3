/-
  For every byte and bool the law BuildTurns returns true: two triangles of a strip, or of a fan, that are next to one another go along their common side in opposite directions. No condition.
-/
import Derived.Test.YtadpejblhkcjgaaRow
import Derived.Test.YtadpejblhkcjgaaF
import Derived.Deep.DeepCutAuto
namespace Go.Proofs.Ytadpejblhkcjgaa.buildTurns
open Go.ChangeShapes Go.WideShapes Go.ChangeAt Go.RowKit
set_option linter.unusedVariables false
set_option linter.unusedSimpArgs false

theorem own : ownKnob Try.prog.godebug = none := by kernel_rfl
theorem three_of {V : List Nat} (h : V.length = 3) : ∃ a b c, V = [a, b, c] := by
  match V, h with
  | [a, b, c], _ => exact ⟨a, b, c, rfl⟩
theorem getD_of {V : List Nat} {k x : Nat} (h : V[k]? = some x) : V.getD k 0 = x := by rw [List.getD_eq_getElem?_getD, h]; rfl
theorem cum_step (V1 V0 : List Nat) {q : Nat} (hq : q < 3) (k : Nat) : cumT V1 V0 (3 * k + q + 1) = cumT V1 V0 (3 * k + q) + (if V1.getD k 0 = V0.getD ((q + 1) % 3) 0 ∧ V1.getD ((k + 1) % 3) 0 = V0.getD q 0 then 1 else 0) := by
  have h1 : (3 * k + q) / 3 = k := by omega
  have h2 : (3 * k + q) % 3 = q := by omega
  show cumT V1 V0 (3 * k + q) + (if gT V1 V0 (3 * k + q) = true then 1 else 0) = _
  unfold gT
  rw [h1, h2]
  congr 1
  simp only [Bool.and_eq_true, beq_iff_eq]

set_option maxRecDepth 100000 in
set_option maxHeartbeats 16000000 in
theorem walk (w : World) (n : Nat) (fan : Bool) (hu : n ≤ 255) :
    Calls Try.prog 6 #[.int .u8 n, .bool fan] w fun e w' => e = .returned (.bool true) ∧ Below w.heap.size w w' := by
  have O := Held.start w [] (by simp)
  have e1 : IntKind.i64.wrap ((n : Nat) : Int) = ((n : Nat) : Int) := IntWalk.i64_in _ (by omega)
  cases fan
  · have HP : Hid (P.prims 5 (List.replicate n false) false = (P.list (P.shp 5) (List.replicate n false) false, 0)) := Lib.hid (P.prims_in (m := 5) (by decide) (by rw [List.length_replicate]; omega) false)
    go_enter Try.func6, Try.ntmps6
    go_wp2_with (first | ((with_reducible refine at_make_ 17 ?_); refine wpList_make_h rfl O (.bool false) 1 info4b rfl Try.underlying22 (n) rfl rfl (by omega) (by decide) ?_; clear O; intro A0 w2 O; rw [bE_rep] at O) | (go_at_call 9; have hpr := prims_any 5 (List.replicate n false) false _ (O.arg List.mem_cons_self); rw [HP.out, List.length_replicate] at hpr; refine hpr.mono ?_; clear hpr; rintro e w3 hr; obtain ⟨A, c, l, hl, rfl, O2⟩ := O.gainP hr; clear O hr; have O := O2; clear O2; dsimp only at hl; have HL := Lib.hid hl; clear hl))
    obtain ⟨es, O2, MA, hME, -⟩ := O.hide
    have ME := Lib.hid hME
    clear hME O
    have O := O2
    clear O2
    have hll : l.length ≤ 256 := by
      have := few_of HL.out (Nat.le_refl _)
      have h2 := P.prims_few 5 (List.replicate n false) false
      rw [HP.out] at h2
      exact Nat.le_trans this h2
    clear e1
    go_loopw [8] (fun t wr => ∃ i : Nat, 1 ≤ i ∧ i ≤ l.length + 1 ∧ t = .int .i64 i ∧ Held w wr [] nilRow es) (fun t _ => l.length - (intOf t).toNat)
    case atStart => exact ⟨1, Nat.le_refl _, by omega, rfl, O⟩
    case round =>
      clear O
      obtain ⟨i, hi1, hi, rfl, O⟩ := hrel
      have q0 : (0 : Int) ≤ i := by omega
      by_cases hlt : i < l.length
      · have q2 : (i : Int) < l.length := by omega
        obtain ⟨j, hj⟩ : ∃ j, i = j + 1 := ⟨i - 1, by omega⟩
        have hltj : j < l.length := by omega
        have e1 : IntKind.i64.wrap ((i : Int) - 1) = (j : Int) := by rw [show (i : Int) - 1 = (j : Int) by omega]; exact IntWalk.i64_in _ (by omega)
        obtain ⟨⟨⟨V1, E1, p1⟩, ax⟩, hx⟩ : ∃ x, l[i]? = some x := ⟨_, List.getElem?_eq_getElem hlt⟩
        obtain ⟨⟨⟨V0, E0, p0⟩, ay⟩, hy⟩ : ∃ x, l[j]? = some x := ⟨_, List.getElem?_eq_getElem hltj⟩
        obtain ⟨hic, hqx⟩ := P.list_at (at_of HL.out hx)
        obtain ⟨hjc, hqy⟩ := P.list_at (at_of HL.out hy)
        have hV1 : V1 = P.dV 5 i := by have := congrArg Pm.V hqx; rw [P.V_of (by decide) hic] at this; exact this
        have hV0 : V0 = P.dV 5 j := by have := congrArg Pm.V hqy; rw [P.V_of (by decide) hjc] at this; exact this
        have h31 : V1.length = 3 := by rw [hV1]; exact P.dV_three (by decide) i
        have h30 : V0.length = 3 := by rw [hV0]; exact P.dV_three (by decide) j
        have h9 : cumT V1 V0 9 = 1 := by rw [hV1, hV0, hj]; exact P.turn (by decide) j
        clear hqx hqy hV1 hV0 hic hjc
        obtain ⟨a0, a1, a2, rfl⟩ : ∃ a0 a1 a2, V1 = [a0, a1, a2] := three_of h31
        obtain ⟨b0, b1, b2, rfl⟩ : ∃ b0 b1 b2, V0 = [b0, b1, b2] := three_of h30
        have MV1 := ME.out _ (ents_v hx)
        have MV0 := ME.out _ (ents_v hy)
        have HX := Lib.hid hx
        have HY := Lib.hid hy
        have H9 := Lib.hid h9
        have HJ := Lib.hid hj
        clear hx hy h9 h31 h30 hj
        go_wp2_with (first | ((with_reducible refine at_index_ 31 ?_); refine wpList_at_h rfl Try.underlying24 sizeOf35 (pE w.heap.size A c l) (O.mem MA) rfl (i) rfl rfl hlt rfl ?_) | ((with_reducible refine at_fld 32 ?_); refine wpList_fld_h rfl (f35_0 _) rfl ?_; rw [add_add']) | ((with_reducible refine at_load 33 ?_); refine wpList_ecell_h rfl (pE w.heap.size A c l) (O.mem MA) ((i) * 3 + 0) (pmcs_at HX.out 0 _ rfl) rfl agg33 rfl ?_) | ((with_reducible refine at_index_ 40 ?_); refine wpList_at_h rfl Try.underlying24 sizeOf35 (pE w.heap.size A c l) (O.mem MA) rfl (j) rfl rfl hltj rfl ?_) | ((with_reducible refine at_fld 41 ?_); refine wpList_fld_h rfl (f35_0 _) rfl ?_; rw [add_add']) | ((with_reducible refine at_load 42 ?_); refine wpList_ecell_h rfl (pE w.heap.size A c l) (O.mem MA) ((j) * 3 + 0) (pmcs_at HY.out 0 _ rfl) rfl agg33 rfl ?_))
        go_loopw [9, 10] (fun cv t wr => ∃ k : Nat, k ≤ 3 ∧ t = .int .i64 k ∧ cv = .int .i64 (cumT [a0, a1, a2] [b0, b1, b2] (3 * k) : Nat) ∧ Held w wr [] nilRow es) (fun _ t _ => 3 - (intOf t).toNat)
        case atStart => exact ⟨0, Nat.zero_le _, rfl, rfl, O⟩
        case round =>
          clear O
          obtain ⟨k, hk, rfl, rfl, O⟩ := hrel
          have q3 : (0 : Int) ≤ k := by omega
          by_cases hk3 : k < 3
          · have q4 : (k : Int) < 3 := by omega
            go_wp2_with fail
            go_loopw [9, 11] (fun cv t wr => ∃ q : Nat, q ≤ 3 ∧ t = .int .i64 q ∧ cv = .int .i64 (cumT [a0, a1, a2] [b0, b1, b2] (3 * k + q) : Nat) ∧ Held w wr [] nilRow es) (fun _ t _ => 3 - (intOf t).toNat)
            case atStart => exact ⟨0, Nat.zero_le _, rfl, rfl, O⟩
            case round =>
              clear O
              obtain ⟨q, hq, rfl, rfl, O⟩ := hrel
              have q5 : (0 : Int) ≤ q := by omega
              by_cases hq3 : q < 3
              · have q6 : (q : Int) < 3 := by omega
                have HCU := Lib.hid (cum_step [a0, a1, a2] [b0, b1, b2] hq3 k)
                obtain ⟨C, hC⟩ : ∃ C, cumT [a0, a1, a2] [b0, b1, b2] (3 * k + q) = C := ⟨_, rfl⟩
                have hC9 : C ≤ 9 := by have := cumT_le [a0, a1, a2] [b0, b1, b2] (3 * k + q); omega
                rw [hC] at HCU
                rw [hC]
                obtain ⟨r1, hr⟩ : ∃ r1, (q + 1) % 3 = r1 := ⟨_, rfl⟩
                have hr1 : r1 < 3 := by omega
                obtain ⟨s1, hs⟩ : ∃ s1, (k + 1) % 3 = s1 := ⟨_, rfl⟩
                have hs1 : s1 < 3 := by omega
                rw [hr, hs] at HCU
                obtain ⟨q1, hq1⟩ : ∃ q1, q + 1 = q1 := ⟨_, rfl⟩
                obtain ⟨k1, hk1⟩ : ∃ k1, k + 1 = k1 := ⟨_, rfl⟩
                have eq1 : IntKind.i64.wrap ((q : Int) + 1) = (q1 : Int) := by rw [show (q : Int) + 1 = (q1 : Int) by omega]; exact IntWalk.i64_in _ (by omega)
                have ek1 : IntKind.i64.wrap ((k : Int) + 1) = (k1 : Int) := by rw [show (k : Int) + 1 = (k1 : Int) by omega]; exact IntWalk.i64_in _ (by omega)
                have er1 : Int.tmod (q1 : Int) 3 = (r1 : Int) := by rw [← hr, hq1]; rfl
                have es1 : Int.tmod (k1 : Int) 3 = (s1 : Int) := by rw [← hs, hk1]; rfl
                clear hC hr hs
                obtain ⟨x, hx⟩ : ∃ x, [a0, a1, a2][k]? = some x := ⟨_, List.getElem?_eq_getElem hk3⟩
                obtain ⟨y, hy⟩ : ∃ y, [b0, b1, b2][r1]? = some y := ⟨_, List.getElem?_eq_getElem hr1⟩
                obtain ⟨z, hz⟩ : ∃ z, [a0, a1, a2][s1]? = some z := ⟨_, List.getElem?_eq_getElem hs1⟩
                obtain ⟨u, hu⟩ : ∃ u, [b0, b1, b2][q]? = some u := ⟨_, List.getElem?_eq_getElem hq3⟩
                rw [getD_of hx, getD_of hy, getD_of hz, getD_of hu] at HCU
                have HXK := Lib.hid hx
                have HYK := Lib.hid hy
                have HZK := Lib.hid hz
                have HUK := Lib.hid hu
                clear hx hy hz hu
                by_cases hxy : x = y
                · subst hxy
                  by_cases hzu : z = u
                  · subst hzu
                    have HG : Hid (cumT [a0, a1, a2] [b0, b1, b2] (3 * k + q + 1) = C + 1) := by show _ = _; rw [HCU.out, if_pos ⟨rfl, rfl⟩]
                    go_wp2_with fail
                    refine region_T (fun w2 => Held w w2 [] nilRow es) [0, 1, 2, 3, 4, 5, 6, 7, 8, 9, 10, 11, 12, 13, 14, 15, 16, 17, 18, 19, 20, 21, 22, 23, 24, 25, 26, 27, 28, 29, 30, 31, 32, 33, 34, 35, 36, 37, 38, 39, 40, 41] 12 [some 54, some 55, some 56, some 57, some 58, some 59, some 60, some 61, some 62, some 63, some 64, some 65, some 66, some 67, some 68, some 69, some 70, some 71, some 72, some 73, some 74, some 75, some 76, some 77, some 78, some 79, some 80, some 81, some 82, some 83, some 84, some 85, some 86, some 87, some 88, some 89, some 90, some 91, some 92, some 93, some 94, some 95] [.slice A l.length c, .int .i64 i, .pointer (some ((adr A).add ((i) * 3))), .pointer (some ((adr A).add ((i) * 3))), .slice ax.VA 3 ax.Vc, .int .i64 k, .pointer (some ((adr ax.VA).add (k))), .int .i64 x, .slice A l.length c, .int .i64 i, .int .i64 j, .pointer (some ((adr A).add ((j) * 3))), .pointer (some ((adr A).add ((j) * 3))), .slice ay.VA 3 ay.Vc, .int .i64 q, .int .i64 q1, .int .i64 r1, .pointer (some ((adr ay.VA).add (r1))), .int .i64 x, .bool true, .bool true, .slice A l.length c, .int .i64 i, .pointer (some ((adr A).add ((i) * 3))), .pointer (some ((adr A).add ((i) * 3))), .slice ax.VA 3 ax.Vc, .int .i64 k, .int .i64 k1, .int .i64 s1, .pointer (some ((adr ax.VA).add (s1))), .int .i64 z, .slice A l.length c, .int .i64 i, .int .i64 j, .pointer (some ((adr A).add ((j) * 3))), .pointer (some ((adr A).add ((j) * 3))), .slice ay.VA 3 ay.Vc, .int .i64 q, .pointer (some ((adr ay.VA).add (q))), .int .i64 z, .bool true, .bool true] 0 (by kernel_rfl) (by rfl) (by kernel_rfl) (by rfl) (by rfl) (O.drew) (fun F hF => ?_)
                    simp only [fillD, Act.put, List.setIfInBounds_toArray, List.set_cons_zero, List.set_cons_succ] at hF
                    subst hF
                    refine ⟨⟨does_want rfl (by rfl) (fun w' O K hK => ?_), does_want rfl (by rfl) (fun w' O K hK => ?_), does_want rfl (by rfl) (fun w' O K hK => ?_), does_want rfl (by rfl) (fun w' O K hK => ?_), does_want rfl (by rfl) (fun w' O K hK => ?_), does_want rfl (by rfl) (fun w' O K hK => ?_), does_want rfl (by rfl) (fun w' O K hK => ?_), does_want rfl (by rfl) (fun w' O K hK => ?_), does_want rfl (by rfl) (fun w' O K hK => ?_), does_want rfl (by rfl) (fun w' O K hK => ?_), does_want rfl (by rfl) (fun w' O K hK => ?_), does_want rfl (by rfl) (fun w' O K hK => ?_), does_want rfl (by rfl) (fun w' O K hK => ?_), does_want rfl (by rfl) (fun w' O K hK => ?_), does_want rfl (by rfl) (fun w' O K hK => ?_), does_want rfl (by rfl) (fun w' O K hK => ?_), does_want rfl (by rfl) (fun w' O K hK => ?_), does_want rfl (by rfl) (fun w' O K hK => ?_), does_want rfl (by rfl) (fun w' O K hK => ?_), does_want rfl (by rfl) (fun w' O K hK => ?_), does_want rfl (by rfl) (fun w' O K hK => ?_), does_want rfl (by rfl) (fun w' O K hK => ?_), does_want rfl (by rfl) (fun w' O K hK => ?_), does_want rfl (by rfl) (fun w' O K hK => ?_), does_want rfl (by rfl) (fun w' O K hK => ?_), does_want rfl (by rfl) (fun w' O K hK => ?_), does_want rfl (by rfl) (fun w' O K hK => ?_), does_want rfl (by rfl) (fun w' O K hK => ?_), does_want rfl (by rfl) (fun w' O K hK => ?_), does_want rfl (by rfl) (fun w' O K hK => ?_), does_want rfl (by rfl) (fun w' O K hK => ?_), does_want rfl (by rfl) (fun w' O K hK => ?_), does_want rfl (by rfl) (fun w' O K hK => ?_), does_want rfl (by rfl) (fun w' O K hK => ?_), does_want rfl (by rfl) (fun w' O K hK => ?_), does_want rfl (by rfl) (fun w' O K hK => ?_), does_want rfl (by rfl) (fun w' O K hK => ?_), does_want rfl (by rfl) (fun w' O K hK => ?_), does_want rfl (by rfl) (fun w' O K hK => ?_), does_want rfl (by rfl) (fun w' O K hK => ?_), does_want rfl (by rfl) (fun w' O K hK => ?_), does_want rfl (by rfl) (fun w' O K hK => ?_), trivial⟩, fun w' O => ?_⟩
                    · go_simp
                      exact hK _ O
                    · go_simp
                      exact hK _ O
                    · exact wp_at_h Try.underlying24 sizeOf35 (pE w.heap.size A c l) (O.mem MA) rfl (i) rfl rfl hlt rfl (hK _ O)
                    · refine wp_fld_h (f35_0 _) rfl ?_
                      rw [add_add']
                      exact hK _ O
                    · exact wp_ecell_h (pE w.heap.size A c l) (O.mem MA) ((i) * 3 + 0) (pmcs_at HX.out 0 _ rfl) rfl agg33 rfl (hK _ O)
                    · go_simp
                      exact hK _ O
                    · refine wp_at_h Try.underlying33 sizeOf3 (vOf w.heap.size ((⟨[a0, a1, a2], E1, p1⟩, ax) : PA)) (O.mem MV1) rfl (k) rfl rfl hk3 rfl ?_
                      rw [Nat.mul_one]
                      exact hK _ O
                    · exact wp_ecell_h (vOf w.heap.size ((⟨[a0, a1, a2], E1, p1⟩, ax) : PA)) (O.mem MV1) (k) (ints_at HXK.out) rfl agg3 rfl (hK _ O)
                    · go_simp
                      exact hK _ O
                    · go_simp
                      exact hK _ O
                    · go_simp
                      exact hK _ O
                    · exact wp_at_h Try.underlying24 sizeOf35 (pE w.heap.size A c l) (O.mem MA) rfl (j) rfl rfl hltj rfl (hK _ O)
                    · refine wp_fld_h (f35_0 _) rfl ?_
                      rw [add_add']
                      exact hK _ O
                    · exact wp_ecell_h (pE w.heap.size A c l) (O.mem MA) ((j) * 3 + 0) (pmcs_at HY.out 0 _ rfl) rfl agg33 rfl (hK _ O)
                    · go_simp
                      exact hK _ O
                    · go_simp
                      exact hK _ O
                    · go_simp
                      exact hK _ O
                    · refine wp_at_h Try.underlying33 sizeOf3 (vOf w.heap.size ((⟨[b0, b1, b2], E0, p0⟩, ay) : PA)) (O.mem MV0) rfl (r1) rfl rfl hr1 rfl ?_
                      rw [Nat.mul_one]
                      exact hK _ O
                    · exact wp_ecell_h (vOf w.heap.size ((⟨[b0, b1, b2], E0, p0⟩, ay) : PA)) (O.mem MV0) (r1) (ints_at HYK.out) rfl agg3 rfl (hK _ O)
                    · go_simp
                      exact hK _ O
                    · go_simp
                      exact hK _ O
                    · go_simp
                      exact hK _ O
                    · go_simp
                      exact hK _ O
                    · exact wp_at_h Try.underlying24 sizeOf35 (pE w.heap.size A c l) (O.mem MA) rfl (i) rfl rfl hlt rfl (hK _ O)
                    · refine wp_fld_h (f35_0 _) rfl ?_
                      rw [add_add']
                      exact hK _ O
                    · exact wp_ecell_h (pE w.heap.size A c l) (O.mem MA) ((i) * 3 + 0) (pmcs_at HX.out 0 _ rfl) rfl agg33 rfl (hK _ O)
                    · go_simp
                      exact hK _ O
                    · go_simp
                      exact hK _ O
                    · go_simp
                      exact hK _ O
                    · refine wp_at_h Try.underlying33 sizeOf3 (vOf w.heap.size ((⟨[a0, a1, a2], E1, p1⟩, ax) : PA)) (O.mem MV1) rfl (s1) rfl rfl hs1 rfl ?_
                      rw [Nat.mul_one]
                      exact hK _ O
                    · exact wp_ecell_h (vOf w.heap.size ((⟨[a0, a1, a2], E1, p1⟩, ax) : PA)) (O.mem MV1) (s1) (ints_at HZK.out) rfl agg3 rfl (hK _ O)
                    · go_simp
                      exact hK _ O
                    · go_simp
                      exact hK _ O
                    · go_simp
                      exact hK _ O
                    · exact wp_at_h Try.underlying24 sizeOf35 (pE w.heap.size A c l) (O.mem MA) rfl (j) rfl rfl hltj rfl (hK _ O)
                    · refine wp_fld_h (f35_0 _) rfl ?_
                      rw [add_add']
                      exact hK _ O
                    · exact wp_ecell_h (pE w.heap.size A c l) (O.mem MA) ((j) * 3 + 0) (pmcs_at HY.out 0 _ rfl) rfl agg33 rfl (hK _ O)
                    · go_simp
                      exact hK _ O
                    · refine wp_at_h Try.underlying33 sizeOf3 (vOf w.heap.size ((⟨[b0, b1, b2], E0, p0⟩, ay) : PA)) (O.mem MV0) rfl (q) rfl rfl hq3 rfl ?_
                      rw [Nat.mul_one]
                      exact hK _ O
                    · exact wp_ecell_h (vOf w.heap.size ((⟨[b0, b1, b2], E0, p0⟩, ay) : PA)) (O.mem MV0) (q) (ints_at HUK.out) rfl agg3 rfl (hK _ O)
                    · go_simp
                      exact hK _ O
                    · go_simp
                      exact hK _ O
                    refine wpAny_done (by kernel_rfl) ?_ _
                    go_wp2_with fail
                    go_roundw
                    case rel => first | exact ⟨q + 1, by omega, by go_num, by rw [show 3 * k + (q + 1) = 3 * k + q + 1 by omega, HG.out]; go_num, O⟩ | ((repeat apply Exists.intro); exact ⟨⟨q + 1, by omega, by go_num, by rw [show 3 * k + (q + 1) = 3 * k + q + 1 by omega, HG.out]; go_num, O⟩, rfl⟩)
                    case measure => simp [intOf]; omega
                  · have g1 : ((z : Int) == (u : Int)) = false := by simp; omega
                    have HG : Hid (cumT [a0, a1, a2] [b0, b1, b2] (3 * k + q + 1) = C) := by show _ = _; rw [HCU.out, if_neg (by intro h; exact hzu h.2)]; rfl
                    clear hzu
                    go_wp2_with fail
                    refine region_T (fun w2 => Held w w2 [] nilRow es) [0, 1, 2, 3, 4, 5, 6, 7, 8, 9, 10, 11, 12, 13, 14, 15, 16, 17, 18, 19, 20, 21, 22, 23, 24, 25, 26, 27, 28, 29, 30, 31, 32, 33, 34, 35, 36, 37, 38, 39, 40, 41] 12 [some 54, some 55, some 56, some 57, some 58, some 59, some 60, some 61, some 62, some 63, some 64, some 65, some 66, some 67, some 68, some 69, some 70, some 71, some 72, some 73, some 74, some 75, some 76, some 77, some 78, some 79, some 80, some 81, some 82, some 83, some 84, some 85, some 86, some 87, some 88, some 89, some 90, some 91, some 92, some 93, some 94, some 95] [.slice A l.length c, .int .i64 i, .pointer (some ((adr A).add ((i) * 3))), .pointer (some ((adr A).add ((i) * 3))), .slice ax.VA 3 ax.Vc, .int .i64 k, .pointer (some ((adr ax.VA).add (k))), .int .i64 x, .slice A l.length c, .int .i64 i, .int .i64 j, .pointer (some ((adr A).add ((j) * 3))), .pointer (some ((adr A).add ((j) * 3))), .slice ay.VA 3 ay.Vc, .int .i64 q, .int .i64 q1, .int .i64 r1, .pointer (some ((adr ay.VA).add (r1))), .int .i64 x, .bool true, .bool true, .slice A l.length c, .int .i64 i, .pointer (some ((adr A).add ((i) * 3))), .pointer (some ((adr A).add ((i) * 3))), .slice ax.VA 3 ax.Vc, .int .i64 k, .int .i64 k1, .int .i64 s1, .pointer (some ((adr ax.VA).add (s1))), .int .i64 z, .slice A l.length c, .int .i64 i, .int .i64 j, .pointer (some ((adr A).add ((j) * 3))), .pointer (some ((adr A).add ((j) * 3))), .slice ay.VA 3 ay.Vc, .int .i64 q, .pointer (some ((adr ay.VA).add (q))), .int .i64 u, .bool false, .bool false] 0 (by kernel_rfl) (by rfl) (by kernel_rfl) (by rfl) (by rfl) (O.drew) (fun F hF => ?_)
                    simp only [fillD, Act.put, List.setIfInBounds_toArray, List.set_cons_zero, List.set_cons_succ] at hF
                    subst hF
                    refine ⟨⟨does_want rfl (by rfl) (fun w' O K hK => ?_), does_want rfl (by rfl) (fun w' O K hK => ?_), does_want rfl (by rfl) (fun w' O K hK => ?_), does_want rfl (by rfl) (fun w' O K hK => ?_), does_want rfl (by rfl) (fun w' O K hK => ?_), does_want rfl (by rfl) (fun w' O K hK => ?_), does_want rfl (by rfl) (fun w' O K hK => ?_), does_want rfl (by rfl) (fun w' O K hK => ?_), does_want rfl (by rfl) (fun w' O K hK => ?_), does_want rfl (by rfl) (fun w' O K hK => ?_), does_want rfl (by rfl) (fun w' O K hK => ?_), does_want rfl (by rfl) (fun w' O K hK => ?_), does_want rfl (by rfl) (fun w' O K hK => ?_), does_want rfl (by rfl) (fun w' O K hK => ?_), does_want rfl (by rfl) (fun w' O K hK => ?_), does_want rfl (by rfl) (fun w' O K hK => ?_), does_want rfl (by rfl) (fun w' O K hK => ?_), does_want rfl (by rfl) (fun w' O K hK => ?_), does_want rfl (by rfl) (fun w' O K hK => ?_), does_want rfl (by rfl) (fun w' O K hK => ?_), does_want rfl (by rfl) (fun w' O K hK => ?_), does_want rfl (by rfl) (fun w' O K hK => ?_), does_want rfl (by rfl) (fun w' O K hK => ?_), does_want rfl (by rfl) (fun w' O K hK => ?_), does_want rfl (by rfl) (fun w' O K hK => ?_), does_want rfl (by rfl) (fun w' O K hK => ?_), does_want rfl (by rfl) (fun w' O K hK => ?_), does_want rfl (by rfl) (fun w' O K hK => ?_), does_want rfl (by rfl) (fun w' O K hK => ?_), does_want rfl (by rfl) (fun w' O K hK => ?_), does_want rfl (by rfl) (fun w' O K hK => ?_), does_want rfl (by rfl) (fun w' O K hK => ?_), does_want rfl (by rfl) (fun w' O K hK => ?_), does_want rfl (by rfl) (fun w' O K hK => ?_), does_want rfl (by rfl) (fun w' O K hK => ?_), does_want rfl (by rfl) (fun w' O K hK => ?_), does_want rfl (by rfl) (fun w' O K hK => ?_), does_want rfl (by rfl) (fun w' O K hK => ?_), does_want rfl (by rfl) (fun w' O K hK => ?_), does_want rfl (by rfl) (fun w' O K hK => ?_), does_want rfl (by rfl) (fun w' O K hK => ?_), does_want rfl (by rfl) (fun w' O K hK => ?_), trivial⟩, fun w' O => ?_⟩
                    · go_simp
                      exact hK _ O
                    · go_simp
                      exact hK _ O
                    · exact wp_at_h Try.underlying24 sizeOf35 (pE w.heap.size A c l) (O.mem MA) rfl (i) rfl rfl hlt rfl (hK _ O)
                    · refine wp_fld_h (f35_0 _) rfl ?_
                      rw [add_add']
                      exact hK _ O
                    · exact wp_ecell_h (pE w.heap.size A c l) (O.mem MA) ((i) * 3 + 0) (pmcs_at HX.out 0 _ rfl) rfl agg33 rfl (hK _ O)
                    · go_simp
                      exact hK _ O
                    · refine wp_at_h Try.underlying33 sizeOf3 (vOf w.heap.size ((⟨[a0, a1, a2], E1, p1⟩, ax) : PA)) (O.mem MV1) rfl (k) rfl rfl hk3 rfl ?_
                      rw [Nat.mul_one]
                      exact hK _ O
                    · exact wp_ecell_h (vOf w.heap.size ((⟨[a0, a1, a2], E1, p1⟩, ax) : PA)) (O.mem MV1) (k) (ints_at HXK.out) rfl agg3 rfl (hK _ O)
                    · go_simp
                      exact hK _ O
                    · go_simp
                      exact hK _ O
                    · go_simp
                      exact hK _ O
                    · exact wp_at_h Try.underlying24 sizeOf35 (pE w.heap.size A c l) (O.mem MA) rfl (j) rfl rfl hltj rfl (hK _ O)
                    · refine wp_fld_h (f35_0 _) rfl ?_
                      rw [add_add']
                      exact hK _ O
                    · exact wp_ecell_h (pE w.heap.size A c l) (O.mem MA) ((j) * 3 + 0) (pmcs_at HY.out 0 _ rfl) rfl agg33 rfl (hK _ O)
                    · go_simp
                      exact hK _ O
                    · go_simp
                      exact hK _ O
                    · go_simp
                      exact hK _ O
                    · refine wp_at_h Try.underlying33 sizeOf3 (vOf w.heap.size ((⟨[b0, b1, b2], E0, p0⟩, ay) : PA)) (O.mem MV0) rfl (r1) rfl rfl hr1 rfl ?_
                      rw [Nat.mul_one]
                      exact hK _ O
                    · exact wp_ecell_h (vOf w.heap.size ((⟨[b0, b1, b2], E0, p0⟩, ay) : PA)) (O.mem MV0) (r1) (ints_at HYK.out) rfl agg3 rfl (hK _ O)
                    · go_simp
                      exact hK _ O
                    · go_simp
                      exact hK _ O
                    · go_simp
                      exact hK _ O
                    · go_simp
                      exact hK _ O
                    · exact wp_at_h Try.underlying24 sizeOf35 (pE w.heap.size A c l) (O.mem MA) rfl (i) rfl rfl hlt rfl (hK _ O)
                    · refine wp_fld_h (f35_0 _) rfl ?_
                      rw [add_add']
                      exact hK _ O
                    · exact wp_ecell_h (pE w.heap.size A c l) (O.mem MA) ((i) * 3 + 0) (pmcs_at HX.out 0 _ rfl) rfl agg33 rfl (hK _ O)
                    · go_simp
                      exact hK _ O
                    · go_simp
                      exact hK _ O
                    · go_simp
                      exact hK _ O
                    · refine wp_at_h Try.underlying33 sizeOf3 (vOf w.heap.size ((⟨[a0, a1, a2], E1, p1⟩, ax) : PA)) (O.mem MV1) rfl (s1) rfl rfl hs1 rfl ?_
                      rw [Nat.mul_one]
                      exact hK _ O
                    · exact wp_ecell_h (vOf w.heap.size ((⟨[a0, a1, a2], E1, p1⟩, ax) : PA)) (O.mem MV1) (s1) (ints_at HZK.out) rfl agg3 rfl (hK _ O)
                    · go_simp
                      exact hK _ O
                    · go_simp
                      exact hK _ O
                    · go_simp
                      exact hK _ O
                    · exact wp_at_h Try.underlying24 sizeOf35 (pE w.heap.size A c l) (O.mem MA) rfl (j) rfl rfl hltj rfl (hK _ O)
                    · refine wp_fld_h (f35_0 _) rfl ?_
                      rw [add_add']
                      exact hK _ O
                    · exact wp_ecell_h (pE w.heap.size A c l) (O.mem MA) ((j) * 3 + 0) (pmcs_at HY.out 0 _ rfl) rfl agg33 rfl (hK _ O)
                    · go_simp
                      exact hK _ O
                    · refine wp_at_h Try.underlying33 sizeOf3 (vOf w.heap.size ((⟨[b0, b1, b2], E0, p0⟩, ay) : PA)) (O.mem MV0) rfl (q) rfl rfl hq3 rfl ?_
                      rw [Nat.mul_one]
                      exact hK _ O
                    · exact wp_ecell_h (vOf w.heap.size ((⟨[b0, b1, b2], E0, p0⟩, ay) : PA)) (O.mem MV0) (q) (ints_at HUK.out) rfl agg3 rfl (hK _ O)
                    · go_simp
                      exact hK _ O
                    · go_simp
                      exact hK _ O
                    refine wpAny_done (by kernel_rfl) ?_ _
                    go_wp2_with fail
                    go_roundw
                    case rel => first | exact ⟨q + 1, by omega, by go_num, by rw [show 3 * k + (q + 1) = 3 * k + q + 1 by omega, HG.out], O⟩ | ((repeat apply Exists.intro); exact ⟨⟨q + 1, by omega, by go_num, by rw [show 3 * k + (q + 1) = 3 * k + q + 1 by omega, HG.out], O⟩, rfl⟩)
                    case measure => simp [intOf]; omega
                · have g1 : ((x : Int) == (y : Int)) = false := by simp; omega
                  have HG : Hid (cumT [a0, a1, a2] [b0, b1, b2] (3 * k + q + 1) = C) := by show _ = _; rw [HCU.out, if_neg (by intro h; exact hxy h.1)]; rfl
                  clear hxy
                  go_wp2_with fail
                  refine region_T (fun w2 => Held w w2 [] nilRow es) [0, 1, 2, 3, 4, 5, 6, 7, 8, 9, 10, 11, 12, 13, 14, 15, 16, 17, 18, 19, 20, 21, 22, 23, 24, 25, 26, 27, 28, 29, 30, 31, 32, 33, 34, 35, 36, 37, 38, 39, 40, 41] 12 [some 54, some 55, some 56, some 57, some 58, some 59, some 60, some 61, some 62, some 63, some 64, some 65, some 66, some 67, some 68, some 69, some 70, some 71, some 72, some 73, some 74, some 75, some 76, some 77, some 78, some 79, some 80, some 81, some 82, some 83, some 84, some 85, some 86, some 87, some 88, some 89, some 90, some 91, some 92, some 93, some 94, some 95] [.slice A l.length c, .int .i64 i, .pointer (some ((adr A).add ((i) * 3))), .pointer (some ((adr A).add ((i) * 3))), .slice ax.VA 3 ax.Vc, .int .i64 k, .pointer (some ((adr ax.VA).add (k))), .int .i64 x, .slice A l.length c, .int .i64 i, .int .i64 j, .pointer (some ((adr A).add ((j) * 3))), .pointer (some ((adr A).add ((j) * 3))), .slice ay.VA 3 ay.Vc, .int .i64 q, .int .i64 q1, .int .i64 r1, .pointer (some ((adr ay.VA).add (r1))), .int .i64 y, .bool false, .bool false, undef, undef, undef, undef, undef, undef, undef, undef, undef, undef, undef, undef, undef, undef, undef, undef, undef, undef, undef, undef, .bool false] 0 (by kernel_rfl) (by rfl) (by kernel_rfl) (by rfl) (by rfl) (O.drew) (fun F hF => ?_)
                  simp only [fillD, Act.put, List.setIfInBounds_toArray, List.set_cons_zero, List.set_cons_succ] at hF
                  subst hF
                  refine ⟨⟨does_want rfl (by rfl) (fun w' O K hK => ?_), does_want rfl (by rfl) (fun w' O K hK => ?_), does_want rfl (by rfl) (fun w' O K hK => ?_), does_want rfl (by rfl) (fun w' O K hK => ?_), does_want rfl (by rfl) (fun w' O K hK => ?_), does_want rfl (by rfl) (fun w' O K hK => ?_), does_want rfl (by rfl) (fun w' O K hK => ?_), does_want rfl (by rfl) (fun w' O K hK => ?_), does_want rfl (by rfl) (fun w' O K hK => ?_), does_want rfl (by rfl) (fun w' O K hK => ?_), does_want rfl (by rfl) (fun w' O K hK => ?_), does_want rfl (by rfl) (fun w' O K hK => ?_), does_want rfl (by rfl) (fun w' O K hK => ?_), does_want rfl (by rfl) (fun w' O K hK => ?_), does_want rfl (by rfl) (fun w' O K hK => ?_), does_want rfl (by rfl) (fun w' O K hK => ?_), does_want rfl (by rfl) (fun w' O K hK => ?_), does_want rfl (by rfl) (fun w' O K hK => ?_), does_want rfl (by rfl) (fun w' O K hK => ?_), does_want rfl (by rfl) (fun w' O K hK => ?_), does_want rfl (by rfl) (fun w' O K hK => ?_), does_skip rfl (by rfl), does_skip rfl (by rfl), does_skip rfl (by rfl), does_skip rfl (by rfl), does_skip rfl (by rfl), does_skip rfl (by rfl), does_skip rfl (by rfl), does_skip rfl (by rfl), does_skip rfl (by rfl), does_skip rfl (by rfl), does_skip rfl (by rfl), does_skip rfl (by rfl), does_skip rfl (by rfl), does_skip rfl (by rfl), does_skip rfl (by rfl), does_skip rfl (by rfl), does_skip rfl (by rfl), does_skip rfl (by rfl), does_skip rfl (by rfl), does_skip rfl (by rfl), does_want rfl (by rfl) (fun w' O K hK => ?_), trivial⟩, fun w' O => ?_⟩
                  · go_simp
                    exact hK _ O
                  · go_simp
                    exact hK _ O
                  · exact wp_at_h Try.underlying24 sizeOf35 (pE w.heap.size A c l) (O.mem MA) rfl (i) rfl rfl hlt rfl (hK _ O)
                  · refine wp_fld_h (f35_0 _) rfl ?_
                    rw [add_add']
                    exact hK _ O
                  · exact wp_ecell_h (pE w.heap.size A c l) (O.mem MA) ((i) * 3 + 0) (pmcs_at HX.out 0 _ rfl) rfl agg33 rfl (hK _ O)
                  · go_simp
                    exact hK _ O
                  · refine wp_at_h Try.underlying33 sizeOf3 (vOf w.heap.size ((⟨[a0, a1, a2], E1, p1⟩, ax) : PA)) (O.mem MV1) rfl (k) rfl rfl hk3 rfl ?_
                    rw [Nat.mul_one]
                    exact hK _ O
                  · exact wp_ecell_h (vOf w.heap.size ((⟨[a0, a1, a2], E1, p1⟩, ax) : PA)) (O.mem MV1) (k) (ints_at HXK.out) rfl agg3 rfl (hK _ O)
                  · go_simp
                    exact hK _ O
                  · go_simp
                    exact hK _ O
                  · go_simp
                    exact hK _ O
                  · exact wp_at_h Try.underlying24 sizeOf35 (pE w.heap.size A c l) (O.mem MA) rfl (j) rfl rfl hltj rfl (hK _ O)
                  · refine wp_fld_h (f35_0 _) rfl ?_
                    rw [add_add']
                    exact hK _ O
                  · exact wp_ecell_h (pE w.heap.size A c l) (O.mem MA) ((j) * 3 + 0) (pmcs_at HY.out 0 _ rfl) rfl agg33 rfl (hK _ O)
                  · go_simp
                    exact hK _ O
                  · go_simp
                    exact hK _ O
                  · go_simp
                    exact hK _ O
                  · refine wp_at_h Try.underlying33 sizeOf3 (vOf w.heap.size ((⟨[b0, b1, b2], E0, p0⟩, ay) : PA)) (O.mem MV0) rfl (r1) rfl rfl hr1 rfl ?_
                    rw [Nat.mul_one]
                    exact hK _ O
                  · exact wp_ecell_h (vOf w.heap.size ((⟨[b0, b1, b2], E0, p0⟩, ay) : PA)) (O.mem MV0) (r1) (ints_at HYK.out) rfl agg3 rfl (hK _ O)
                  · go_simp
                    exact hK _ O
                  · go_simp
                    exact hK _ O
                  · go_simp
                    exact hK _ O
                  refine wpAny_done (by kernel_rfl) ?_ _
                  go_wp2_with fail
                  go_roundw
                  case rel => first | exact ⟨q + 1, by omega, by go_num, by rw [show 3 * k + (q + 1) = 3 * k + q + 1 by omega, HG.out], O⟩ | ((repeat apply Exists.intro); exact ⟨⟨q + 1, by omega, by go_num, by rw [show 3 * k + (q + 1) = 3 * k + q + 1 by omega, HG.out], O⟩, rfl⟩)
                  case measure => simp [intOf]; omega
              · have q6 : ¬ (q : Int) < 3 := by omega
                obtain rfl : q = 3 := by omega
                go_wp2_with fail
                go_roundw
                case rel => first | exact ⟨k + 1, by omega, by go_num, rfl, O⟩ | ((repeat apply Exists.intro); exact ⟨⟨k + 1, by omega, by go_num, rfl, O⟩, rfl⟩)
                case measure => simp [intOf]; omega
          · have q4 : ¬ (k : Int) < 3 := by omega
            obtain rfl : k = 3 := by omega
            rw [show cumT [a0, a1, a2] [b0, b1, b2] (3 * 3) = 1 from H9.out]
            go_wp2_with fail
            go_roundw
            case rel => first | exact ⟨i + 1, by omega, by omega, by go_num, O⟩ | ((repeat apply Exists.intro); exact ⟨⟨i + 1, by omega, by omega, by go_num, O⟩, rfl⟩)
            case measure => simp [intOf]; omega
      · have q2 : ¬ (i : Int) < l.length := by omega
        go_wp2_with (go_at_call 8; refine (awake_any _).mono ?_; rintro e w6 ⟨rfl, hb⟩; replace O := O.call hb; clear hb)
        go_ret
        exact ⟨rfl, O.below⟩
  · have HP : Hid (P.prims 6 (List.replicate n false) false = (P.list (P.shp 6) (List.replicate n false) false, 0)) := Lib.hid (P.prims_in (m := 6) (by decide) (by rw [List.length_replicate]; omega) false)
    go_enter Try.func6, Try.ntmps6
    go_wp2_with (first | ((with_reducible refine at_make_ 17 ?_); refine wpList_make_h rfl O (.bool false) 1 info4b rfl Try.underlying22 (n) rfl rfl (by omega) (by decide) ?_; clear O; intro A0 w2 O; rw [bE_rep] at O) | (go_at_call 9; have hpr := prims_any 6 (List.replicate n false) false _ (O.arg List.mem_cons_self); rw [HP.out, List.length_replicate] at hpr; refine hpr.mono ?_; clear hpr; rintro e w3 hr; obtain ⟨A, c, l, hl, rfl, O2⟩ := O.gainP hr; clear O hr; have O := O2; clear O2; dsimp only at hl; have HL := Lib.hid hl; clear hl))
    obtain ⟨es, O2, MA, hME, -⟩ := O.hide
    have ME := Lib.hid hME
    clear hME O
    have O := O2
    clear O2
    have hll : l.length ≤ 256 := by
      have := few_of HL.out (Nat.le_refl _)
      have h2 := P.prims_few 6 (List.replicate n false) false
      rw [HP.out] at h2
      exact Nat.le_trans this h2
    clear e1
    go_loopw [8] (fun t wr => ∃ i : Nat, 1 ≤ i ∧ i ≤ l.length + 1 ∧ t = .int .i64 i ∧ Held w wr [] nilRow es) (fun t _ => l.length - (intOf t).toNat)
    case atStart => exact ⟨1, Nat.le_refl _, by omega, rfl, O⟩
    case round =>
      clear O
      obtain ⟨i, hi1, hi, rfl, O⟩ := hrel
      have q0 : (0 : Int) ≤ i := by omega
      by_cases hlt : i < l.length
      · have q2 : (i : Int) < l.length := by omega
        obtain ⟨j, hj⟩ : ∃ j, i = j + 1 := ⟨i - 1, by omega⟩
        have hltj : j < l.length := by omega
        have e1 : IntKind.i64.wrap ((i : Int) - 1) = (j : Int) := by rw [show (i : Int) - 1 = (j : Int) by omega]; exact IntWalk.i64_in _ (by omega)
        obtain ⟨⟨⟨V1, E1, p1⟩, ax⟩, hx⟩ : ∃ x, l[i]? = some x := ⟨_, List.getElem?_eq_getElem hlt⟩
        obtain ⟨⟨⟨V0, E0, p0⟩, ay⟩, hy⟩ : ∃ x, l[j]? = some x := ⟨_, List.getElem?_eq_getElem hltj⟩
        obtain ⟨hic, hqx⟩ := P.list_at (at_of HL.out hx)
        obtain ⟨hjc, hqy⟩ := P.list_at (at_of HL.out hy)
        have hV1 : V1 = P.dV 6 i := by have := congrArg Pm.V hqx; rw [P.V_of (by decide) hic] at this; exact this
        have hV0 : V0 = P.dV 6 j := by have := congrArg Pm.V hqy; rw [P.V_of (by decide) hjc] at this; exact this
        have h31 : V1.length = 3 := by rw [hV1]; exact P.dV_three (by decide) i
        have h30 : V0.length = 3 := by rw [hV0]; exact P.dV_three (by decide) j
        have h9 : cumT V1 V0 9 = 1 := by rw [hV1, hV0, hj]; exact P.turn (by decide) j
        clear hqx hqy hV1 hV0 hic hjc
        obtain ⟨a0, a1, a2, rfl⟩ : ∃ a0 a1 a2, V1 = [a0, a1, a2] := three_of h31
        obtain ⟨b0, b1, b2, rfl⟩ : ∃ b0 b1 b2, V0 = [b0, b1, b2] := three_of h30
        have MV1 := ME.out _ (ents_v hx)
        have MV0 := ME.out _ (ents_v hy)
        have HX := Lib.hid hx
        have HY := Lib.hid hy
        have H9 := Lib.hid h9
        have HJ := Lib.hid hj
        clear hx hy h9 h31 h30 hj
        go_wp2_with (first | ((with_reducible refine at_index_ 31 ?_); refine wpList_at_h rfl Try.underlying24 sizeOf35 (pE w.heap.size A c l) (O.mem MA) rfl (i) rfl rfl hlt rfl ?_) | ((with_reducible refine at_fld 32 ?_); refine wpList_fld_h rfl (f35_0 _) rfl ?_; rw [add_add']) | ((with_reducible refine at_load 33 ?_); refine wpList_ecell_h rfl (pE w.heap.size A c l) (O.mem MA) ((i) * 3 + 0) (pmcs_at HX.out 0 _ rfl) rfl agg33 rfl ?_) | ((with_reducible refine at_index_ 40 ?_); refine wpList_at_h rfl Try.underlying24 sizeOf35 (pE w.heap.size A c l) (O.mem MA) rfl (j) rfl rfl hltj rfl ?_) | ((with_reducible refine at_fld 41 ?_); refine wpList_fld_h rfl (f35_0 _) rfl ?_; rw [add_add']) | ((with_reducible refine at_load 42 ?_); refine wpList_ecell_h rfl (pE w.heap.size A c l) (O.mem MA) ((j) * 3 + 0) (pmcs_at HY.out 0 _ rfl) rfl agg33 rfl ?_))
        go_loopw [9, 10] (fun cv t wr => ∃ k : Nat, k ≤ 3 ∧ t = .int .i64 k ∧ cv = .int .i64 (cumT [a0, a1, a2] [b0, b1, b2] (3 * k) : Nat) ∧ Held w wr [] nilRow es) (fun _ t _ => 3 - (intOf t).toNat)
        case atStart => exact ⟨0, Nat.zero_le _, rfl, rfl, O⟩
        case round =>
          clear O
          obtain ⟨k, hk, rfl, rfl, O⟩ := hrel
          have q3 : (0 : Int) ≤ k := by omega
          by_cases hk3 : k < 3
          · have q4 : (k : Int) < 3 := by omega
            go_wp2_with fail
            go_loopw [9, 11] (fun cv t wr => ∃ q : Nat, q ≤ 3 ∧ t = .int .i64 q ∧ cv = .int .i64 (cumT [a0, a1, a2] [b0, b1, b2] (3 * k + q) : Nat) ∧ Held w wr [] nilRow es) (fun _ t _ => 3 - (intOf t).toNat)
            case atStart => exact ⟨0, Nat.zero_le _, rfl, rfl, O⟩
            case round =>
              clear O
              obtain ⟨q, hq, rfl, rfl, O⟩ := hrel
              have q5 : (0 : Int) ≤ q := by omega
              by_cases hq3 : q < 3
              · have q6 : (q : Int) < 3 := by omega
                have HCU := Lib.hid (cum_step [a0, a1, a2] [b0, b1, b2] hq3 k)
                obtain ⟨C, hC⟩ : ∃ C, cumT [a0, a1, a2] [b0, b1, b2] (3 * k + q) = C := ⟨_, rfl⟩
                have hC9 : C ≤ 9 := by have := cumT_le [a0, a1, a2] [b0, b1, b2] (3 * k + q); omega
                rw [hC] at HCU
                rw [hC]
                obtain ⟨r1, hr⟩ : ∃ r1, (q + 1) % 3 = r1 := ⟨_, rfl⟩
                have hr1 : r1 < 3 := by omega
                obtain ⟨s1, hs⟩ : ∃ s1, (k + 1) % 3 = s1 := ⟨_, rfl⟩
                have hs1 : s1 < 3 := by omega
                rw [hr, hs] at HCU
                obtain ⟨q1, hq1⟩ : ∃ q1, q + 1 = q1 := ⟨_, rfl⟩
                obtain ⟨k1, hk1⟩ : ∃ k1, k + 1 = k1 := ⟨_, rfl⟩
                have eq1 : IntKind.i64.wrap ((q : Int) + 1) = (q1 : Int) := by rw [show (q : Int) + 1 = (q1 : Int) by omega]; exact IntWalk.i64_in _ (by omega)
                have ek1 : IntKind.i64.wrap ((k : Int) + 1) = (k1 : Int) := by rw [show (k : Int) + 1 = (k1 : Int) by omega]; exact IntWalk.i64_in _ (by omega)
                have er1 : Int.tmod (q1 : Int) 3 = (r1 : Int) := by rw [← hr, hq1]; rfl
                have es1 : Int.tmod (k1 : Int) 3 = (s1 : Int) := by rw [← hs, hk1]; rfl
                clear hC hr hs
                obtain ⟨x, hx⟩ : ∃ x, [a0, a1, a2][k]? = some x := ⟨_, List.getElem?_eq_getElem hk3⟩
                obtain ⟨y, hy⟩ : ∃ y, [b0, b1, b2][r1]? = some y := ⟨_, List.getElem?_eq_getElem hr1⟩
                obtain ⟨z, hz⟩ : ∃ z, [a0, a1, a2][s1]? = some z := ⟨_, List.getElem?_eq_getElem hs1⟩
                obtain ⟨u, hu⟩ : ∃ u, [b0, b1, b2][q]? = some u := ⟨_, List.getElem?_eq_getElem hq3⟩
                rw [getD_of hx, getD_of hy, getD_of hz, getD_of hu] at HCU
                have HXK := Lib.hid hx
                have HYK := Lib.hid hy
                have HZK := Lib.hid hz
                have HUK := Lib.hid hu
                clear hx hy hz hu
                by_cases hxy : x = y
                · subst hxy
                  by_cases hzu : z = u
                  · subst hzu
                    have HG : Hid (cumT [a0, a1, a2] [b0, b1, b2] (3 * k + q + 1) = C + 1) := by show _ = _; rw [HCU.out, if_pos ⟨rfl, rfl⟩]
                    go_wp2_with fail
                    refine region_T (fun w2 => Held w w2 [] nilRow es) [0, 1, 2, 3, 4, 5, 6, 7, 8, 9, 10, 11, 12, 13, 14, 15, 16, 17, 18, 19, 20, 21, 22, 23, 24, 25, 26, 27, 28, 29, 30, 31, 32, 33, 34, 35, 36, 37, 38, 39, 40, 41] 12 [some 54, some 55, some 56, some 57, some 58, some 59, some 60, some 61, some 62, some 63, some 64, some 65, some 66, some 67, some 68, some 69, some 70, some 71, some 72, some 73, some 74, some 75, some 76, some 77, some 78, some 79, some 80, some 81, some 82, some 83, some 84, some 85, some 86, some 87, some 88, some 89, some 90, some 91, some 92, some 93, some 94, some 95] [.slice A l.length c, .int .i64 i, .pointer (some ((adr A).add ((i) * 3))), .pointer (some ((adr A).add ((i) * 3))), .slice ax.VA 3 ax.Vc, .int .i64 k, .pointer (some ((adr ax.VA).add (k))), .int .i64 x, .slice A l.length c, .int .i64 i, .int .i64 j, .pointer (some ((adr A).add ((j) * 3))), .pointer (some ((adr A).add ((j) * 3))), .slice ay.VA 3 ay.Vc, .int .i64 q, .int .i64 q1, .int .i64 r1, .pointer (some ((adr ay.VA).add (r1))), .int .i64 x, .bool true, .bool true, .slice A l.length c, .int .i64 i, .pointer (some ((adr A).add ((i) * 3))), .pointer (some ((adr A).add ((i) * 3))), .slice ax.VA 3 ax.Vc, .int .i64 k, .int .i64 k1, .int .i64 s1, .pointer (some ((adr ax.VA).add (s1))), .int .i64 z, .slice A l.length c, .int .i64 i, .int .i64 j, .pointer (some ((adr A).add ((j) * 3))), .pointer (some ((adr A).add ((j) * 3))), .slice ay.VA 3 ay.Vc, .int .i64 q, .pointer (some ((adr ay.VA).add (q))), .int .i64 z, .bool true, .bool true] 0 (by kernel_rfl) (by rfl) (by kernel_rfl) (by rfl) (by rfl) (O.drew) (fun F hF => ?_)
                    simp only [fillD, Act.put, List.setIfInBounds_toArray, List.set_cons_zero, List.set_cons_succ] at hF
                    subst hF
                    refine ⟨⟨does_want rfl (by rfl) (fun w' O K hK => ?_), does_want rfl (by rfl) (fun w' O K hK => ?_), does_want rfl (by rfl) (fun w' O K hK => ?_), does_want rfl (by rfl) (fun w' O K hK => ?_), does_want rfl (by rfl) (fun w' O K hK => ?_), does_want rfl (by rfl) (fun w' O K hK => ?_), does_want rfl (by rfl) (fun w' O K hK => ?_), does_want rfl (by rfl) (fun w' O K hK => ?_), does_want rfl (by rfl) (fun w' O K hK => ?_), does_want rfl (by rfl) (fun w' O K hK => ?_), does_want rfl (by rfl) (fun w' O K hK => ?_), does_want rfl (by rfl) (fun w' O K hK => ?_), does_want rfl (by rfl) (fun w' O K hK => ?_), does_want rfl (by rfl) (fun w' O K hK => ?_), does_want rfl (by rfl) (fun w' O K hK => ?_), does_want rfl (by rfl) (fun w' O K hK => ?_), does_want rfl (by rfl) (fun w' O K hK => ?_), does_want rfl (by rfl) (fun w' O K hK => ?_), does_want rfl (by rfl) (fun w' O K hK => ?_), does_want rfl (by rfl) (fun w' O K hK => ?_), does_want rfl (by rfl) (fun w' O K hK => ?_), does_want rfl (by rfl) (fun w' O K hK => ?_), does_want rfl (by rfl) (fun w' O K hK => ?_), does_want rfl (by rfl) (fun w' O K hK => ?_), does_want rfl (by rfl) (fun w' O K hK => ?_), does_want rfl (by rfl) (fun w' O K hK => ?_), does_want rfl (by rfl) (fun w' O K hK => ?_), does_want rfl (by rfl) (fun w' O K hK => ?_), does_want rfl (by rfl) (fun w' O K hK => ?_), does_want rfl (by rfl) (fun w' O K hK => ?_), does_want rfl (by rfl) (fun w' O K hK => ?_), does_want rfl (by rfl) (fun w' O K hK => ?_), does_want rfl (by rfl) (fun w' O K hK => ?_), does_want rfl (by rfl) (fun w' O K hK => ?_), does_want rfl (by rfl) (fun w' O K hK => ?_), does_want rfl (by rfl) (fun w' O K hK => ?_), does_want rfl (by rfl) (fun w' O K hK => ?_), does_want rfl (by rfl) (fun w' O K hK => ?_), does_want rfl (by rfl) (fun w' O K hK => ?_), does_want rfl (by rfl) (fun w' O K hK => ?_), does_want rfl (by rfl) (fun w' O K hK => ?_), does_want rfl (by rfl) (fun w' O K hK => ?_), trivial⟩, fun w' O => ?_⟩
                    · go_simp
                      exact hK _ O
                    · go_simp
                      exact hK _ O
                    · exact wp_at_h Try.underlying24 sizeOf35 (pE w.heap.size A c l) (O.mem MA) rfl (i) rfl rfl hlt rfl (hK _ O)
                    · refine wp_fld_h (f35_0 _) rfl ?_
                      rw [add_add']
                      exact hK _ O
                    · exact wp_ecell_h (pE w.heap.size A c l) (O.mem MA) ((i) * 3 + 0) (pmcs_at HX.out 0 _ rfl) rfl agg33 rfl (hK _ O)
                    · go_simp
                      exact hK _ O
                    · refine wp_at_h Try.underlying33 sizeOf3 (vOf w.heap.size ((⟨[a0, a1, a2], E1, p1⟩, ax) : PA)) (O.mem MV1) rfl (k) rfl rfl hk3 rfl ?_
                      rw [Nat.mul_one]
                      exact hK _ O
                    · exact wp_ecell_h (vOf w.heap.size ((⟨[a0, a1, a2], E1, p1⟩, ax) : PA)) (O.mem MV1) (k) (ints_at HXK.out) rfl agg3 rfl (hK _ O)
                    · go_simp
                      exact hK _ O
                    · go_simp
                      exact hK _ O
                    · go_simp
                      exact hK _ O
                    · exact wp_at_h Try.underlying24 sizeOf35 (pE w.heap.size A c l) (O.mem MA) rfl (j) rfl rfl hltj rfl (hK _ O)
                    · refine wp_fld_h (f35_0 _) rfl ?_
                      rw [add_add']
                      exact hK _ O
                    · exact wp_ecell_h (pE w.heap.size A c l) (O.mem MA) ((j) * 3 + 0) (pmcs_at HY.out 0 _ rfl) rfl agg33 rfl (hK _ O)
                    · go_simp
                      exact hK _ O
                    · go_simp
                      exact hK _ O
                    · go_simp
                      exact hK _ O
                    · refine wp_at_h Try.underlying33 sizeOf3 (vOf w.heap.size ((⟨[b0, b1, b2], E0, p0⟩, ay) : PA)) (O.mem MV0) rfl (r1) rfl rfl hr1 rfl ?_
                      rw [Nat.mul_one]
                      exact hK _ O
                    · exact wp_ecell_h (vOf w.heap.size ((⟨[b0, b1, b2], E0, p0⟩, ay) : PA)) (O.mem MV0) (r1) (ints_at HYK.out) rfl agg3 rfl (hK _ O)
                    · go_simp
                      exact hK _ O
                    · go_simp
                      exact hK _ O
                    · go_simp
                      exact hK _ O
                    · go_simp
                      exact hK _ O
                    · exact wp_at_h Try.underlying24 sizeOf35 (pE w.heap.size A c l) (O.mem MA) rfl (i) rfl rfl hlt rfl (hK _ O)
                    · refine wp_fld_h (f35_0 _) rfl ?_
                      rw [add_add']
                      exact hK _ O
                    · exact wp_ecell_h (pE w.heap.size A c l) (O.mem MA) ((i) * 3 + 0) (pmcs_at HX.out 0 _ rfl) rfl agg33 rfl (hK _ O)
                    · go_simp
                      exact hK _ O
                    · go_simp
                      exact hK _ O
                    · go_simp
                      exact hK _ O
                    · refine wp_at_h Try.underlying33 sizeOf3 (vOf w.heap.size ((⟨[a0, a1, a2], E1, p1⟩, ax) : PA)) (O.mem MV1) rfl (s1) rfl rfl hs1 rfl ?_
                      rw [Nat.mul_one]
                      exact hK _ O
                    · exact wp_ecell_h (vOf w.heap.size ((⟨[a0, a1, a2], E1, p1⟩, ax) : PA)) (O.mem MV1) (s1) (ints_at HZK.out) rfl agg3 rfl (hK _ O)
                    · go_simp
                      exact hK _ O
                    · go_simp
                      exact hK _ O
                    · go_simp
                      exact hK _ O
                    · exact wp_at_h Try.underlying24 sizeOf35 (pE w.heap.size A c l) (O.mem MA) rfl (j) rfl rfl hltj rfl (hK _ O)
                    · refine wp_fld_h (f35_0 _) rfl ?_
                      rw [add_add']
                      exact hK _ O
                    · exact wp_ecell_h (pE w.heap.size A c l) (O.mem MA) ((j) * 3 + 0) (pmcs_at HY.out 0 _ rfl) rfl agg33 rfl (hK _ O)
                    · go_simp
                      exact hK _ O
                    · refine wp_at_h Try.underlying33 sizeOf3 (vOf w.heap.size ((⟨[b0, b1, b2], E0, p0⟩, ay) : PA)) (O.mem MV0) rfl (q) rfl rfl hq3 rfl ?_
                      rw [Nat.mul_one]
                      exact hK _ O
                    · exact wp_ecell_h (vOf w.heap.size ((⟨[b0, b1, b2], E0, p0⟩, ay) : PA)) (O.mem MV0) (q) (ints_at HUK.out) rfl agg3 rfl (hK _ O)
                    · go_simp
                      exact hK _ O
                    · go_simp
                      exact hK _ O
                    refine wpAny_done (by kernel_rfl) ?_ _
                    go_wp2_with fail
                    go_roundw
                    case rel => first | exact ⟨q + 1, by omega, by go_num, by rw [show 3 * k + (q + 1) = 3 * k + q + 1 by omega, HG.out]; go_num, O⟩ | ((repeat apply Exists.intro); exact ⟨⟨q + 1, by omega, by go_num, by rw [show 3 * k + (q + 1) = 3 * k + q + 1 by omega, HG.out]; go_num, O⟩, rfl⟩)
                    case measure => simp [intOf]; omega
                  · have g1 : ((z : Int) == (u : Int)) = false := by simp; omega
                    have HG : Hid (cumT [a0, a1, a2] [b0, b1, b2] (3 * k + q + 1) = C) := by show _ = _; rw [HCU.out, if_neg (by intro h; exact hzu h.2)]; rfl
                    clear hzu
                    go_wp2_with fail
                    refine region_T (fun w2 => Held w w2 [] nilRow es) [0, 1, 2, 3, 4, 5, 6, 7, 8, 9, 10, 11, 12, 13, 14, 15, 16, 17, 18, 19, 20, 21, 22, 23, 24, 25, 26, 27, 28, 29, 30, 31, 32, 33, 34, 35, 36, 37, 38, 39, 40, 41] 12 [some 54, some 55, some 56, some 57, some 58, some 59, some 60, some 61, some 62, some 63, some 64, some 65, some 66, some 67, some 68, some 69, some 70, some 71, some 72, some 73, some 74, some 75, some 76, some 77, some 78, some 79, some 80, some 81, some 82, some 83, some 84, some 85, some 86, some 87, some 88, some 89, some 90, some 91, some 92, some 93, some 94, some 95] [.slice A l.length c, .int .i64 i, .pointer (some ((adr A).add ((i) * 3))), .pointer (some ((adr A).add ((i) * 3))), .slice ax.VA 3 ax.Vc, .int .i64 k, .pointer (some ((adr ax.VA).add (k))), .int .i64 x, .slice A l.length c, .int .i64 i, .int .i64 j, .pointer (some ((adr A).add ((j) * 3))), .pointer (some ((adr A).add ((j) * 3))), .slice ay.VA 3 ay.Vc, .int .i64 q, .int .i64 q1, .int .i64 r1, .pointer (some ((adr ay.VA).add (r1))), .int .i64 x, .bool true, .bool true, .slice A l.length c, .int .i64 i, .pointer (some ((adr A).add ((i) * 3))), .pointer (some ((adr A).add ((i) * 3))), .slice ax.VA 3 ax.Vc, .int .i64 k, .int .i64 k1, .int .i64 s1, .pointer (some ((adr ax.VA).add (s1))), .int .i64 z, .slice A l.length c, .int .i64 i, .int .i64 j, .pointer (some ((adr A).add ((j) * 3))), .pointer (some ((adr A).add ((j) * 3))), .slice ay.VA 3 ay.Vc, .int .i64 q, .pointer (some ((adr ay.VA).add (q))), .int .i64 u, .bool false, .bool false] 0 (by kernel_rfl) (by rfl) (by kernel_rfl) (by rfl) (by rfl) (O.drew) (fun F hF => ?_)
                    simp only [fillD, Act.put, List.setIfInBounds_toArray, List.set_cons_zero, List.set_cons_succ] at hF
                    subst hF
                    refine ⟨⟨does_want rfl (by rfl) (fun w' O K hK => ?_), does_want rfl (by rfl) (fun w' O K hK => ?_), does_want rfl (by rfl) (fun w' O K hK => ?_), does_want rfl (by rfl) (fun w' O K hK => ?_), does_want rfl (by rfl) (fun w' O K hK => ?_), does_want rfl (by rfl) (fun w' O K hK => ?_), does_want rfl (by rfl) (fun w' O K hK => ?_), does_want rfl (by rfl) (fun w' O K hK => ?_), does_want rfl (by rfl) (fun w' O K hK => ?_), does_want rfl (by rfl) (fun w' O K hK => ?_), does_want rfl (by rfl) (fun w' O K hK => ?_), does_want rfl (by rfl) (fun w' O K hK => ?_), does_want rfl (by rfl) (fun w' O K hK => ?_), does_want rfl (by rfl) (fun w' O K hK => ?_), does_want rfl (by rfl) (fun w' O K hK => ?_), does_want rfl (by rfl) (fun w' O K hK => ?_), does_want rfl (by rfl) (fun w' O K hK => ?_), does_want rfl (by rfl) (fun w' O K hK => ?_), does_want rfl (by rfl) (fun w' O K hK => ?_), does_want rfl (by rfl) (fun w' O K hK => ?_), does_want rfl (by rfl) (fun w' O K hK => ?_), does_want rfl (by rfl) (fun w' O K hK => ?_), does_want rfl (by rfl) (fun w' O K hK => ?_), does_want rfl (by rfl) (fun w' O K hK => ?_), does_want rfl (by rfl) (fun w' O K hK => ?_), does_want rfl (by rfl) (fun w' O K hK => ?_), does_want rfl (by rfl) (fun w' O K hK => ?_), does_want rfl (by rfl) (fun w' O K hK => ?_), does_want rfl (by rfl) (fun w' O K hK => ?_), does_want rfl (by rfl) (fun w' O K hK => ?_), does_want rfl (by rfl) (fun w' O K hK => ?_), does_want rfl (by rfl) (fun w' O K hK => ?_), does_want rfl (by rfl) (fun w' O K hK => ?_), does_want rfl (by rfl) (fun w' O K hK => ?_), does_want rfl (by rfl) (fun w' O K hK => ?_), does_want rfl (by rfl) (fun w' O K hK => ?_), does_want rfl (by rfl) (fun w' O K hK => ?_), does_want rfl (by rfl) (fun w' O K hK => ?_), does_want rfl (by rfl) (fun w' O K hK => ?_), does_want rfl (by rfl) (fun w' O K hK => ?_), does_want rfl (by rfl) (fun w' O K hK => ?_), does_want rfl (by rfl) (fun w' O K hK => ?_), trivial⟩, fun w' O => ?_⟩
                    · go_simp
                      exact hK _ O
                    · go_simp
                      exact hK _ O
                    · exact wp_at_h Try.underlying24 sizeOf35 (pE w.heap.size A c l) (O.mem MA) rfl (i) rfl rfl hlt rfl (hK _ O)
                    · refine wp_fld_h (f35_0 _) rfl ?_
                      rw [add_add']
                      exact hK _ O
                    · exact wp_ecell_h (pE w.heap.size A c l) (O.mem MA) ((i) * 3 + 0) (pmcs_at HX.out 0 _ rfl) rfl agg33 rfl (hK _ O)
                    · go_simp
                      exact hK _ O
                    · refine wp_at_h Try.underlying33 sizeOf3 (vOf w.heap.size ((⟨[a0, a1, a2], E1, p1⟩, ax) : PA)) (O.mem MV1) rfl (k) rfl rfl hk3 rfl ?_
                      rw [Nat.mul_one]
                      exact hK _ O
                    · exact wp_ecell_h (vOf w.heap.size ((⟨[a0, a1, a2], E1, p1⟩, ax) : PA)) (O.mem MV1) (k) (ints_at HXK.out) rfl agg3 rfl (hK _ O)
                    · go_simp
                      exact hK _ O
                    · go_simp
                      exact hK _ O
                    · go_simp
                      exact hK _ O
                    · exact wp_at_h Try.underlying24 sizeOf35 (pE w.heap.size A c l) (O.mem MA) rfl (j) rfl rfl hltj rfl (hK _ O)
                    · refine wp_fld_h (f35_0 _) rfl ?_
                      rw [add_add']
                      exact hK _ O
                    · exact wp_ecell_h (pE w.heap.size A c l) (O.mem MA) ((j) * 3 + 0) (pmcs_at HY.out 0 _ rfl) rfl agg33 rfl (hK _ O)
                    · go_simp
                      exact hK _ O
                    · go_simp
                      exact hK _ O
                    · go_simp
                      exact hK _ O
                    · refine wp_at_h Try.underlying33 sizeOf3 (vOf w.heap.size ((⟨[b0, b1, b2], E0, p0⟩, ay) : PA)) (O.mem MV0) rfl (r1) rfl rfl hr1 rfl ?_
                      rw [Nat.mul_one]
                      exact hK _ O
                    · exact wp_ecell_h (vOf w.heap.size ((⟨[b0, b1, b2], E0, p0⟩, ay) : PA)) (O.mem MV0) (r1) (ints_at HYK.out) rfl agg3 rfl (hK _ O)
                    · go_simp
                      exact hK _ O
                    · go_simp
                      exact hK _ O
                    · go_simp
                      exact hK _ O
                    · go_simp
                      exact hK _ O
                    · exact wp_at_h Try.underlying24 sizeOf35 (pE w.heap.size A c l) (O.mem MA) rfl (i) rfl rfl hlt rfl (hK _ O)
                    · refine wp_fld_h (f35_0 _) rfl ?_
                      rw [add_add']
                      exact hK _ O
                    · exact wp_ecell_h (pE w.heap.size A c l) (O.mem MA) ((i) * 3 + 0) (pmcs_at HX.out 0 _ rfl) rfl agg33 rfl (hK _ O)
                    · go_simp
                      exact hK _ O
                    · go_simp
                      exact hK _ O
                    · go_simp
                      exact hK _ O
                    · refine wp_at_h Try.underlying33 sizeOf3 (vOf w.heap.size ((⟨[a0, a1, a2], E1, p1⟩, ax) : PA)) (O.mem MV1) rfl (s1) rfl rfl hs1 rfl ?_
                      rw [Nat.mul_one]
                      exact hK _ O
                    · exact wp_ecell_h (vOf w.heap.size ((⟨[a0, a1, a2], E1, p1⟩, ax) : PA)) (O.mem MV1) (s1) (ints_at HZK.out) rfl agg3 rfl (hK _ O)
                    · go_simp
                      exact hK _ O
                    · go_simp
                      exact hK _ O
                    · go_simp
                      exact hK _ O
                    · exact wp_at_h Try.underlying24 sizeOf35 (pE w.heap.size A c l) (O.mem MA) rfl (j) rfl rfl hltj rfl (hK _ O)
                    · refine wp_fld_h (f35_0 _) rfl ?_
                      rw [add_add']
                      exact hK _ O
                    · exact wp_ecell_h (pE w.heap.size A c l) (O.mem MA) ((j) * 3 + 0) (pmcs_at HY.out 0 _ rfl) rfl agg33 rfl (hK _ O)
                    · go_simp
                      exact hK _ O
                    · refine wp_at_h Try.underlying33 sizeOf3 (vOf w.heap.size ((⟨[b0, b1, b2], E0, p0⟩, ay) : PA)) (O.mem MV0) rfl (q) rfl rfl hq3 rfl ?_
                      rw [Nat.mul_one]
                      exact hK _ O
                    · exact wp_ecell_h (vOf w.heap.size ((⟨[b0, b1, b2], E0, p0⟩, ay) : PA)) (O.mem MV0) (q) (ints_at HUK.out) rfl agg3 rfl (hK _ O)
                    · go_simp
                      exact hK _ O
                    · go_simp
                      exact hK _ O
                    refine wpAny_done (by kernel_rfl) ?_ _
                    go_wp2_with fail
                    go_roundw
                    case rel => first | exact ⟨q + 1, by omega, by go_num, by rw [show 3 * k + (q + 1) = 3 * k + q + 1 by omega, HG.out], O⟩ | ((repeat apply Exists.intro); exact ⟨⟨q + 1, by omega, by go_num, by rw [show 3 * k + (q + 1) = 3 * k + q + 1 by omega, HG.out], O⟩, rfl⟩)
                    case measure => simp [intOf]; omega
                · have g1 : ((x : Int) == (y : Int)) = false := by simp; omega
                  have HG : Hid (cumT [a0, a1, a2] [b0, b1, b2] (3 * k + q + 1) = C) := by show _ = _; rw [HCU.out, if_neg (by intro h; exact hxy h.1)]; rfl
                  clear hxy
                  go_wp2_with fail
                  refine region_T (fun w2 => Held w w2 [] nilRow es) [0, 1, 2, 3, 4, 5, 6, 7, 8, 9, 10, 11, 12, 13, 14, 15, 16, 17, 18, 19, 20, 21, 22, 23, 24, 25, 26, 27, 28, 29, 30, 31, 32, 33, 34, 35, 36, 37, 38, 39, 40, 41] 12 [some 54, some 55, some 56, some 57, some 58, some 59, some 60, some 61, some 62, some 63, some 64, some 65, some 66, some 67, some 68, some 69, some 70, some 71, some 72, some 73, some 74, some 75, some 76, some 77, some 78, some 79, some 80, some 81, some 82, some 83, some 84, some 85, some 86, some 87, some 88, some 89, some 90, some 91, some 92, some 93, some 94, some 95] [.slice A l.length c, .int .i64 i, .pointer (some ((adr A).add ((i) * 3))), .pointer (some ((adr A).add ((i) * 3))), .slice ax.VA 3 ax.Vc, .int .i64 k, .pointer (some ((adr ax.VA).add (k))), .int .i64 x, .slice A l.length c, .int .i64 i, .int .i64 j, .pointer (some ((adr A).add ((j) * 3))), .pointer (some ((adr A).add ((j) * 3))), .slice ay.VA 3 ay.Vc, .int .i64 q, .int .i64 q1, .int .i64 r1, .pointer (some ((adr ay.VA).add (r1))), .int .i64 y, .bool false, .bool false, undef, undef, undef, undef, undef, undef, undef, undef, undef, undef, undef, undef, undef, undef, undef, undef, undef, undef, undef, undef, .bool false] 0 (by kernel_rfl) (by rfl) (by kernel_rfl) (by rfl) (by rfl) (O.drew) (fun F hF => ?_)
                  simp only [fillD, Act.put, List.setIfInBounds_toArray, List.set_cons_zero, List.set_cons_succ] at hF
                  subst hF
                  refine ⟨⟨does_want rfl (by rfl) (fun w' O K hK => ?_), does_want rfl (by rfl) (fun w' O K hK => ?_), does_want rfl (by rfl) (fun w' O K hK => ?_), does_want rfl (by rfl) (fun w' O K hK => ?_), does_want rfl (by rfl) (fun w' O K hK => ?_), does_want rfl (by rfl) (fun w' O K hK => ?_), does_want rfl (by rfl) (fun w' O K hK => ?_), does_want rfl (by rfl) (fun w' O K hK => ?_), does_want rfl (by rfl) (fun w' O K hK => ?_), does_want rfl (by rfl) (fun w' O K hK => ?_), does_want rfl (by rfl) (fun w' O K hK => ?_), does_want rfl (by rfl) (fun w' O K hK => ?_), does_want rfl (by rfl) (fun w' O K hK => ?_), does_want rfl (by rfl) (fun w' O K hK => ?_), does_want rfl (by rfl) (fun w' O K hK => ?_), does_want rfl (by rfl) (fun w' O K hK => ?_), does_want rfl (by rfl) (fun w' O K hK => ?_), does_want rfl (by rfl) (fun w' O K hK => ?_), does_want rfl (by rfl) (fun w' O K hK => ?_), does_want rfl (by rfl) (fun w' O K hK => ?_), does_want rfl (by rfl) (fun w' O K hK => ?_), does_skip rfl (by rfl), does_skip rfl (by rfl), does_skip rfl (by rfl), does_skip rfl (by rfl), does_skip rfl (by rfl), does_skip rfl (by rfl), does_skip rfl (by rfl), does_skip rfl (by rfl), does_skip rfl (by rfl), does_skip rfl (by rfl), does_skip rfl (by rfl), does_skip rfl (by rfl), does_skip rfl (by rfl), does_skip rfl (by rfl), does_skip rfl (by rfl), does_skip rfl (by rfl), does_skip rfl (by rfl), does_skip rfl (by rfl), does_skip rfl (by rfl), does_skip rfl (by rfl), does_want rfl (by rfl) (fun w' O K hK => ?_), trivial⟩, fun w' O => ?_⟩
                  · go_simp
                    exact hK _ O
                  · go_simp
                    exact hK _ O
                  · exact wp_at_h Try.underlying24 sizeOf35 (pE w.heap.size A c l) (O.mem MA) rfl (i) rfl rfl hlt rfl (hK _ O)
                  · refine wp_fld_h (f35_0 _) rfl ?_
                    rw [add_add']
                    exact hK _ O
                  · exact wp_ecell_h (pE w.heap.size A c l) (O.mem MA) ((i) * 3 + 0) (pmcs_at HX.out 0 _ rfl) rfl agg33 rfl (hK _ O)
                  · go_simp
                    exact hK _ O
                  · refine wp_at_h Try.underlying33 sizeOf3 (vOf w.heap.size ((⟨[a0, a1, a2], E1, p1⟩, ax) : PA)) (O.mem MV1) rfl (k) rfl rfl hk3 rfl ?_
                    rw [Nat.mul_one]
                    exact hK _ O
                  · exact wp_ecell_h (vOf w.heap.size ((⟨[a0, a1, a2], E1, p1⟩, ax) : PA)) (O.mem MV1) (k) (ints_at HXK.out) rfl agg3 rfl (hK _ O)
                  · go_simp
                    exact hK _ O
                  · go_simp
                    exact hK _ O
                  · go_simp
                    exact hK _ O
                  · exact wp_at_h Try.underlying24 sizeOf35 (pE w.heap.size A c l) (O.mem MA) rfl (j) rfl rfl hltj rfl (hK _ O)
                  · refine wp_fld_h (f35_0 _) rfl ?_
                    rw [add_add']
                    exact hK _ O
                  · exact wp_ecell_h (pE w.heap.size A c l) (O.mem MA) ((j) * 3 + 0) (pmcs_at HY.out 0 _ rfl) rfl agg33 rfl (hK _ O)
                  · go_simp
                    exact hK _ O
                  · go_simp
                    exact hK _ O
                  · go_simp
                    exact hK _ O
                  · refine wp_at_h Try.underlying33 sizeOf3 (vOf w.heap.size ((⟨[b0, b1, b2], E0, p0⟩, ay) : PA)) (O.mem MV0) rfl (r1) rfl rfl hr1 rfl ?_
                    rw [Nat.mul_one]
                    exact hK _ O
                  · exact wp_ecell_h (vOf w.heap.size ((⟨[b0, b1, b2], E0, p0⟩, ay) : PA)) (O.mem MV0) (r1) (ints_at HYK.out) rfl agg3 rfl (hK _ O)
                  · go_simp
                    exact hK _ O
                  · go_simp
                    exact hK _ O
                  · go_simp
                    exact hK _ O
                  refine wpAny_done (by kernel_rfl) ?_ _
                  go_wp2_with fail
                  go_roundw
                  case rel => first | exact ⟨q + 1, by omega, by go_num, by rw [show 3 * k + (q + 1) = 3 * k + q + 1 by omega, HG.out], O⟩ | ((repeat apply Exists.intro); exact ⟨⟨q + 1, by omega, by go_num, by rw [show 3 * k + (q + 1) = 3 * k + q + 1 by omega, HG.out], O⟩, rfl⟩)
                  case measure => simp [intOf]; omega
              · have q6 : ¬ (q : Int) < 3 := by omega
                obtain rfl : q = 3 := by omega
                go_wp2_with fail
                go_roundw
                case rel => first | exact ⟨k + 1, by omega, by go_num, rfl, O⟩ | ((repeat apply Exists.intro); exact ⟨⟨k + 1, by omega, by go_num, rfl, O⟩, rfl⟩)
                case measure => simp [intOf]; omega
          · have q4 : ¬ (k : Int) < 3 := by omega
            obtain rfl : k = 3 := by omega
            rw [show cumT [a0, a1, a2] [b0, b1, b2] (3 * 3) = 1 from H9.out]
            go_wp2_with fail
            go_roundw
            case rel => first | exact ⟨i + 1, by omega, by omega, by go_num, O⟩ | ((repeat apply Exists.intro); exact ⟨⟨i + 1, by omega, by omega, by go_num, O⟩, rfl⟩)
            case measure => simp [intOf]; omega
      · have q2 : ¬ (i : Int) < l.length := by omega
        go_wp2_with (go_at_call 8; refine (awake_any _).mono ?_; rintro e w6 ⟨rfl, hb⟩; replace O := O.call hb; clear hb)
        go_ret
        exact ⟨rfl, O.below⟩

theorem readable : ∀ t ∈ Try.f6.params.toList, Try.prog.readableRec t = true ∧ t < Try.prog.types.size := by
  intro t ht
  rw [Try.params6] at ht
  simp only [List.mem_cons, List.not_mem_nil, or_false] at ht
  repeat (first | (rcases ht with rfl | ht; exact ⟨by kernel_rfl, of_decide_eq_true (by kernel_rfl)⟩) | (subst ht; exact ⟨by kernel_rfl, of_decide_eq_true (by kernel_rfl)⟩))
set_option maxRecDepth 100000 in
theorem lifted (os : Os) (started : os.Started) (H : Type) (enc : TypeId × Value → H) :
    ReturnsInHanded {} Try.checked os 6 .any (Rows.buildTurnsSpec.pre6 enc Try.prog Try.f6 Rows.buildTurnsRow.domain false) (Rows.buildTurnsSpec.post enc Try.prog Try.f6 false true false false) := by
  refine returnsInHanded_of_change (C := Try.checked) own started (by kernel_rfl) Try.func6
    (ChangeSpec.witness6 (enc := enc) (C := Try.checked) false ⟨#[], #[.int .u8 0, .bool false], []⟩ 8 (by kernel_rfl) (by kernel_rfl) (by kernel_rfl) (by kernel_rfl)) ?_
  intro W base args ds gs before hval0 hW hcnd _
  have hval : ∀ (j : Nat) t v, Try.f6.params[j]? = some t → args[j]? = some v → Value.okWide Try.prog W .any base t v := hval0
  have hW' := hW
  obtain ⟨p, q, hA0, hV, rfl, hfz, hnd⟩ := hW
  have hA : DataW.TrodAll enc Try.prog W 0 (fun _ => true) true Try.f6.params.toList args.toList ds p := hA0
  rw [Try.params6] at hA hval
  have hlt : ∀ x ∈ p ++ q, x.block < W.heap.size := fun x hx => hW'.lt x hx
  obtain ⟨v0, vs0, d0, ds0, p0, q0, hargs, rfl, rfl, h0, rr0⟩ := trodAll_cons hA
  obtain ⟨v1, vs1, d1, ds1, p1, q1, rfl, rfl, rfl, h1, rr1⟩ := trodAll_cons rr0
  obtain ⟨rfl, rfl, rfl⟩ := trodAll_nil rr1
  obtain rfl : args = #[v0, v1] := by cases args; simp_all
  obtain ⟨rfl, rfl⟩ := trodVars_none hV
  obtain ⟨i0, rfl, rfl, rfl, x0⟩ := open_int Try.underlying5 (hval 0 5 v0 rfl rfl) h0
  obtain ⟨u, rfl, hu⟩ := wf_u8 x0
  obtain ⟨b1, rfl, rfl, rfl⟩ := open_bool Try.underlying4 (hval 1 4 v1 rfl rfl) h1
  clear hA0 hval0
  refine (walk W u b1 hu).mono fun e W' ⟨he, hg⟩ => ?_
  subst he
  exact ⟨_, rfl, post_true (tb := 4) laid readable (by kernel_rfl) Try.underlying4 rfl (fun l hl => by
    match l, hl with
    | [_, _], _ => exact ⟨rfl, rfl, rfl⟩) hW' hg⟩

theorem over : Rows.buildTurnsRow.holds Try.pinned (OpenSpec.ofChange Rows.buildTurnsSpec) :=
  OpenClaim.holds_of_wide 6 Try.f6 rfl rfl rfl rfl rfl rfl rfl ⟨rfl, rfl, rfl, rfl, rfl⟩ rfl rfl rfl rfl rfl (by kernel_rfl) Try.func6 (by kernel_rfl)
    (of_decide_eq_true (by kernel_rfl)) (by unfold Func.isWrapper; first | (rw [if_pos (by decide +kernel)]; kernel_rfl) | (rw [if_neg (by decide +kernel)]; exact ⟨rfl, rfl⟩))
    (fun os started H enc _ => lifted os started H enc)

theorem proved : Rows.BuildTurnsSaid :=
  over
#print axioms proved
end Go.Proofs.Ytadpejblhkcjgaa.buildTurns
