/-
  For every uint8 and every bool the law CodeMany returns true: as many commands as there may be, and one more, many times the same one. No condition.
-/
import Derived.Test.YtaegekmfndcflaaRow
import Derived.Test.YtaegekmfndcflaaMany
import Derived.Test.YtaegekmfndcflaaOpen
import Derived.Deep.DeepCutAuto
namespace Go.Proofs.Ytaegekmfndcflaa.codeMany
open Go.ChangeShapes Go.WideShapes Go.ChangeAt Go.RowKit
set_option linter.unusedVariables false
set_option linter.unusedSimpArgs false

theorem own : ownKnob Try.prog.godebug = none := by kernel_rfl

set_option maxRecDepth 100000 in
set_option maxHeartbeats 4000000 in
theorem walk (m : Int) (h0 : 0 ≤ m) (h1 : m ≤ 255) (wrong : Bool) (w : World) :
    Calls Try.prog 9 #[.int .u8 m, .bool wrong] w fun e w' => e = .returned (.bool true) ∧ Below w.heap.size w w' := by
  obtain ⟨r, hr⟩ : ∃ r : Nat, m % 5 = (r : Int) := ⟨(m % 5).toNat, by omega⟩
  have hr4 : r ≤ 4 := by omega
  have hr2 : m.tmod 5 = (r : Int) := by rw [Int.tmod_eq_emod_of_nonneg h0]; exact hr
  obtain ⟨k, hk⟩ : ∃ k : Nat, (4094 : Int) + (r : Int) = (k : Int) := ⟨4094 + r, by omega⟩
  have k1 : (4094 : Int) ≤ (k : Int) := by omega
  have k2 : (k : Int) ≤ 4098 := by omega
  have k3 : (r : Int) ≤ 4 := by omega
  have k4 : (0 : Int) ≤ (r : Int) := by omega
  obtain ⟨Z, hZ, mk⟩ := make_ints k (by omega)
  have G0 : (w.alloc (.cells Z 3)).heap[w.heap.size]? = some (.cells Z 3 (0, 0)) := alloc_at rfl _
  have K0 : Below w.heap.size w (w.alloc (.cells Z 3)) := (Below.refl _ w).alloc (Nat.le_refl _) _
  have G1 : (w.alloc (.cells Z 3)).heap[w.heap.size]? = some (.cells (ints (part k 0)).toArray 3 (0, 0)) := by rw [G0, hZ]; simp [part]
  have HG := Lib.hid G1
  have kN : 0 < k := by omega
  clear G0 G1 hZ h1
  go_enter Try.func9, Try.ntmps9
  go_wp2_with fail
  generalize w.alloc (.cells Z 3) = W1 at *
  clear mk
  have HK := Lib.hid hk
  clear hk hr hr2
  go_loopw [7] (fun v wr => ∃ i : Nat, v = .int .i64 i ∧ i ≤ k ∧ Hid (wr.heap[w.heap.size]? = some (.cells (ints (part k i)).toArray 3 (0, 0))) ∧ Below w.heap.size w wr) (fun v _ => k - (intOf v).toNat)
  case atStart => exact ⟨0, rfl, by omega, HG, K0⟩
  case round =>
    obtain ⟨i, rfl, hi, hG, hB⟩ := hrel
    have q0 : (0 : Int) ≤ (i : Int) := by omega
    by_cases hlt : i < k
    · have q1 : (i : Int) < (k : Int) := by omega
      have c0 : wr.cell? ⟨w.heap.size, i, none⟩ = some (.int .i64 0) := by
        rw [cell_of_row _ _ i _ _ _ hG.out]
        have : (part k i)[i]? = some 0 := by
          unfold part
          rw [List.getElem?_append_right (by simp), List.length_replicate, Nat.sub_self, List.getElem?_replicate]
          simp; omega
        simp [ints, this]
      have f0 : wr.frozen? ⟨w.heap.size, i, none⟩ = false := by simp [World.frozen?, hG.out]
      have N : Hid ((wr.setCell ⟨w.heap.size, i, none⟩ (.int .i64 18)).heap[w.heap.size]? = some (.cells (ints (part k (i + 1))).toArray 3 (0, 0))) := Lib.hid (by rw [store_row hG.out, part_set hlt])
      have NB : Below w.heap.size w (wr.setCell ⟨w.heap.size, i, none⟩ (.int .i64 18)) := hB.setCell (Nat.le_refl _) _
      clear HG
      go_wp2_with fail
      exact ⟨⟨i + 1, rfl, by omega, N, NB⟩, by simp [intOf]; omega⟩
    · have q1 : ¬ (i : Int) < (k : Int) := by omega
      have hik : i = k := by omega
      subst hik
      clear HG hlt hi
      have hi5 : i ≤ 5000 := by omega
      have b0 : (0 : Int) ≤ (i : Int) - 1 := by omega
      have ti : ((i : Int) - 1).toNat = i - 1 := by omega
      cases wrong
      · have KB := hB
        have h18 := hG.out
        rw [part_all] at h18
        have T := get_code _ (List.replicate i 18) i wr (reads_ints h18) (by rw [List.length_replicate]; omega)
        rw [List.length_replicate] at T
        by_cases hl : 4096 < i
        · have hx : List.replicate i (18 : Int) = List.replicate 4096 18 ++ 18 :: List.replicate (i - 4097) 18 := by
            obtain ⟨j, rfl⟩ : ∃ j, i = 4096 + (j + 1) := ⟨i - 4097, by omega⟩
            rw [show 4096 + (j + 1) - 4097 = j by omega, ← List.replicate_append_replicate, List.replicate_succ (n := j)]
          rw [hx, P.many_long] at T
          unfold RetGet at T
          simp only [List.length_nil] at T
          have q2 : (4096 : Int) < (i : Int) := by omega
          have d2 : decide ((4096 : Int) < (i : Int)) = true := decide_eq_true q2
          clear hx h18
          go_wp2_with fail
          refine T.mono ?_
          rintro e w5 ⟨A1, c1, rfl, r1, hb⟩
          have K := KB.trans (hb.mono KB.size)
          clear T hb r1
          go_wp2_with fail
          refine (awake_any _).mono ?_
          rintro e w6 ⟨rfl, hb⟩
          replace K := K.trans (hb.mono K.size)
          clear hb
          go_wp2_with fail
          go_ret
          exact ⟨by simp, K⟩
        · rw [P.many_ok (by omega)] at T
          unfold RetGet at T
          simp only [List.length_replicate] at T
          have q2 : ¬ (4096 : Int) < (i : Int) := by omega
          have d2 : decide ((4096 : Int) < (i : Int)) = false := decide_eq_false q2
          have e2 : ((i : Int) == (i : Int)) = true := by simp
          clear h18
          go_wp2_with fail
          refine T.mono ?_
          rintro e w5 ⟨A1, c1, rfl, r1, hb⟩
          have K := KB.trans (hb.mono KB.size)
          clear T hb r1
          go_wp2_with fail
          refine (awake_any _).mono ?_
          rintro e w6 ⟨rfl, hb⟩
          replace K := K.trans (hb.mono K.size)
          clear hb
          go_wp2_with fail
          go_ret
          exact ⟨by simp, K⟩
      · have c0 : wr.cell? ⟨w.heap.size, i - 1, none⟩ = some (.int .i64 18) := by
          rw [cell_of_row _ _ (i - 1) _ _ _ hG.out, part_all]
          simp [ints, Array.getElem?_replicate]; omega
        have f0 : wr.frozen? ⟨w.heap.size, i - 1, none⟩ = false := by simp [World.frozen?, hG.out]
        have KB : Below w.heap.size w (wr.setCell ⟨w.heap.size, i - 1, none⟩ (.int .i64 0)) := hB.setCell (Nat.le_refl _) _
        have h18 : (wr.setCell ⟨w.heap.size, i - 1, none⟩ (.int .i64 0)).heap[w.heap.size]? = some (.cells (ints (List.replicate (i - 1) 18 ++ [0])).toArray 3 (0, 0)) := by rw [store_row hG.out, part_last kN]
        have hlen : (List.replicate (i - 1) (18 : Int) ++ [0]).length = i := by simp; omega
        have T := get_code _ (List.replicate (i - 1) 18 ++ [0]) i _ (reads_ints h18) (by rw [hlen]; omega)
        rw [hlen] at T
        by_cases hl : 4096 < i
        · have hx : ∃ x rest, List.replicate (i - 1) (18 : Int) ++ [0] = List.replicate 4096 18 ++ x :: rest := by
            have : i = 4097 ∨ i = 4098 := by omega
            rcases this with rfl | rfl
            · exact ⟨0, [], rfl⟩
            · refine ⟨18, [0], ?_⟩
              rw [show 4098 - 1 = 4096 + 1 from rfl, List.replicate_succ' (n := 4096), List.append_assoc]
              rfl
          obtain ⟨x, rest, hx⟩ := hx
          rw [hx, P.many_long] at T
          unfold RetGet at T
          simp only [List.length_nil] at T
          have q2 : (4096 : Int) < (i : Int) := by omega
          have d2 : decide ((4096 : Int) < (i : Int)) = true := decide_eq_true q2
          clear hx h18 hlen
          go_wp2_with fail
          refine T.mono ?_
          rintro e w5 ⟨A1, c1, rfl, r1, hb⟩
          have K := KB.trans (hb.mono KB.size)
          clear T hb r1
          go_wp2_with fail
          refine (awake_any _).mono ?_
          rintro e w6 ⟨rfl, hb⟩
          replace K := K.trans (hb.mono K.size)
          clear hb
          go_wp2_with fail
          go_ret
          exact ⟨by simp, K⟩
        · rw [P.many_wrong (by omega)] at T
          unfold RetGet at T
          have cs : ((i - 1 : Nat) : Int) = (i : Int) - 1 := by omega
          simp only [List.length_nil, cs] at T
          have q2 : ¬ (4096 : Int) < (i : Int) := by omega
          have d2 : decide ((4096 : Int) < (i : Int)) = false := decide_eq_false q2
          have e2 : ((i : Int) - 1 == (i : Int) - 1) = true := by simp
          clear h18 hlen cs
          go_wp2_with fail
          refine T.mono ?_
          rintro e w5 ⟨A1, c1, rfl, r1, hb⟩
          have K := KB.trans (hb.mono KB.size)
          clear T hb r1
          go_wp2_with fail
          refine (awake_any _).mono ?_
          rintro e w6 ⟨rfl, hb⟩
          replace K := K.trans (hb.mono K.size)
          clear hb
          go_wp2_with fail
          go_ret
          exact ⟨by simp, K⟩

theorem readable : ∀ t ∈ Try.f9.params.toList, Try.prog.readableRec t = true ∧ t < Try.prog.types.size := by
  intro t ht
  rw [Try.params9] at ht
  simp only [List.mem_cons, List.not_mem_nil, or_false] at ht
  repeat (first | (rcases ht with rfl | ht; exact ⟨by kernel_rfl, of_decide_eq_true (by kernel_rfl)⟩) | (subst ht; exact ⟨by kernel_rfl, of_decide_eq_true (by kernel_rfl)⟩))
set_option maxRecDepth 100000 in
theorem lifted (os : Os) (started : os.Started) (H : Type) (enc : TypeId × Value → H) :
    ReturnsInHanded {} Try.checked os 9 .any (Rows.codeManySpec.pre6 enc Try.prog Try.f9 Rows.codeManyRow.domain false) (Rows.codeManySpec.post enc Try.prog Try.f9 false true false false) := by
  refine returnsInHanded_of_change (C := Try.checked) own started (by kernel_rfl) Try.func9
    (ChangeSpec.witness6 (enc := enc) (C := Try.checked) false ⟨#[], #[.int .u8 0, .bool false], []⟩ 8 (by kernel_rfl) (by kernel_rfl) (by kernel_rfl) (by kernel_rfl)) ?_
  intro W base args ds gs before hval0 hW hcnd _
  have hval : ∀ (j : Nat) t v, Try.f9.params[j]? = some t → args[j]? = some v → Value.okWide Try.prog W .any base t v := hval0
  have hW' := hW
  obtain ⟨p, q, hA0, hV, rfl, hfz, hnd⟩ := hW
  have hA : DataW.TrodAll enc Try.prog W 0 (fun _ => true) true Try.f9.params.toList args.toList ds p := hA0
  rw [Try.params9] at hA hval
  have hlt : ∀ x ∈ p ++ q, x.block < W.heap.size := fun x hx => hW'.lt x hx
  obtain ⟨v0, v1, d0, d1, p0, p1, rfl, rfl, rfl, h0, h1⟩ := trodAll_two hA
  obtain ⟨rfl, rfl⟩ := trodVars_none hV
  obtain ⟨m, rfl, rfl, rfl, x0⟩ := open_int Try.underlying5 (hval 0 5 v0 rfl rfl) h0
  obtain ⟨wrong, rfl, rfl, rfl⟩ := open_bool Try.underlying4 (hval 1 4 v1 rfl rfl) h1
  have rg : 0 ≤ m ∧ m ≤ 255 := by
    simp only [Lit.wf, IntKind.min, IntKind.max, IntKind.signed, IntKind.bits, Bool.and_eq_true, decide_eq_true_eq] at x0
    simp at x0
    omega
  clear hA0 hval0
  refine (walk m rg.1 rg.2 wrong W).mono fun e W' ⟨he, hg⟩ => ?_
  subst he
  exact ⟨_, rfl, post_true (tb := 4) laid readable (by kernel_rfl) Try.underlying4 rfl (fun l hl => by
    match l, hl with
    | [_, _], _ => exact ⟨rfl, rfl, rfl⟩) hW' hg⟩

theorem over : Rows.codeManyRow.holds Try.pinned (OpenSpec.ofChange Rows.codeManySpec) :=
  OpenClaim.holds_of_wide 9 Try.f9 rfl rfl rfl rfl rfl rfl rfl ⟨rfl, rfl, rfl, rfl, rfl⟩ rfl rfl rfl rfl rfl (by kernel_rfl) Try.func9 (by kernel_rfl)
    (of_decide_eq_true (by kernel_rfl)) (by unfold Func.isWrapper; first | (rw [if_pos (by decide +kernel)]; kernel_rfl) | (rw [if_neg (by decide +kernel)]; exact ⟨rfl, rfl⟩))
    (fun os started H enc _ => lifted os started H enc)

theorem proved : Rows.CodeManySaid :=
  over
#print axioms proved
end Go.Proofs.Ytaegekmfndcflaa.codeMany
