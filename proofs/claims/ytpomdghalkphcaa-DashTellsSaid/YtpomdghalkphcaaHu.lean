/- Contract: the program's Runs. -/
import Derived.Test.YtpomdghalkphcaaHp
import Derived.Test.YtpomdghalkphcaaHg
namespace Go.Proofs.Ytpomdghalkphcaa
open Go.ChangeShapes Go.WideShapes Go.ChangeAt Go.RowKit
set_option linter.unusedVariables false
set_option linter.unusedSimpArgs false

namespace HM
theorem runs_last {f : Nat → Bool} {k : Nat} {l : List (Nat × Nat)} {z : Nat × Nat} (h : runs f k = l ++ [z]) : z.2 ≤ k := ((runs_is f k).2.1 z (by rw [h]; simp)).2
end HM
set_option maxRecDepth 100000 in
set_option maxHeartbeats 16000000 in
theorem pruns_any (d : Nat → Int) (hr : HM.right d = true) (n : Nat) (hn : n ≤ 65536) (w : World) : Calls Try.prog 16 #[arr 3 d, .int .i64 (n : Int)] w (RetT w (HM.runs (fun k : Nat => HM.litF d k) n)) := by
  have O := Held.start w [] (by simp)
  have CA := fun w => asked_any d n hr (by omega) w
  have C := fun (k : Nat) (hk : k ≤ 65536) w => plitin_any d k hr (by omega) w
  replace C := Lib.hid C
  obtain ⟨f, hf⟩ : ∃ f : Nat → Bool, (fun k : Nat => HM.litF d k) = f := ⟨_, rfl⟩
  have HF : Hid (∀ k : Nat, HM.litF d k = f k) := Lib.hid (fun k => congrFun hf k)
  rw [hf]
  have HL := Lib.hid (fun k => HM.runs_len f k)
  clear hf hr
  go_enter Try.func16, Try.ntmps16
  go_wp2_with (first | ((with_reducible refine at_box 2 ?_); refine wpList_box_h O (M.mat 3 (d)) rfl ?_; clear O; intro g2 w1 O) | ((with_reducible refine at_load 7 ?_); refine wpList_rowg_h rfl O 0 rfl rfl Try.underlying23 rfl (sH _) ?_) | (go_at_call 19; refine (CA _).mono ?_; rintro e w2 ⟨rfl, hb⟩; replace O := O.call hb; clear hb))
  have O := O.fresh 33 2
  clear CA
  go_loopw [5, 12] (fun t5 t12 wr => ∃ (k : Nat) (A : Option Addr) (c : Nat), k ≤ n ∧ t5 = .slice A (HM.runs f k).length c ∧ t12 = .int .i64 (k : Int) ∧ Held w wr [(g2, 23, M.mat 3 d)] (tR A c (HM.runs f k)) []) (fun t5 t12 _ => n - (intOf t12).toNat)
  case atStart => exact ⟨0, none, 0, Nat.zero_le _, rfl, rfl, O⟩
  case round =>
    clear O
    obtain ⟨k, A, c, hk, rfl, rfl, O⟩ := hrel
    have q0 : (0 : Int) ≤ k := by omega
    have hlen := HL.out k
    by_cases hlt : k < n
    · have q1 : (k : Int) < n := by omega
      have CK := C.out k (by omega)
      rw [HF.out k] at CK
      have W1 : wrap64 ((k : Int) + 1) = (k : Int) + 1 := IntWalk.wrap64_in _ (by omega)
      cases hf : f k
      · rw [hf] at CK
        have HR := Lib.hid (HM.runs_none hf)
        clear hf hlen
        go_wp2_with (first | ((with_reducible refine at_load 15 ?_); refine wpList_rowg_h rfl O 0 rfl rfl Try.underlying23 rfl (sH _) ?_) | (go_at_call 20; refine (CK _).mono ?_; rintro e w3 ⟨rfl, hb⟩; replace O := O.call hb; clear hb))
        go_roundw
        case rel => exact ⟨k + 1, A, c, by omega, by rw [HR.out], by go_num, by rw [HR.out]; exact O⟩
        case measure => simp only [intOf]; omega
      · rw [hf] at CK
        have HFK := Lib.hid hf
        clear hf
        rcases List.eq_nil_or_concat (HM.runs f k) with hr | ⟨l, z, hr⟩
        · have HR := Lib.hid (HM.runs_nil HFK.out hr)
          rw [hr] at O
          rw [hr, List.length_nil]
          have hk6 : k ≤ 65536 := by omega
          clear hr hlen
          go_wp2_with (first | ((with_reducible refine at_load 15 ?_); refine wpList_rowg_h rfl O 0 rfl rfl Try.underlying23 rfl (sH _) ?_) | (go_at_call 20; refine (CK _).mono ?_; rintro e w3 ⟨rfl, hb⟩; replace O := O.call hb; clear hb) | (go_at_call 21; refine (grown_nil k hk6 O).mono ?_; clear O; rintro e w4 ⟨TA, Tc, rfl, O⟩))
          go_roundw
          case rel => exact ⟨k + 1, TA, Tc, by omega, by rw [HR.out]; first | done | rfl | simp, by go_num, by rw [HR.out]; first | exact O | (simpa using O) | (simpa [HEE.out] using O)⟩
          case measure => simp only [intOf]; omega
        · rw [List.concat_eq_append] at hr
          have hz := HM.runs_last hr
          have HON := Lib.hid (fun hz => HM.runs_on HFK.out hr hz)
          have HNEW := Lib.hid (fun hz => HM.runs_new HFK.out hr hz)
          have hk6 : k ≤ 65536 := by omega
          have hl6 : l.length ≤ 65536 := by
            rw [hr, List.length_append] at hlen
            omega
          rw [hr] at O
          rw [hr]
          clear hr hlen
          obtain ⟨z1, z2⟩ := z
          dsimp only at HON HNEW hz
          obtain ⟨L, hL⟩ : ∃ L, (l ++ [(z1, z2)]).length = L := ⟨_, rfl⟩
          by_cases he : z2 = k
          · have HR := Lib.hid (HON.out he)
            have CG := fun w4 (O : Held w w4 [(g2, 23, M.mat 3 d)] (tR A c (l ++ [(z1, z2)])) []) => grown_on l z1 z2 k hk6 he hl6 O
            rw [hL] at CG ⊢
            have HEE := Lib.hid he
            clear he hz hk6 hl6
            go_wp2_with (first | ((with_reducible refine at_load 15 ?_); refine wpList_rowg_h rfl O 0 rfl rfl Try.underlying23 rfl (sH _) ?_) | (go_at_call 20; refine (CK _).mono ?_; rintro e w3 ⟨rfl, hb⟩; replace O := O.call hb; clear hb) | (go_at_call 21; refine (CG _ O).mono ?_; clear O; rintro e w4 ⟨TA, Tc, rfl, O⟩))
            go_roundw
            case rel => exact ⟨k + 1, TA, Tc, by omega, by rw [HR.out]; first | done | rfl | simp, by go_num, by rw [HR.out]; first | exact O | (simpa using O) | (simpa [HEE.out] using O)⟩
            case measure => simp only [intOf]; omega
          · have HR := Lib.hid (HNEW.out he)
            have hz2 : z2 < k := by omega
            have HEE := Lib.hid he
            have CG := fun w4 (O : Held w w4 [(g2, 23, M.mat 3 d)] (tR A c (l ++ [(z1, z2)])) []) => grown_new l z1 z2 k hk6 hz2 hl6 O
            rw [hL] at CG ⊢
            clear he hz hk6 hl6 hz2
            go_wp2_with (first | ((with_reducible refine at_load 15 ?_); refine wpList_rowg_h rfl O 0 rfl rfl Try.underlying23 rfl (sH _) ?_) | (go_at_call 20; refine (CK _).mono ?_; rintro e w3 ⟨rfl, hb⟩; replace O := O.call hb; clear hb) | (go_at_call 21; refine (CG _ O).mono ?_; clear O; rintro e w4 ⟨TA, Tc, rfl, O⟩))
            go_roundw
            case rel => exact ⟨k + 1, TA, Tc, by omega, by rw [HR.out]; first | done | rfl | simp, by go_num, by rw [HR.out]; first | exact O | (simpa using O) | (simpa [HEE.out] using O)⟩
            case measure => simp only [intOf]; omega
    · have q1 : ¬ (k : Int) < n := by omega
      obtain rfl : k = n := by omega
      go_wp2_with fail
      go_ret
      exact retT_done O
end Go.Proofs.Ytpomdghalkphcaa
