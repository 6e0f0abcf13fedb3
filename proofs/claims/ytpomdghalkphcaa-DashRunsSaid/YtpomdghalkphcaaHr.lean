/- Contract: the document's Runs. -/
import Derived.Test.YtpomdghalkphcaaHd
import Derived.Test.YtpomdghalkphcaaHw
namespace Go.Proofs.Ytpomdghalkphcaa
open Go.ChangeShapes Go.WideShapes Go.ChangeAt Go.RowKit
set_option linter.unusedVariables false
set_option linter.unusedSimpArgs false

set_option maxRecDepth 100000 in
set_option maxHeartbeats 16000000 in
theorem rruns_any (d : Nat → Int) (hr : HM.right d = true) (n : Nat) (hn : n ≤ 65536) (w : World) : Calls Try.prog 17 #[arr 3 d, .int .i64 (n : Int)] w (RetT w (HM.runs (fun k : Nat => HM.litF d k) n)) := by
  have O := Held.start w [] (by simp)
  have C := fun (k : Nat) (hk : k ≤ 65536) w => rlit_any d k hr (by omega) w
  replace C := Lib.hid C
  obtain ⟨f, hf⟩ : ∃ f : Nat → Bool, (fun k : Nat => HM.litF d k) = f := ⟨_, rfl⟩
  have HF : Hid (∀ k : Nat, HM.litF d k = f k) := Lib.hid (fun k => congrFun hf k)
  rw [hf]
  have HL := Lib.hid (fun k => HM.runs_len f k)
  clear hf hr
  go_enter Try.func17, Try.ntmps17
  go_wp2_with ((with_reducible refine at_box 2 ?_); refine wpList_box_h O (M.mat 3 (d)) rfl ?_; clear O; intro g2 w1 O)
  have O := O.fresh 33 2
  go_loopw [5, 6] (fun t5 t6 wr => ∃ (k : Nat) (A : Option Addr) (c : Nat), k ≤ n ∧ t5 = .slice A (HM.runs f k).length c ∧ t6 = .int .i64 (k : Int) ∧ Held w wr [(g2, 23, M.mat 3 d)] (tR A c (HM.runs f k)) []) (fun t5 t6 _ => n - (intOf t6).toNat)
  case atStart => exact ⟨0, none, 0, Nat.zero_le _, rfl, rfl, O⟩
  case round =>
    clear O
    obtain ⟨k, A, c, hk, rfl, rfl, O⟩ := hrel
    have q0 : (0 : Int) ≤ k := by omega
    have hlen := HL.out k
    by_cases hlt : k < n
    · have q1 : (k : Int) < n := by omega
      have CK := C.out k (by omega)
      rw [HF.out k] at CK
      have W1 : wrap64 ((k : Int) + 1) = (k : Int) + 1 := IntWalk.wrap64_in _ (by omega)
      cases hf : f k
      · rw [hf] at CK
        have HR := Lib.hid (HM.runs_none hf)
        clear hf hlen
        go_wp2_with (first | ((with_reducible refine at_load 12 ?_); refine wpList_rowg_h rfl O 0 rfl rfl Try.underlying23 rfl (sH _) ?_) | (go_at_call 12; refine (CK _).mono ?_; rintro e w3 ⟨rfl, hb⟩; replace O := O.call hb; clear hb))
        go_roundw
        case rel => exact ⟨k + 1, A, c, by omega, by rw [HR.out], by go_num, by rw [HR.out]; exact O⟩
        case measure => simp only [intOf]; omega
      · rw [hf] at CK
        have HFK := Lib.hid hf
        clear hf
        rcases List.eq_nil_or_concat (HM.runs f k) with hr | ⟨l, z, hr⟩
        · have HR := Lib.hid (HM.runs_nil HFK.out hr)
          rw [hr] at O
          rw [hr, List.length_nil]
          clear hr hlen
          go_wp2_with (first | ((with_reducible refine at_load 12 ?_); refine wpList_rowg_h rfl O 0 rfl rfl Try.underlying23 rfl (sH _) ?_) | (go_at_call 12; refine (CK _).mono ?_; rintro e w3 ⟨rfl, hb⟩; replace O := O.call hb; clear hb) | ((with_reducible refine at_build 44 ?_); refine wpList_build_g rfl ([(0, .int .i64 k), (1, .int .i64 (k + 1))]) ((M.mat 2 (HM.t2 k (k + 1))).toArray) ?_ (builtD _ _) ?_; (focus (simp only [List.map_toArray, List.map_cons, List.map_nil]; rfl))) | ((with_reducible refine at_lit 45 ?_); refine wpList_lit_h rfl O 2 (.agg (M.mat 2 M.zero).toArray) infoD Try.underlying31 [(0, arr 2 (HM.t2 k (k + 1)))] (tC [(k, k + 1)]) rfl (tC_len _) (by decide) (by decide) (by kernel_rfl) ?_; clear O; intro gl u5 O) | ((with_reducible refine at_app 46 ?_); refine wpList_app_big rfl O (.agg (M.mat 2 M.zero).toArray) 16 infoDb rfl (Nat.succ_pos _) Try.underlying31 rfl (tE w.heap.size (some ⟨gl, 0, none⟩) 1 [(k, k + 1)]) (O.mem List.mem_cons_self) rfl rfl (tC_one _) (by dsimp only [tE, tR]; simp) (by decide) ?_; clear O; intro va u6 O; obtain ⟨TA, Tc, e1, O2⟩ := tR_of (l := []) (m := [(k, k + 1)]) rfl (O.pick (es' := []) (fun y hy => by cases hy)); subst e1; clear O; have O := O2; clear O2))
          go_roundw
          case rel => exact ⟨k + 1, TA, Tc, by omega, by rw [HR.out]; rfl, by go_num, by rw [HR.out]; exact O⟩
          case measure => simp only [intOf]; omega
        · rw [List.concat_eq_append] at hr
          have HON := Lib.hid (fun hz => HM.runs_on HFK.out hr hz)
          have HNEW := Lib.hid (fun hz => HM.runs_new HFK.out hr hz)
          have hl2 : (l ++ [z]).length = l.length + 1 := by simp
          rw [hr] at O
          rw [hr, hl2]
          rw [hr, hl2] at hlen
          clear hr
          have HE := Lib.hid (tC_end l z)
          have HS := Lib.hid (fun k => tC_on l z k)
          obtain ⟨z1, z2⟩ := z
          dsimp only at HON HNEW HE HS
          have O9 : Held w wr [(g2, 23, M.mat 3 d)] ⟨.slice A (l.length + 1) c, 33, 2, l.length + 1, tC (l ++ [(z1, z2)])⟩ [] := by
            rw [← hl2]
            exact O
          clear O
          have O := O9
          clear O9
          have HX := Lib.hid hl2
          clear hl2
          obtain ⟨N, hN⟩ : ∃ N, l.length = N := ⟨_, rfl⟩
          rw [hN] at O HE HS hlen ⊢
          have HN := Lib.hid hN
          clear hN
          have W2 : wrap64 (((N + 1 : Nat) : Int) - 1) = (N : Int) := by rw [show ((N + 1 : Nat) : Int) - 1 = (N : Int) by omega]; exact IntWalk.wrap64_in _ (by omega)
          have W3 : wrap64 ((N : Int) + 1 - 1) = (N : Int) := by rw [show (N : Int) + 1 - 1 = (N : Int) by omega]; exact IntWalk.wrap64_in _ (by omega)
          have W4 : wrap64 (N : Int) = (N : Int) := IntWalk.wrap64_in _ (by omega)
          have p1 : (0 : Int) < ((N + 1 : Nat) : Int) := by omega
          have p2 : (0 : Int) < (N : Int) + 1 := by omega
          have HLEN := Lib.hid hlen
          clear hlen
          by_cases he : z2 = k
          · subst he
            have c1 : ((z2 : Int) == (z2 : Int)) = true := by simp
            have HR := Lib.hid (HON.out rfl)
            have IW1 : Hid (IntKind.i64.wrap ((z2 : Int) + 1) = (z2 : Int) + 1) := Lib.hid (IntWalk.i64_in _ (by omega))
            have IW4 : Hid (IntKind.i64.wrap (N : Int) = (N : Int)) := Lib.hid (IntWalk.i64_in _ (by have h8 := HLEN.out; omega))
            have IW3 : Hid (IntKind.i64.wrap ((N : Int) + 1 - 1) = (N : Int)) := Lib.hid (by have h8 := HLEN.out; rw [show (N : Int) + 1 - 1 = (N : Int) by omega]; exact IntWalk.i64_in _ (by omega))
            go_wp2_with (first | ((with_reducible refine at_load 12 ?_); refine wpList_rowg_h rfl O 0 rfl rfl Try.underlying23 rfl (sH _) ?_) | (go_at_call 12; refine (CK _).mono ?_; rintro e w3 ⟨rfl, hb⟩; replace O := O.call hb; clear hb) | ((with_reducible refine at_index_ 24 ?_); refine wpList_at_h rfl Try.underlying31 sizeOfD _ O.rowLies rfl N rfl (by first | rfl | exact W2 | exact W3 | omega) (by omega) rfl ?_) | ((with_reducible refine at_index_ 25 ?_); refine wpList_ina rfl Try.underlying33 sizeOf3 (by decide) 1 rfl rfl rfl (by decide) ?_) | ((with_reducible refine at_load 26 ?_); refine wpList_ecell_h rfl _ O.rowLies (N * 2 + 1) HE.out (by rw [← adr_two]; rfl) agg3 rfl ?_))
            have OO := O
            clear O
            have O := OO
            clear OO
            refine region_T ((fun w2 => Held w w2 [(g2, 23, M.mat 3 d)] ⟨.slice A (N + 1) c, 33, 2, N + 1, tC (l ++ [(z1, z2)])⟩ [])) [0, 1, 2, 3, 4, 5, 6, 7, 8, 9] 12 [some 30, some 31, some 32, some 33, some 34, some 35, some 36, some 37, some 38, some 39] [.slice A (N + 1) c, .slice A (N + 1) c, .int .i64 ((N : Int) + 1), .int .i64 (N : Int), .pointer (some ((adr A).add (N * 2))), .pointer (some ((adr A).add (N * 2 + 1))), .int .i64 (z2 : Int), .int .i64 ((z2 : Int) + 1), .pointer (some ((adr A).add (N * 2))), .pointer (some ((adr A).add (N * 2 + 1)))] 1 (by kernel_rfl) (by rfl) (by kernel_rfl) (by rfl) (by rfl) (O.drew) (fun F hF => ?_)
            simp only [fillD, Act.put, List.setIfInBounds_toArray, List.set_cons_zero, List.set_cons_succ] at hF
            subst hF
            refine ⟨⟨does_want rfl (by rfl) (fun w' O K hK => ?_), does_want rfl (by rfl) (fun w' O K hK => ?_), does_want rfl (by rfl) (fun w' O K hK => ?_), does_want rfl (by rfl) (fun w' O K hK => ?_), does_want rfl (by rfl) (fun w' O K hK => ?_), does_want rfl (by rfl) (fun w' O K hK => ?_), does_want rfl (by rfl) (fun w' O K hK => ?_), does_want rfl (by rfl) (fun w' O K hK => ?_), does_want rfl (by rfl) (fun w' O K hK => ?_), does_want rfl (by rfl) (fun w' O K hK => ?_), trivial⟩, fun w' O => ?_⟩
            · go_simp
              exact hK _ O
            · go_simp
              exact hK _ O
            · go_simp
              exact hK _ O
            · go_simp
              first | exact hK _ O | (rw [IW3.out]; exact hK _ O) | (rw [IW4.out]; exact hK _ O)
            · exact wp_at_h Try.underlying31 sizeOfD _ O.rowLies rfl N rfl rfl (by omega) rfl (hK _ O)
            · exact wp_ina Try.underlying33 sizeOf3 (by decide) 1 rfl rfl rfl (by decide) (by rw [adr_two]; exact hK _ O)
            · exact wp_ecell_h _ O.rowLies (N * 2 + 1) HE.out rfl agg3 rfl (hK _ O)
            · go_simp
              first | exact hK _ O | (rw [IW1.out]; exact hK _ O) | (simp only [IW1.out]; exact hK _ O)
            · exact wp_at_h Try.underlying31 sizeOfD _ O.rowLies rfl N rfl rfl (by omega) rfl (hK _ O)
            · exact wp_ina Try.underlying33 sizeOf3 (by decide) 1 rfl rfl rfl (by decide) (by rw [adr_two]; exact hK _ O)
            refine wpAny_want (i := 10) (by kernel_rfl) rfl (by rfl) (fun K hK => ?_)
            refine wp_rowset_h O (N * 2 + 1) (.int .i64 ((z2 : Int) + 1)) (List.getElem?_eq_some_iff.1 HE.out).1 rfl rfl size3 rfl rfl fun w9 O9 => hK _ _ ?_
            clear O
            have O := O9
            clear O9
            clear hK K
            try simp only [Act.put, List.setIfInBounds_toArray, List.set_cons_zero, List.set_cons_succ]
            refine wpAny_done (by kernel_rfl) ?_ _
            have O2 : Held w w9 [(g2, 23, M.mat 3 d)] (tR A c (l ++ [(z1, z2 + 1)])) [] := by
              have h5 := O
              rw [show (.int .i64 ((z2 : Int) + 1) : Value) = .int .i64 ((z2 + 1 : Nat) : Int) from rfl, HS.out (z2 + 1)] at h5
              unfold tR
              rw [List.length_append, HN.out]
              exact h5
            clear O
            have O := O2
            clear O2
            go_wp2_with fail
            go_roundw
            case rel => exact ⟨z2 + 1, A, c, by omega, by rw [HR.out, List.length_append, HN.out]; rfl, by go_num, by rw [HR.out]; exact O⟩
            case measure => simp only [intOf]; omega
          · have c1 : ((z2 : Int) == (k : Int)) = false := by rw [beq_eq_false_iff_ne]; omega
            have HR := Lib.hid (HNEW.out he)
            go_wp2_with (first | ((with_reducible refine at_load 12 ?_); refine wpList_rowg_h rfl O 0 rfl rfl Try.underlying23 rfl (sH _) ?_) | (go_at_call 12; refine (CK _).mono ?_; rintro e w3 ⟨rfl, hb⟩; replace O := O.call hb; clear hb) | ((with_reducible refine at_index_ 24 ?_); refine wpList_at_h rfl Try.underlying31 sizeOfD _ O.rowLies rfl N rfl (by first | rfl | exact W2 | exact W3 | omega) (by omega) rfl ?_) | ((with_reducible refine at_index_ 25 ?_); refine wpList_ina rfl Try.underlying33 sizeOf3 (by decide) 1 rfl rfl rfl (by decide) ?_) | ((with_reducible refine at_load 26 ?_); refine wpList_ecell_h rfl _ O.rowLies (N * 2 + 1) HE.out (by rw [← adr_two]; rfl) agg3 rfl ?_) | ((with_reducible refine at_build 44 ?_); refine wpList_build_g rfl ([(0, .int .i64 k), (1, .int .i64 (k + 1))]) ((M.mat 2 (HM.t2 k (k + 1))).toArray) ?_ (builtD _ _) ?_; (focus (simp only [List.map_toArray, List.map_cons, List.map_nil]; rfl))) | ((with_reducible refine at_lit 45 ?_); refine wpList_lit_h rfl O 2 (.agg (M.mat 2 M.zero).toArray) infoD Try.underlying31 [(0, arr 2 (HM.t2 k (k + 1)))] (tC [(k, k + 1)]) rfl (tC_len _) (by decide) (by decide) (by kernel_rfl) ?_; clear O; intro gl u5 O) | ((with_reducible refine at_app 46 ?_); refine wpList_app_big rfl O (.agg (M.mat 2 M.zero).toArray) 16 infoDb rfl (Nat.succ_pos _) Try.underlying31 rfl (tE w.heap.size (some ⟨gl, 0, none⟩) 1 [(k, k + 1)]) (O.mem List.mem_cons_self) rfl rfl (tC_one _) (by have h8 := HLEN.out; show N + 1 + 1 ≤ 1000000; omega) (by decide) ?_; clear O; intro va u6 O; obtain ⟨TA, Tc, e1, O2⟩ := tR_of (l := l ++ [(z1, z2)]) (m := [(k, k + 1)]) (by show N + 1 + 1 = (l ++ [(z1, z2)]).length + 1; rw [List.length_append, HN.out]; rfl) (O.pick (es' := []) (fun y hy => by cases hy)); subst e1; clear O; have O := O2; clear O2))
            go_roundw
            case rel => exact ⟨k + 1, TA, Tc, by omega, by rw [HR.out]; simp, by go_num, by rw [HR.out]; exact O⟩
            case measure => simp only [intOf]; omega
    · have q1 : ¬ (k : Int) < n := by omega
      obtain rfl : k = n := by omega
      go_wp2_with fail
      go_ret
      exact retT_done O
end Go.Proofs.Ytpomdghalkphcaa
