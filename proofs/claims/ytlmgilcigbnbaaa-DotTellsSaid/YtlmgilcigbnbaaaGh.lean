/- Contract of the program's Point: square ones. -/
import Derived.Test.YtlmgilcigbnbaaaGf
namespace Go.Proofs.Ytlmgilcigbnbaaa
open Go.ChangeShapes Go.WideShapes Go.ChangeAt Go.RowKit
set_option linter.unusedVariables false
set_option linter.unusedSimpArgs false

set_option maxRecDepth 100000 in
set_option maxHeartbeats 64000000 in
theorem ppoint0 (v : Nat → Int) (s k : Int) (hk : ¬ k = 1) (hk2 : ¬ k = 2) (r : Nat → Int) (hr : DT.right v s k = true) (hs : RC.area r ≤ 100000) (w : World) : Calls Try.prog 14 #[arr 7 v, .int .i64 s, .int .i64 k, arr 4 r] w (RetG w (DT.pt v s k r)) := by
  have O := Held.start w [] (by simp)
  have CR := fun w => pright19_any v s k w
  rw [hr] at CR
  rw [DT.pt_look hr]
  obtain ⟨hf, hsz, hkd⟩ := DT.right_iff.1 hr
  obtain ⟨l0, l1, -⟩ := VM.fit_lim hf
  have CBR := fun w => pbrush0 v s k hk hk2 w
  have CF : Hid (∀ x y, (-4194304 ≤ x ∧ x ≤ 4194304) → (-4194304 ≤ y ∧ y ≤ 4194304) → ∀ (q : Nat → Int) (g7 g3 g4 : Nat) w, HasB q (DT.fn1 g3) g7 w → HasV v g3 w → HasS s g4 w → Calls Try.prog 34 #[.int .i64 x, .int .i64 y, .pointer (some ⟨g3, 0, none⟩)] w fun e w' => e = .returned (arr 8 (SM.fr x y (v 2) (DT.col v s k x y) (DT.cvb v s k x y))) ∧ Below w.heap.size w w') := Lib.hid (fun x y hx hy q g7 g3 g4 w fb fv fs => by
    rw [DT.col_plain hk2, show DT.cvb v s k x y = 64 from if_neg hk]
    exact ppaint1 v x y g3 w fv
)
  have e_pix : DT.pix v s k = DT.box v s := DT.pix_n hk
  have HN := Lib.hid (fun x y hx hy h => @DT.px_cvb_no v r s k x y hx hy h)
  have HY := Lib.hid (fun x y hx hy h => @DT.px_cvb_yes v r s k x y hx hy h)
  have HCL := Lib.hid (fun x y => DT.cvb_lim v s k x y)
  have HQ := DT.look_ok r (DT.pix v s k)
  have HAR := DT.look_area (r := r) (p := DT.pix v s k) (n := 100000) (by decide) hs
  have CA := fun w => prand18 r (DT.pix v s k) w
  rw [e_pix] at CA HN HY HQ HAR ⊢
  generalize DT.box v s = bx at *

  generalize RC.both r bx = Q at *
  have HLEN := Lib.hid (fun x y hx hy => Nat.le_trans (SM.part_len (f := DT.px v s k) (x0 := Q 0) (x1 := Q 2) (y0 := Q 1) (y1 := Q 3) (x := x) (y := y) (DT.px_len v s k) hx hy) (show _ ≤ 100000 by omega))
  obtain ⟨q0, eq0⟩ : ∃ z, Q 0 = z := ⟨_, rfl⟩
  have Cq0 := cell_is (n := 4) eq0 (by decide)
  obtain ⟨q1, eq1⟩ : ∃ z, Q 1 = z := ⟨_, rfl⟩
  have Cq1 := cell_is (n := 4) eq1 (by decide)
  obtain ⟨q2, eq2⟩ : ∃ z, Q 2 = z := ⟨_, rfl⟩
  have Cq2 := cell_is (n := 4) eq2 (by decide)
  obtain ⟨q3, eq3⟩ : ∃ z, Q 3 = z := ⟨_, rfl⟩
  have Cq3 := cell_is (n := 4) eq3 (by decide)
  simp only [eq0, eq1, eq2, eq3] at HLEN HN HY HQ ⊢
  obtain ⟨v2, ev2⟩ : ∃ z, v 2 = z := ⟨_, rfl⟩
  simp only [ev2] at HY CF
  have HP := Lib.hid (fun y x (h : q0 ≤ x) => SM.part_step (f := DT.px v s k) (x0 := q0) (x1 := q2) (y0 := q1) (y := y) (x := x) h)
  have HW := Lib.hid (fun y (h : q1 ≤ y) => SM.part_row (f := DT.px v s k) (x0 := q0) (x1 := q2) (y0 := q1) (y := y) h)
  have HE := Lib.hid (SM.part_end (f := DT.px v s k) (x0 := q0) (x1 := q2) (y0 := q1) (y := q3))
  have H0 := Lib.hid (SM.part_start (f := DT.px v s k) (x0 := q0) (x1 := q2) (y0 := q1))
  have HRL := Lib.hid HQ
  generalize SM.part (DT.px v s k) q0 q2 q1 = PT at *
  generalize SM.rows (DT.px v s k) q0 q2 q1 q3 = TOT at *
  generalize DT.px v s k = PXL at *
  generalize DT.cvb v s k = cvf at *
  generalize DT.col v s k = clf at *
  have hcf : ∀ args w, (callFunc 34 args).run Try.prog w = .ok (.enter 34 args) w := enters_of Try.func34 (by kernel_rfl) rfl
  clear hr hs hf hsz hkd l0 l1 HQ HAR e_pix eq0 eq1 eq2 eq3 ev2 hk hk2
  go_enter Try.func14, Try.ntmps14
  go_wp2_with (first | ((with_reducible refine at_box 4 ?_); refine wpList_box_h O (M.mat 7 (v)) rfl ?_; clear O; intro gv w1 O) | ((with_reducible refine at_box 7 ?_); refine wpList_box_h O (M.mat 4 (r)) rfl ?_; clear O; intro gr w2 O) | ((with_reducible refine at_load 14 ?_); refine wpList_rowg_h rfl O 1 rfl rfl Try.underlying25 rfl (sW _) ?_) | (go_at_call 9; refine (CR _).mono ?_; rintro e w3 ⟨rfl, hb⟩; replace O := O.call hb; clear hb) | ((with_reducible refine at_load 19 ?_); refine wpList_rowg_h rfl O 1 rfl rfl Try.underlying25 rfl (sW _) ?_) | (go_at_call 25; refine (CBR _).mono ?_; rintro e w4 ⟨g3, g4, g6, g7, rfl, C⟩; replace O : Held w w4 [(g7, 54, DT.br bx (DT.fn1 g3)), (g6, 54, DT.br bx (DT.fn1 g3)), (g4, 3, [.int .i64 s]), (g3, 25, M.mat 7 v), (gr, 27, M.mat 4 r), (gv, 25, M.mat 7 v)] nilRow [] := Held.join18 O C; clear C) | ((with_reducible refine at_alloc 9 ?_); refine wpList_alloc_h O (DT.br M.zero .nilFunc) zeroB ?_; clear O; intro g9 w5 O) | ((with_reducible refine at_store 9 ?_); refine wpList_put_h O 0 (DT.br bx (DT.fn1 g3)) rfl rfl rfl (sB _ _) (DT.br_len2 _ _ _ _) (DT.br_one _ _ rfl) ?_; clear O; intro w6 O) | ((with_reducible refine at_load 23 ?_); refine wpList_rowg_h rfl O 5 rfl rfl Try.underlying27 rfl (sR _) ?_) | ((with_reducible refine at_load 25 ?_); refine wpList_mid_h rfl O 0 rfl (M.mat 4 bx) (DT.br_rect _ _) rfl Try.underlying27 rfl (sR _) ?_) | (go_at_call 26; refine (CA _).mono ?_; rintro e w7 ⟨rfl, hb⟩; replace O := O.call hb; clear hb) | ((with_reducible refine at_store 7 ?_); refine wpList_put_h O 5 (M.mat 4 (Q)) rfl rfl rfl (sR _) (M.mat_len2 _ _ _) (M.mat_one _ _) ?_; clear O; intro w8 O) | ((with_reducible refine at_load 28 ?_); refine wpList_cell_h (v := .int .i64 (q1)) rfl O 5 rfl Cq1.out rfl agg3 rfl ?_))
  have OX : Held w w8 [(g9, 54, DT.br bx (DT.fn1 g3)), (g7, 54, DT.br bx (DT.fn1 g3)), (g6, 54, DT.br bx (DT.fn1 g3)), (g4, 3, [.int .i64 s]), (g3, 25, M.mat 7 v), (gr, 27, M.mat 4 Q), (gv, 25, M.mat 7 v)] nilRow [] := O
  have OO : Held w w8 [(g9, 54, DT.br bx (DT.fn1 g3)), (g7, 54, DT.br bx (DT.fn1 g3)), (g6, 54, DT.br bx (DT.fn1 g3)), (g4, 3, [.int .i64 s]), (g3, 25, M.mat 7 v), (gr, 27, M.mat 4 Q), (gv, 25, M.mat 7 v)] (gR none 0 []) [] := OX.fresh 40 8
  clear O OX
  have O := OO
  clear OO CR CBR CA
  go_loopw [10, 11] (fun u t_ wr => ∃ (y : Int) (A : Option Addr) (c : Nat), q1 ≤ y ∧ y ≤ q3 ∧ u = .slice A (PT y q0).length c ∧ t_ = .int .i64 y ∧ Held w wr [(g9, 54, DT.br bx (DT.fn1 g3)), (g7, 54, DT.br bx (DT.fn1 g3)), (g6, 54, DT.br bx (DT.fn1 g3)), (g4, 3, [.int .i64 s]), (g3, 25, M.mat 7 v), (gr, 27, M.mat 4 Q), (gv, 25, M.mat 7 v)] (gR A c (PT y q0)) []) (fun _ t_ _ => (q3 - intOf t_).toNat)
  case atStart => exact ⟨q1, none, 0, Int.le_refl _, by have := HRL.out.2.2; omega, by rw [H0.out]; rfl, rfl, by rw [H0.out]; exact O⟩
  case round =>
    clear O
    obtain ⟨y, A0, c0, y0, y1, rfl, rfl, O⟩ := hrel
    by_cases hly : y < q3
    · have b1 := HRL.out
      have Wy : wrap64 (y + 1) = y + 1 := IntWalk.wrap64_in _ (by omega)
      clear b1
      go_wp2_with (first | ((with_reducible refine at_load 31 ?_); refine wpList_cell_h (v := .int .i64 (q3)) rfl O 5 rfl Cq3.out rfl agg3 rfl ?_) | ((with_reducible refine at_load 36 ?_); refine wpList_cell_h (v := .int .i64 (q0)) rfl O 5 rfl Cq0.out rfl agg3 rfl ?_))
      go_loopw [10, 12] (fun u t_ wr => ∃ (x : Int) (A : Option Addr) (c : Nat), q0 ≤ x ∧ x ≤ q2 ∧ u = .slice A (PT y x).length c ∧ t_ = .int .i64 x ∧ Held w wr [(g9, 54, DT.br bx (DT.fn1 g3)), (g7, 54, DT.br bx (DT.fn1 g3)), (g6, 54, DT.br bx (DT.fn1 g3)), (g4, 3, [.int .i64 s]), (g3, 25, M.mat 7 v), (gr, 27, M.mat 4 Q), (gv, 25, M.mat 7 v)] (gR A c (PT y x)) []) (fun _ t_ _ => (q2 - intOf t_).toNat)
      case atStart => exact ⟨q0, A0, c0, Int.le_refl _, by have := HRL.out.2.1; omega, rfl, rfl, O⟩
      case round =>
        clear O
        obtain ⟨x, A, c, x0, x1, rfl, rfl, O⟩ := hrel
        by_cases hlx : x < q2
        · have b1 := HRL.out
          have Wx : wrap64 (x + 1) = x + 1 := IntWalk.wrap64_in _ (by omega)
          have hlen := HLEN.out x y ⟨x0, x1⟩ ⟨y0, hly⟩
          have HPx := HP.out y x x0
          obtain ⟨LL, hLL⟩ : ∃ LL, PT y x = LL := ⟨_, rfl⟩
          rw [hLL] at O hlen HPx ⊢
          have HLk : Hid (LL.length + 1 ≤ 1000000000) := Lib.hid (by omega)
          have HNx := HN.out x y ⟨x0, hlx⟩ ⟨y0, hly⟩
          have HYx := HY.out x y ⟨x0, hlx⟩ ⟨y0, hly⟩
          have CFx := CF.out x y (by omega) (by omega)
          have hn0 := HCL.out x y
          obtain ⟨n, hn⟩ : ∃ n, cvf x y = n := ⟨_, rfl⟩
          obtain ⟨cl_, hcl⟩ : ∃ c, clf x y = c := ⟨_, rfl⟩
          rw [hn] at HNx hn0
          rw [hn, hcl] at HYx
          simp only [hn, hcl] at CFx
          clear b1 hLL hlen hn hcl
          by_cases hz : n = 0
          · have K3 : decide (n > 0) = false := by simp; omega
            have K4 : decide (0 < n) = false := by simp; omega
            have HR := Lib.hid (HPx.trans (by rw [HNx hz, List.append_nil]))
            clear HPx HNx HYx hz hn0
            go_wp2_with (first | ((with_reducible refine at_load 39 ?_); refine wpList_cell_h (v := .int .i64 (q2)) rfl O 5 rfl Cq2.out rfl agg3 rfl ?_) | ((with_reducible refine at_load 44 ?_); refine wpList_cell_h (v := .func (.func 34) #[] #[.pointer (some ⟨g3, 0, none⟩)]) rfl O 0 rfl (DT.br_fn _ _) rfl agg52 rfl ?_) | (go_at_call 34; refine (CFx bx g7 g3 g4 _ (O.blk 1 rfl) (O.blk 4 rfl) (O.blk 3 rfl)).mono ?_; rintro e w11 ⟨rfl, hb⟩; replace O := O.call hb; clear hb) | ((with_reducible refine at_alloc 13 ?_); refine wpList_alloc_h O (M.mat 8 M.zero) zeroG ?_; clear O; intro g13 w12 O) | ((with_reducible refine at_store 13 ?_); refine wpList_put_h O 0 (M.mat 8 (SM.fr x y v2 cl_ n)) rfl rfl rfl (sG _) (M.mat_len2 _ _ _) (M.mat_one _ _) ?_; clear O; intro w13 O) | ((with_reducible refine at_load 49 ?_); refine wpList_cell_h (v := .int .i64 n) rfl O 0 rfl rfl rfl agg3 rfl ?_))
            go_roundw
            case rel => exact ⟨x + 1, A, c, by omega, by omega, by rw [HR.out], by first | rfl | exact congrArg (Value.int IntKind.i64) Wx, by rw [HR.out]; exact O.tail⟩
            case measure => first | (rw [Wx]; simp only [intOf]; omega) | (simp only [intOf]; omega)
          · have K3 : decide (n > 0) = true := by simp; omega
            have K4 : decide (0 < n) = true := by simp; omega
            have HR := Lib.hid (HPx.trans (by rw [HYx hz]))
            clear HPx HNx HYx hz hn0
            go_wp2_with (first | ((with_reducible refine at_load 39 ?_); refine wpList_cell_h (v := .int .i64 (q2)) rfl O 5 rfl Cq2.out rfl agg3 rfl ?_) | ((with_reducible refine at_load 44 ?_); refine wpList_cell_h (v := .func (.func 34) #[] #[.pointer (some ⟨g3, 0, none⟩)]) rfl O 0 rfl (DT.br_fn _ _) rfl agg52 rfl ?_) | (go_at_call 34; refine (CFx bx g7 g3 g4 _ (O.blk 1 rfl) (O.blk 4 rfl) (O.blk 3 rfl)).mono ?_; rintro e w11 ⟨rfl, hb⟩; replace O := O.call hb; clear hb) | ((with_reducible refine at_alloc 13 ?_); refine wpList_alloc_h O (M.mat 8 M.zero) zeroG ?_; clear O; intro g13 w12 O) | ((with_reducible refine at_store 13 ?_); refine wpList_put_h O 0 (M.mat 8 (SM.fr x y v2 cl_ n)) rfl rfl rfl (sG _) (M.mat_len2 _ _ _) (M.mat_one _ _) ?_; clear O; intro w13 O) | ((with_reducible refine at_load 49 ?_); refine wpList_cell_h (v := .int .i64 n) rfl O 0 rfl rfl rfl agg3 rfl ?_) | ((with_reducible refine at_load 52 ?_); refine wpList_rowg_h rfl O 0 rfl rfl Try.underlying40 rfl (sG _) ?_) | ((with_reducible refine at_lit 53 ?_); refine wpList_lit_h rfl O 8 (.agg (M.mat 8 M.zero).toArray) infoG Try.underlying35 [(0, arr 8 (SM.fr x y v2 cl_ n))] (gC [SM.fr x y v2 cl_ n]) rfl (gC_len _) (by decide) (by decide) (by kernel_rfl) ?_; clear O; intro g89 u5 O) | ((with_reducible refine at_app 54 ?_); refine wpList_app_huge rfl O (.agg (M.mat 8 M.zero).toArray) 64 infoGb rfl (Nat.succ_pos _) Try.underlying35 rfl (gE w.heap.size (some ⟨g89, 0, none⟩) 1 [SM.fr x y v2 cl_ n]) (O.mem List.mem_cons_self) rfl rfl (gC_one _) (HLk.out) (by decide) ?_; clear O; intro va u6 O; obtain ⟨TA, Tc, e1, O2⟩ := gR_of (l := LL) (m := [SM.fr x y v2 cl_ n]) rfl (O.pick (es' := []) (fun y hy => List.mem_cons_of_mem _ hy)); subst e1; clear O; have O := O2; clear O2))
            go_roundw
            case rel => exact ⟨x + 1, TA, Tc, by omega, by omega, by rw [HR.out]; first | done | rfl | simp, by first | rfl | exact congrArg (Value.int IntKind.i64) Wx, by rw [HR.out]; exact O.tail⟩
            case measure => first | (rw [Wx]; simp only [intOf]; omega) | (simp only [intOf]; omega)
        · have hxe : x = q2 := by omega
          have HR := Lib.hid (show PT y x = PT (y + 1) q0 by rw [hxe]; exact HW.out y y0)
          clear hxe
          go_wp2_with ((with_reducible refine at_load 39 ?_); refine wpList_cell_h (v := .int .i64 (q2)) rfl O 5 rfl Cq2.out rfl agg3 rfl ?_)
          go_roundw
          case rel => first | exact ⟨y + 1, A, c, by omega, by omega, by rw [HR.out], by first | rfl | exact congrArg (Value.int IntKind.i64) Wy, by rw [← HR.out]; exact O⟩ | ((repeat apply Exists.intro); exact ⟨⟨y + 1, A, c, by omega, by omega, by rw [HR.out], by first | rfl | exact congrArg (Value.int IntKind.i64) Wy, by rw [← HR.out]; exact O⟩, rfl⟩)
          case measure => first | (rw [Wy]; simp only [intOf]; omega) | (simp only [intOf]; omega)
    · have hye : y = q3 := by omega
      have HE2 := Lib.hid (show PT y q0 = TOT by rw [hye]; exact HE.out)
      clear hye
      go_wp2_with ((with_reducible refine at_load 31 ?_); refine wpList_cell_h (v := .int .i64 (q3)) rfl O 5 rfl Cq3.out rfl agg3 rfl ?_)
      obtain ⟨A2, c2, hv, OD⟩ := O.done
      dsimp only [gR] at hv OD
      injection hv with e1 e2 e3
      subst e1 e3
      go_ret
      exact ⟨A0, c0, by rw [← HE2.out]; rfl, by rw [← HE2.out]; exact OD.arg List.mem_cons_self, O.below⟩
end Go.Proofs.Ytlmgilcigbnbaaa
