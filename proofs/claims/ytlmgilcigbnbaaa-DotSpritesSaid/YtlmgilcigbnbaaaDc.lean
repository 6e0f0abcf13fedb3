/- Contract: the document's Point. -/
import Derived.Test.YtlmgilcigbnbaaaDb
import Derived.Test.YtlmgilcigbnbaaaSw
import Derived.Test.YtlmgilcigbnbaaaWr
namespace Go.Proofs.Ytlmgilcigbnbaaa
open Go.ChangeShapes Go.WideShapes Go.ChangeAt Go.RowKit
set_option linter.unusedVariables false
set_option linter.unusedSimpArgs false

namespace SM
theorem fr_set7 (x y z : Int) (c : Nat → Int) (n m : Int) : (M.mat 8 (fr x y z c n)).set 7 (.int .i64 m) = M.mat 8 (fr x y z c m) :=
  M.mat_set_to (by decide) rfl fun j hj8 hj => by
    unfold fr
    rcases (by omega : j = 0 ∨ j = 1 ∨ j = 2 ∨ j = 3 ∨ j = 4 ∨ j = 5 ∨ j = 6) with rfl | rfl | rfl | rfl | rfl | rfl | rfl <;> rfl
/-- Two numbers of the color written. -/
def c2 (c : Nat → Int) (p q : Int) (a b : Bool) (i : Nat) : Int := if i = 0 then (if a then p else c 0) else if i = 1 then (if b then q else c 1) else c i
theorem c2_00 (c : Nat → Int) (p q : Int) : c2 c p q false false = c := funext fun i => by
  unfold c2
  by_cases h : i = 0
  · subst h; rfl
  · rw [if_neg h]
    by_cases g : i = 1
    · subst g; rfl
    · rw [if_neg g]
theorem fr_set3 (x y z : Int) (c : Nat → Int) (p q n : Int) (b : Bool) : (M.mat 8 (fr x y z (c2 c p q false b) n)).set 3 (.int .i64 p) = M.mat 8 (fr x y z (c2 c p q true b) n) :=
  M.mat_set_to (by decide) rfl fun j hj8 hj => by
    rcases (by omega : j = 0 ∨ j = 1 ∨ j = 2 ∨ j = 4 ∨ j = 5 ∨ j = 6 ∨ j = 7) with rfl | rfl | rfl | rfl | rfl | rfl | rfl <;> rfl
theorem fr_set4 (x y z : Int) (c : Nat → Int) (p q n : Int) (a : Bool) : (M.mat 8 (fr x y z (c2 c p q a false) n)).set 4 (.int .i64 q) = M.mat 8 (fr x y z (c2 c p q a true) n) :=
  M.mat_set_to (by decide) rfl fun j hj8 hj => by
    rcases (by omega : j = 0 ∨ j = 1 ∨ j = 2 ∨ j = 3 ∨ j = 5 ∨ j = 6 ∨ j = 7) with rfl | rfl | rfl | rfl | rfl | rfl | rfl <;> rfl
end SM
namespace DT
theorem col_plain {v : Nat → Int} {s k x y : Int} (h : ¬ k = 2) : col v s k x y = D.sub 3 v := funext fun i => by
  unfold col D.sub
  rw [if_neg (fun e => h e.1), if_neg (fun e => h e.1)]
theorem col_sprite {v : Nat → Int} {s x y : Int} : col v s 2 x y = SM.c2 (D.sub 3 v) (part (256 * x + 128) (v 0) s) (part (256 * y + 128) (v 1) s) true true := funext fun i => by
  unfold col SM.c2 D.sub
  by_cases h : i = 0
  · subst h; rfl
  · rw [if_neg (fun e => h e.2), if_neg h]
    by_cases g : i = 1
    · subst g; rfl
    · rw [if_neg (fun e => g e.2), if_neg g]
theorem cv_round {v : Nat → Int} {s x y : Int} : cv v s 1 x y = (cov v s x y : Nat) := if_pos rfl
theorem cv_has {v : Nat → Int} {s k x y : Int} (h : ¬ k = 1) : cv v s k x y = if RC.has (box v s) x y then 64 else 0 := if_neg h
end DT
set_option maxRecDepth 100000 in
set_option maxHeartbeats 64000000 in
theorem rpoint19_any (v : Nat → Int) (s k : Int) (r : Nat → Int) (hs : RC.area r ≤ 100000) (w : World) : Calls Try.prog 15 #[arr 7 v, .int .i64 s, .int .i64 k, arr 4 r] w (RetG w (DT.pt v s k r)) := by
  have O := Held.start w [] (by simp)
  have CR := fun w => rright19_any v s k w
  have CQ := fun w => rright_any r w
  cases hr : DT.right v s k
  · rw [hr] at CR
    rw [DT.pt_bad (by rw [hr]; rfl)]
    clear hr hs CQ
    go_enter Try.func15, Try.ntmps15
    go_wp2_with (first | ((with_reducible refine at_box 4 ?_); refine wpList_box_h O (M.mat 7 (v)) rfl ?_; clear O; intro g4 w1 O) | ((with_reducible refine at_box 7 ?_); refine wpList_box_h O (M.mat 4 (r)) rfl ?_; clear O; intro g7 w2 O) | ((with_reducible refine at_load 14 ?_); refine wpList_rowg_h rfl O 1 rfl rfl Try.underlying25 rfl (sW _) ?_) | (go_at_call 10; refine (CR _).mono ?_; rintro e w3 ⟨rfl, hb⟩; replace O := O.call hb; clear hb))
    go_ret
    exact retG_nil O.below
  cases hq : RC.right r
  · rw [hr] at CR
    rw [hq] at CQ
    rw [DT.pt_bad (by rw [hq, Bool.and_false])]
    clear hr hs hq
    go_enter Try.func15, Try.ntmps15
    go_wp2_with (first | ((with_reducible refine at_box 4 ?_); refine wpList_box_h O (M.mat 7 (v)) rfl ?_; clear O; intro g4 w1 O) | ((with_reducible refine at_box 7 ?_); refine wpList_box_h O (M.mat 4 (r)) rfl ?_; clear O; intro g7 w2 O) | ((with_reducible refine at_load 14 ?_); refine wpList_rowg_h rfl O 1 rfl rfl Try.underlying25 rfl (sW _) ?_) | (go_at_call 10; refine (CR _).mono ?_; rintro e w3 ⟨rfl, hb⟩; replace O := O.call hb; clear hb) | ((with_reducible refine at_load 20 ?_); refine wpList_rowg_h rfl O 0 rfl rfl Try.underlying27 rfl (sR _) ?_) | (go_at_call 19; refine (CQ _).mono ?_; rintro e w4 ⟨rfl, hb⟩; replace O := O.call hb; clear hb))
    go_ret
    exact retG_nil O.below
  rw [hr] at CR
  rw [hq] at CQ
  rw [DT.pt_ok hr hq]
  obtain ⟨hf, hsz, hkd⟩ := DT.right_iff.1 hr
  obtain ⟨l0, l1, -⟩ := VM.fit_lim hf
  have CB := fun w => rbox19 v s w
  have CH := Lib.hid (fun x y w => rhas_any (DT.box v s) x y w)
  have CC : Hid (k = 1 → ∀ x y, (-4194304 ≤ x ∧ x ≤ 4194304) → (-4194304 ≤ y ∧ y ≤ 4194304) → ∀ w, Calls Try.prog 27 #[arr 7 v, .int .i64 s, .int .i64 x, .int .i64 y] w fun e w' => e = .returned (.int .i64 (DT.cov v s x y : Nat)) ∧ Below w.heap.size w w') := Lib.hid (fun hk x y hx hy w => rcover19 v s x y (by rw [← hk]; exact hr) hx hy w)
  have CP0 : Hid (∀ x, (-4194304 ≤ x ∧ x ≤ 4194304) → ∀ w, Calls Try.prog 28 #[.int .i64 (256 * x + 128), .int .i64 (v 0), .int .i64 s] w fun e w' => e = .returned (.int .i64 (DT.part (256 * x + 128) (v 0) s)) ∧ w' = w) := Lib.hid (fun x hx w => rpart19 (256 * x + 128) (v 0) s (by omega) l0 hsz w)
  have CP1 : Hid (∀ y, (-4194304 ≤ y ∧ y ≤ 4194304) → ∀ w, Calls Try.prog 28 #[.int .i64 (256 * y + 128), .int .i64 (v 1), .int .i64 s] w fun e w' => e = .returned (.int .i64 (DT.part (256 * y + 128) (v 1) s)) ∧ w' = w) := Lib.hid (fun y hy w => rpart19 (256 * y + 128) (v 1) s (by omega) l1 hsz w)
  have HN := Lib.hid (fun x y h => @DT.px_no v s k x y h)
  have HY := Lib.hid (fun x y h => @DT.px_yes v s k x y h)
  have HCV1 : Hid (∀ x y, k = 1 → DT.cv v s k x y = (DT.cov v s x y : Nat)) := Lib.hid (fun x y e => by rw [e]; exact DT.cv_round)
  have HCVn : Hid (∀ x y, ¬ k = 1 → DT.cv v s k x y = if RC.has (DT.box v s) x y then 64 else 0) := Lib.hid (fun x y e => DT.cv_has e)
  have HCLn : Hid (∀ x y, ¬ k = 2 → DT.col v s k x y = D.sub 3 v) := Lib.hid (fun x y e => DT.col_plain e)
  have HCL2 : Hid (∀ x y, k = 2 → DT.col v s k x y = SM.c2 (D.sub 3 v) (DT.part (256 * x + 128) (v 0) s) (DT.part (256 * y + 128) (v 1) s) true true) := Lib.hid (fun x y e => by rw [e]; exact DT.col_sprite)
  have HCO := Lib.hid (fun x y => DT.cov_le v s x y)
  obtain ⟨hrl, hrl2, hrl3⟩ := RC.right_iff.1 hq
  rw [RC.area_in hq] at hs
  have HLEN := Lib.hid (fun x y hx hy => Nat.le_trans (SM.part_len (f := DT.px v s k) (x0 := r 0) (x1 := r 2) (y0 := r 1) (y1 := r 3) (x := x) (y := y) (DT.px_len v s k) hx hy) (show _ ≤ 100000 by
    have e : (((r 2 - r 0).toNat * (r 3 - r 1).toNat : Nat) : Int) = (r 2 - r 0) * (r 3 - r 1) := by
      rw [Int.natCast_mul, Int.toNat_of_nonneg (by omega), Int.toNat_of_nonneg (by omega)]
    omega))
  generalize DT.box v s = bx at *
  obtain ⟨r0, er0⟩ : ∃ z, r 0 = z := ⟨_, rfl⟩
  have Cr0 := cell_is (n := 4) er0 (by decide)
  obtain ⟨r1, er1⟩ : ∃ z, r 1 = z := ⟨_, rfl⟩
  have Cr1 := cell_is (n := 4) er1 (by decide)
  obtain ⟨r2, er2⟩ : ∃ z, r 2 = z := ⟨_, rfl⟩
  have Cr2 := cell_is (n := 4) er2 (by decide)
  obtain ⟨r3, er3⟩ : ∃ z, r 3 = z := ⟨_, rfl⟩
  have Cr3 := cell_is (n := 4) er3 (by decide)
  obtain ⟨v0, ev0⟩ : ∃ z, v 0 = z := ⟨_, rfl⟩
  have Cv0 := cell_is (n := 7) ev0 (by decide)
  obtain ⟨v1, ev1⟩ : ∃ z, v 1 = z := ⟨_, rfl⟩
  have Cv1 := cell_is (n := 7) ev1 (by decide)
  obtain ⟨v2, ev2⟩ : ∃ z, v 2 = z := ⟨_, rfl⟩
  have Cv2 := cell_is (n := 7) ev2 (by decide)
  rw [er0, er1, er2, er3] at hrl
  rw [er0, er2] at hrl2
  rw [er1, er3] at hrl3
  simp only [er0, er1, er2, er3] at HLEN ⊢
  rw [ev0] at CP0
  rw [ev1] at CP1
  simp only [ev0, ev1] at HCL2
  simp only [ev2] at HY
  have HP := Lib.hid (fun y x (h : r0 ≤ x) => SM.part_step (f := DT.px v s k) (x0 := r0) (x1 := r2) (y0 := r1) (y := y) (x := x) h)
  have HW := Lib.hid (fun y (h : r1 ≤ y) => SM.part_row (f := DT.px v s k) (x0 := r0) (x1 := r2) (y0 := r1) (y := y) h)
  have HE := Lib.hid (SM.part_end (f := DT.px v s k) (x0 := r0) (x1 := r2) (y0 := r1) (y := r3))
  have H0 := Lib.hid (SM.part_start (f := DT.px v s k) (x0 := r0) (x1 := r2) (y0 := r1))
  have HRL := Lib.hid (And.intro hrl (And.intro hrl2 hrl3))
  generalize SM.part (DT.px v s k) r0 r2 r1 = PT at *
  generalize SM.rows (DT.px v s k) r0 r2 r1 r3 = TOT at *
  generalize DT.px v s k = PX at *
  generalize DT.cv v s k = cvf at *
  generalize DT.col v s k = clf at *
  generalize DT.cov v s = cof at *
  have HSC : Hid (∀ j u, (M.mat 4 (D.sub 3 v))[j]? = some u → (M.mat 7 v)[3 + j]? = some u) := Lib.hid (mat_sub v (by decide))
  generalize D.sub 3 v = sv at *
  clear hr hq hs hf hsz hkd l0 l1 hrl hrl2 hrl3 er0 er1 er2 er3 ev0 ev1 ev2
  go_enter Try.func15, Try.ntmps15
  go_wp2_with (first | ((with_reducible refine at_box 4 ?_); refine wpList_box_h O (M.mat 7 (v)) rfl ?_; clear O; intro g4 w1 O) | ((with_reducible refine at_box 7 ?_); refine wpList_box_h O (M.mat 4 (r)) rfl ?_; clear O; intro g7 w2 O) | ((with_reducible refine at_load 14 ?_); refine wpList_rowg_h rfl O 1 rfl rfl Try.underlying25 rfl (sW _) ?_) | (go_at_call 10; refine (CR _).mono ?_; rintro e w3 ⟨rfl, hb⟩; replace O := O.call hb; clear hb) | ((with_reducible refine at_load 20 ?_); refine wpList_rowg_h rfl O 0 rfl rfl Try.underlying27 rfl (sR _) ?_) | (go_at_call 19; refine (CQ _).mono ?_; rintro e w4 ⟨rfl, hb⟩; replace O := O.call hb; clear hb) | ((with_reducible refine at_load 24 ?_); refine wpList_rowg_h rfl O 1 rfl rfl Try.underlying25 rfl (sW _) ?_) | (go_at_call 12; refine (CB _).mono ?_; rintro e w5 ⟨rfl, hb⟩; replace O := O.call hb; clear hb) | ((with_reducible refine at_alloc 10 ?_); refine wpList_alloc_h O (M.mat 4 M.zero) zeroR ?_; clear O; intro g10 w6 O) | ((with_reducible refine at_store 10 ?_); refine wpList_put_h O 0 (M.mat 4 (bx)) rfl rfl rfl (sR _) (M.mat_len2 _ _ _) (M.mat_one _ _) ?_; clear O; intro w7 O) | ((with_reducible refine at_load 28 ?_); refine wpList_cell_h (v := .int .i64 (r1)) rfl O 1 rfl Cr1.out rfl agg3 rfl ?_))
  have OX : Held w w7 [(g10, 27, M.mat 4 bx), (g7, 27, M.mat 4 r), (g4, 25, M.mat 7 v)] nilRow [] := O
  have OO : Held w w7 [(g10, 27, M.mat 4 bx), (g7, 27, M.mat 4 r), (g4, 25, M.mat 7 v)] (gR none 0 []) [] := OX.fresh 40 8
  clear O OX
  have O := OO
  clear OO CR CQ CB
  go_loopw [9, 11] (fun u t_ wr => ∃ (y : Int) (A : Option Addr) (c : Nat), r1 ≤ y ∧ y ≤ r3 ∧ u = .slice A (PT y r0).length c ∧ t_ = .int .i64 y ∧ Held w wr [(g10, 27, M.mat 4 bx), (g7, 27, M.mat 4 r), (g4, 25, M.mat 7 v)] (gR A c (PT y r0)) []) (fun _ t_ _ => (r3 - intOf t_).toNat)
  case atStart => exact ⟨r1, none, 0, Int.le_refl _, by have := HRL.out.2.2; omega, by rw [H0.out]; rfl, rfl, by rw [H0.out]; exact O⟩
  case round =>
    clear O
    obtain ⟨y, A0, c0, y0, y1, rfl, rfl, O⟩ := hrel
    by_cases hly : y < r3
    · have b1 := HRL.out
      have Wy : wrap64 (y + 1) = y + 1 := IntWalk.wrap64_in _ (by omega)
      clear b1
      go_wp2_with (first | ((with_reducible refine at_load 31 ?_); refine wpList_cell_h (v := .int .i64 (r3)) rfl O 1 rfl Cr3.out rfl agg3 rfl ?_) | ((with_reducible refine at_load 36 ?_); refine wpList_cell_h (v := .int .i64 (r0)) rfl O 1 rfl Cr0.out rfl agg3 rfl ?_))
      go_loopw [9, 12] (fun u t_ wr => ∃ (x : Int) (A : Option Addr) (c : Nat), r0 ≤ x ∧ x ≤ r2 ∧ u = .slice A (PT y x).length c ∧ t_ = .int .i64 x ∧ Held w wr [(g10, 27, M.mat 4 bx), (g7, 27, M.mat 4 r), (g4, 25, M.mat 7 v)] (gR A c (PT y x)) []) (fun _ t_ _ => (r2 - intOf t_).toNat)
      case atStart => exact ⟨r0, A0, c0, Int.le_refl _, by have := HRL.out.2.1; omega, rfl, rfl, O⟩
      case round =>
        clear O
        obtain ⟨x, A, c, x0, x1, rfl, rfl, O⟩ := hrel
        by_cases hlx : x < r2
        · have b1 := HRL.out
          have Wx : wrap64 (x + 1) = x + 1 := IntWalk.wrap64_in _ (by omega)
          have hxb : -4194304 ≤ x ∧ x ≤ 4194304 := by omega
          have hyb : -4194304 ≤ y ∧ y ≤ 4194304 := by omega
          have hlen := HLEN.out x y ⟨x0, x1⟩ ⟨y0, hly⟩
          have HPx := HP.out y x x0
          obtain ⟨LL, hLL⟩ : ∃ LL, PT y x = LL := ⟨_, rfl⟩
          rw [hLL] at O hlen HPx ⊢
          have HLk : Hid (LL.length + 1 ≤ 1000000000) := Lib.hid (by omega)
          clear b1 hLL hlen
          have HNx := HN.out x y
          have HYx := HY.out x y
          by_cases hk1 : k = 1
          · have CO := CC.out hk1 x y hxb hyb
            have hcv := HCV1.out x y hk1
            have hcl := HCLn.out x y (by omega)
            have hco := HCO.out x y
            obtain ⟨n, hn⟩ : ∃ n : Int, ((cof x y : Nat) : Int) = n := ⟨_, rfl⟩
            have hn0 : 0 ≤ n ∧ n ≤ 64 := by omega
            rw [hn] at CO hcv
            rw [hcv, hcl] at HYx
            rw [hcv] at HNx
            clear hn hco hcv hcl
            have K1 : (k == 1) = true := by simp; omega
            have K2 : (k == 2) = false := by simp; omega
            by_cases hz : n = 0
            · have K3 : decide (n > 0) = false := by simp; omega
              have K4 : decide (0 < n) = false := by simp; omega
              have HR := Lib.hid (HPx.trans (by rw [HNx hz, List.append_nil]))
              clear HPx HNx HYx hz hk1 hxb hyb hn0
              go_wp2_with (first | ((with_reducible refine at_load 39 ?_); refine wpList_cell_h (v := .int .i64 (r2)) rfl O 1 rfl Cr2.out rfl agg3 rfl ?_) | ((with_reducible refine at_load 46 ?_); refine wpList_cell_h (v := .int .i64 (v2)) rfl O 2 rfl Cv2.out rfl agg3 rfl ?_) | ((with_reducible refine at_load 48 ?_); refine wpList_mid_h rfl O 2 rfl (M.mat 4 sv) HSC.out rfl Try.underlying23 rfl (sC _) ?_) | ((with_reducible refine at_build 49 ?_); refine wpList_build_g rfl ([(0, .int .i64 x), (1, .int .i64 y), (2, .int .i64 v2), (3, arr 4 sv), (4, .int .i64 64)]) ((M.mat 8 (SM.fr x y v2 sv 64)).toArray) ?_ (builtF _ _ _ _ _) ?_; (focus (simp only [List.map_toArray, List.map_cons, List.map_nil]; rfl))) | ((with_reducible refine at_alloc 13 ?_); refine wpList_alloc_h O (M.mat 8 M.zero) zeroG ?_; clear O; intro g13 w11 O) | ((with_reducible refine at_store 13 ?_); refine wpList_put_h O 0 (M.mat 8 (SM.fr x y v2 sv 64)) rfl rfl rfl (sG _) (M.mat_len2 _ _ _) (M.mat_one _ _) ?_; clear O; intro w12 O) | ((with_reducible refine at_load 52 ?_); refine wpList_rowg_h rfl O 3 rfl rfl Try.underlying25 rfl (sW _) ?_) | (go_at_call 27; refine (CO _).mono ?_; rintro e w13 ⟨rfl, hb⟩; replace O := O.call hb; clear hb) | ((with_reducible refine at_store 57 ?_); refine wpList_set_h O 0 (i := 7) (.int .i64 (n)) rfl (by rw [M.mat_len]; omega) rfl rfl size3 rfl rfl ?_; clear O; intro w14 O; have O9 : Held w w14 ((g13, 40, M.mat 8 (SM.fr x y v2 sv n)) :: [(g10, 27, M.mat 4 bx), (g7, 27, M.mat 4 r), (g4, 25, M.mat 7 v)]) _ _ := (by rw [← SM.fr_set7 _ _ _ _ 64]; exact O); clear O; have O := O9; clear O9) | ((with_reducible refine at_load 85 ?_); refine wpList_cell_h (v := .int .i64 (n)) rfl O 0 rfl (rfl) rfl agg3 rfl ?_))
              go_roundw
              case rel => exact ⟨x + 1, A, c, by omega, by omega, by rw [HR.out], by first | rfl | exact congrArg (Value.int IntKind.i64) Wx, by rw [HR.out]; exact O.tail⟩
              case measure => first | (rw [Wx]; simp only [intOf]; omega) | (simp only [intOf]; omega)
            · have K3 : decide (n > 0) = true := by simp; omega
              have K4 : decide (0 < n) = true := by simp; omega
              have HR := Lib.hid (HPx.trans (by rw [HYx hz]))
              clear HPx HNx HYx hz hk1 hxb hyb hn0
              go_wp2_with (first | ((with_reducible refine at_load 39 ?_); refine wpList_cell_h (v := .int .i64 (r2)) rfl O 1 rfl Cr2.out rfl agg3 rfl ?_) | ((with_reducible refine at_load 46 ?_); refine wpList_cell_h (v := .int .i64 (v2)) rfl O 2 rfl Cv2.out rfl agg3 rfl ?_) | ((with_reducible refine at_load 48 ?_); refine wpList_mid_h rfl O 2 rfl (M.mat 4 sv) HSC.out rfl Try.underlying23 rfl (sC _) ?_) | ((with_reducible refine at_build 49 ?_); refine wpList_build_g rfl ([(0, .int .i64 x), (1, .int .i64 y), (2, .int .i64 v2), (3, arr 4 sv), (4, .int .i64 64)]) ((M.mat 8 (SM.fr x y v2 sv 64)).toArray) ?_ (builtF _ _ _ _ _) ?_; (focus (simp only [List.map_toArray, List.map_cons, List.map_nil]; rfl))) | ((with_reducible refine at_alloc 13 ?_); refine wpList_alloc_h O (M.mat 8 M.zero) zeroG ?_; clear O; intro g13 w11 O) | ((with_reducible refine at_store 13 ?_); refine wpList_put_h O 0 (M.mat 8 (SM.fr x y v2 sv 64)) rfl rfl rfl (sG _) (M.mat_len2 _ _ _) (M.mat_one _ _) ?_; clear O; intro w12 O) | ((with_reducible refine at_load 52 ?_); refine wpList_rowg_h rfl O 3 rfl rfl Try.underlying25 rfl (sW _) ?_) | (go_at_call 27; refine (CO _).mono ?_; rintro e w13 ⟨rfl, hb⟩; replace O := O.call hb; clear hb) | ((with_reducible refine at_store 57 ?_); refine wpList_set_h O 0 (i := 7) (.int .i64 (n)) rfl (by rw [M.mat_len]; omega) rfl rfl size3 rfl rfl ?_; clear O; intro w14 O; have O9 : Held w w14 ((g13, 40, M.mat 8 (SM.fr x y v2 sv n)) :: [(g10, 27, M.mat 4 bx), (g7, 27, M.mat 4 r), (g4, 25, M.mat 7 v)]) _ _ := (by rw [← SM.fr_set7 _ _ _ _ 64]; exact O); clear O; have O := O9; clear O9) | ((with_reducible refine at_load 85 ?_); refine wpList_cell_h (v := .int .i64 (n)) rfl O 0 rfl (rfl) rfl agg3 rfl ?_) | ((with_reducible refine at_load 88 ?_); refine wpList_rowg_h rfl O 0 rfl rfl Try.underlying40 rfl (sG _) ?_) | ((with_reducible refine at_lit 89 ?_); refine wpList_lit_h rfl O 8 (.agg (M.mat 8 M.zero).toArray) infoG Try.underlying35 [(0, arr 8 (SM.fr x y v2 sv n))] (gC [SM.fr x y v2 sv n]) rfl (gC_len _) (by decide) (by decide) (by kernel_rfl) ?_; clear O; intro g89 u5 O) | ((with_reducible refine at_app 90 ?_); refine wpList_app_huge rfl O (.agg (M.mat 8 M.zero).toArray) 64 infoGb rfl (Nat.succ_pos _) Try.underlying35 rfl (gE w.heap.size (some ⟨g89, 0, none⟩) 1 [SM.fr x y v2 sv n]) (O.mem List.mem_cons_self) rfl rfl (gC_one _) (HLk.out) (by decide) ?_; clear O; intro va u6 O; obtain ⟨TA, Tc, e1, O2⟩ := gR_of (l := LL) (m := [SM.fr x y v2 sv n]) rfl (O.pick (es' := []) (fun y hy => List.mem_cons_of_mem _ hy)); subst e1; clear O; have O := O2; clear O2))
              go_roundw
              case rel => exact ⟨x + 1, TA, Tc, by omega, by omega, by rw [HR.out]; first | done | rfl | simp, by first | rfl | exact congrArg (Value.int IntKind.i64) Wx, by rw [HR.out]; exact O.tail⟩
              case measure => first | (rw [Wx]; simp only [intOf]; omega) | (simp only [intOf]; omega)
          · have hcv := HCVn.out x y hk1
            have CHx := CH.out x y
            rw [hcv] at HYx HNx
            clear hcv
            generalize RC.has bx x y = h at CHx HYx HNx
            by_cases hk2 : k = 2
            · have hcl := HCL2.out x y hk2
              rw [hcl] at HYx
              clear hcl
              have K1 : (k == 1) = false := by simp; omega
              have K2 : (k == 2) = true := by simp; omega
              have P0 := CP0.out x hxb
              have P1 := CP1.out y hyb
              obtain ⟨p, hp⟩ : ∃ p, DT.part (256 * x + 128) v0 s = p := ⟨_, rfl⟩
              obtain ⟨q, hq⟩ : ∃ q, DT.part (256 * y + 128) v1 s = q := ⟨_, rfl⟩
              rw [hp, hq] at HYx
              rw [hp] at P0
              rw [hq] at P1
              obtain ⟨X1, hX1⟩ : ∃ z, 256 * x = z := ⟨_, rfl⟩
              obtain ⟨X2, hX2⟩ : ∃ z, X1 + 128 = z := ⟨_, rfl⟩
              obtain ⟨Z1, hZ1⟩ : ∃ z, 256 * y = z := ⟨_, rfl⟩
              obtain ⟨Z2, hZ2⟩ : ∃ z, Z1 + 128 = z := ⟨_, rfl⟩
              rw [hX1, hX2] at P0
              rw [hZ1, hZ2] at P1
              have U1 : Hid (IntKind.i64.wrap (256 * x) = X1) := Lib.hid ((IntWalk.i64_in _ (by omega)).trans hX1)
              have U2 : Hid (IntKind.i64.wrap (X1 + 128) = X2) := Lib.hid ((IntWalk.i64_in _ (by omega)).trans hX2)
              have U3 : Hid (IntKind.i64.wrap (256 * y) = Z1) := Lib.hid ((IntWalk.i64_in _ (by omega)).trans hZ1)
              have U4 : Hid (IntKind.i64.wrap (Z1 + 128) = Z2) := Lib.hid ((IntWalk.i64_in _ (by omega)).trans hZ2)
              clear hp hq hX1 hX2 hZ1 hZ2
              cases h
              · have HR := Lib.hid (HPx.trans (by rw [HNx rfl, List.append_nil]))
                clear HPx HNx HYx hk1 hk2 hxb hyb
                go_wp2_with (first | ((with_reducible refine at_load 39 ?_); refine wpList_cell_h (v := .int .i64 (r2)) rfl O 1 rfl Cr2.out rfl agg3 rfl ?_) | ((with_reducible refine at_load 46 ?_); refine wpList_cell_h (v := .int .i64 (v2)) rfl O 2 rfl Cv2.out rfl agg3 rfl ?_) | ((with_reducible refine at_load 48 ?_); refine wpList_mid_h rfl O 2 rfl (M.mat 4 sv) HSC.out rfl Try.underlying23 rfl (sC _) ?_) | ((with_reducible refine at_build 49 ?_); refine wpList_build_g rfl ([(0, .int .i64 x), (1, .int .i64 y), (2, .int .i64 v2), (3, arr 4 sv), (4, .int .i64 64)]) ((M.mat 8 (SM.fr x y v2 sv 64)).toArray) ?_ (builtF _ _ _ _ _) ?_; (focus (simp only [List.map_toArray, List.map_cons, List.map_nil]; rfl))) | ((with_reducible refine at_alloc 13 ?_); refine wpList_alloc_h O (M.mat 8 M.zero) zeroG ?_; clear O; intro g13 w11 O) | ((with_reducible refine at_store 13 ?_); refine wpList_put_h O 0 (M.mat 8 (SM.fr x y v2 sv 64)) rfl rfl rfl (sG _) (M.mat_len2 _ _ _) (M.mat_one _ _) ?_; clear O; intro w12 O) | ((with_reducible refine at_load 58 ?_); refine wpList_rowg_h rfl O 1 rfl rfl Try.underlying27 rfl (sR _) ?_) | (go_at_call 17; refine (CHx _).mono ?_; rintro e w13 ⟨rfl, hb⟩; replace O := O.call hb; clear hb) | ((with_reducible refine at_store 63 ?_); refine wpList_set_h O 0 (i := 7) (.int .i64 (0)) rfl (by rw [M.mat_len]; omega) rfl rfl size3 rfl rfl ?_; clear O; intro w14 O; have O9 : Held w w14 ((g13, 40, M.mat 8 (SM.fr x y v2 sv 0)) :: [(g10, 27, M.mat 4 bx), (g7, 27, M.mat 4 r), (g4, 25, M.mat 7 v)]) _ _ := (by rw [← SM.fr_set7 _ _ _ _ 64]; exact O); clear O; have O := O9; clear O9))
                have O9 : Held w w14 ((g13, 40, M.mat 8 (SM.fr x y v2 (SM.c2 sv p q false false) 0)) :: [(g10, 27, M.mat 4 bx), (g7, 27, M.mat 4 r), (g4, 25, M.mat 7 v)]) (gR A c LL) [] := by rw [SM.c2_00]; exact O
                clear O
                have O := O9
                clear O9
                refine region_S (fun st w2 => Held w w2 ((g13, 40, M.mat 8 (SM.fr x y v2 (SM.c2 sv p q (st 16).isSome false) 0)) :: [(g10, 27, M.mat 4 bx), (g7, 27, M.mat 4 r), (g4, 25, M.mat 7 v)]) (gR A c LL) []) [16] 12 19 [some 66, some 67, some 68, some 69, some 70, some 71, some 72, some 73, some 74, some 75, some 76, some 77, some 78, some 79, some 80, some 81, none, some 82, some 83] (fun g => [.int .i64 (x), .int .i64 (X1), .int .i64 (X2), .pointer (some ⟨g4, 0, none⟩), .int .i64 (v0), .int .i64 (s), .int .i64 (p), .int .i64 (y), .int .i64 (Z1), .int .i64 (Z2), .pointer (some ⟨g4, 1, none⟩), .int .i64 (v1), .int .i64 (s), .int .i64 (q), .pointer (some ⟨g13, 3, none⟩), .pointer (some ⟨g13, 3, none⟩), g 16, .pointer (some ⟨g13, 3, none⟩), .pointer (some ⟨g13, 4, none⟩)]) 1 (by kernel_rfl) (by kernel_rfl) (by rfl) (by rfl) (fun _ => rfl) (by decide) ?_ (O.drew) (fun F hF => ?_)
                · intro i hi
                  simp only [List.mem_cons, List.not_mem_nil, or_false] at hi
                  rcases hi with rfl
                  · exact ⟨fun _ => rfl, [0, 1, 2, 3, 4, 5, 6, 7, 8, 9, 10, 11, 12, 13, 14, 15, 17, 18], by kernel_rfl, fun g v => ⟨rfl, rfl, rfl, rfl, rfl, rfl, rfl, rfl, rfl, rfl, rfl, rfl, rfl, rfl, rfl, rfl, rfl, rfl, trivial⟩⟩
                simp only [fillD, Act.put, List.setIfInBounds_toArray, List.set_cons_zero, List.set_cons_succ] at hF
                have hF2 := funext hF
                clear hF
                subst hF2
                refine ⟨⟨doesN_want (by decide) rfl (fun g => rfl) (fun st w' hS hp K hK => ?_), doesN_want (by decide) rfl (fun g => rfl) (fun st w' hS hp K hK => ?_), doesN_want (by decide) rfl (fun g => rfl) (fun st w' hS hp K hK => ?_), doesN_want (by decide) rfl (fun g => rfl) (fun st w' hS hp K hK => ?_), doesN_want (by decide) rfl (fun g => rfl) (fun st w' hS hp K hK => ?_), doesN_want (by decide) rfl (fun g => rfl) (fun st w' hS hp K hK => ?_), doesN_want (by decide) rfl (fun g => rfl) (fun st w' hS hp K hK => ?_), doesN_want (by decide) rfl (fun g => rfl) (fun st w' hS hp K hK => ?_), doesN_want (by decide) rfl (fun g => rfl) (fun st w' hS hp K hK => ?_), doesN_want (by decide) rfl (fun g => rfl) (fun st w' hS hp K hK => ?_), doesN_want (by decide) rfl (fun g => rfl) (fun st w' hS hp K hK => ?_), doesN_want (by decide) rfl (fun g => rfl) (fun st w' hS hp K hK => ?_), doesN_want (by decide) rfl (fun g => rfl) (fun st w' hS hp K hK => ?_), doesN_want (by decide) rfl (fun g => rfl) (fun st w' hS hp K hK => ?_), doesN_want (by decide) rfl (fun g => rfl) (fun st w' hS hp K hK => ?_), doesN_want (by decide) rfl (fun g => rfl) (fun st w' hS hp K hK => ?_), doesC_want (by decide) rfl (fun g => rfl) (fun st w' hS hn hp K hK => ?_), doesN_want (by decide) rfl (fun g => rfl) (fun st w' hS hp K hK => ?_), doesN_want (by decide) rfl (fun g => rfl) (fun st w' hS hp K hK => ?_), trivial⟩, fun st w' hS hall => ?_⟩
                · try dsimp only
                  go_simp
                  exact hK _ hS
                · try dsimp only
                  go_simp
                  simp only [U1.out]
                  exact hK _ hS
                · try dsimp only
                  go_simp
                  simp only [U2.out]
                  exact hK _ hS
                · try dsimp only
                  go_simp
                  exact hK _ hS
                · try dsimp only
                  exact wp_cell_h (v := .int .i64 (v0)) hS 3 rfl Cv0.out rfl agg3 rfl (hK _ hS)
                · try dsimp only
                  go_simp
                  exact hK _ hS
                · try dsimp only
                  go_simp
                  go_at_call 28
                  refine (P0 _).mono ?_
                  rintro e w2 ⟨rfl, rfl⟩
                  exact hK _ hS
                · try dsimp only
                  go_simp
                  exact hK _ hS
                · try dsimp only
                  go_simp
                  simp only [U3.out]
                  exact hK _ hS
                · try dsimp only
                  go_simp
                  simp only [U4.out]
                  exact hK _ hS
                · try dsimp only
                  go_simp
                  exact hK _ hS
                · try dsimp only
                  exact wp_cell_h (v := .int .i64 (v1)) hS 3 rfl Cv1.out rfl agg3 rfl (hK _ hS)
                · try dsimp only
                  go_simp
                  exact hK _ hS
                · try dsimp only
                  go_simp
                  go_at_call 28
                  refine (P1 _).mono ?_
                  rintro e w2 ⟨rfl, rfl⟩
                  exact hK _ hS
                · try dsimp only
                  go_simp
                  exact hK _ hS
                · try dsimp only
                  exact wp_ino Try.underlying23 sizeOf3 (by decide) 0 rfl rfl rfl (by decide) (hK _ hS)
                · try dsimp only
                  rw [hn] at hS
                  refine wp_set_h hS 0 (i := 3) (.int .i64 p) rfl (by rw [M.mat_len]; omega) rfl rfl size3 rfl rfl fun w1 O1 => hK _ _ ?_
                  rw [upd_same]
                  have O2 : Held w w1 ((g13, 40, M.mat 8 (SM.fr x y v2 (SM.c2 sv p q true false) 0)) :: [(g10, 27, M.mat 4 bx), (g7, 27, M.mat 4 r), (g4, 25, M.mat 7 v)]) (gR A c LL) [] := by rw [← SM.fr_set3]; exact O1
                  exact O2
                · try dsimp only
                  go_simp
                  exact hK _ hS
                · try dsimp only
                  exact wp_ino Try.underlying23 sizeOf3 (by decide) 1 rfl rfl rfl (by decide) (hK _ hS)
                try dsimp only
                have O3 : Held w w' ((g13, 40, M.mat 8 (SM.fr x y v2 (SM.c2 sv p q true false) 0)) :: [(g10, 27, M.mat 4 bx), (g7, 27, M.mat 4 r), (g4, 25, M.mat 7 v)]) (gR A c LL) [] := by
                  have h3 := hS
                  rw [show (st 16).isSome = true from hall 16 (by decide)] at h3
                  exact h3
                clear hS O
                have O := O3
                clear O3
                try generalize (st 16).getD undef = x16'
                clear hall
                refine wpAny_want (i := 19) (by kernel_rfl) rfl (by rfl) (fun K hK => ?_)
                refine wp_set_h O 0 (i := 4) (.int .i64 q) rfl (by rw [M.mat_len]; omega) rfl rfl size3 rfl rfl fun w9 O1 => hK _ _ ?_
                clear O
                have O : Held w w9 ((g13, 40, M.mat 8 (SM.fr x y v2 (SM.c2 sv p q true true) 0)) :: [(g10, 27, M.mat 4 bx), (g7, 27, M.mat 4 r), (g4, 25, M.mat 7 v)]) (gR A c LL) [] := by rw [← SM.fr_set4]; exact O1
                clear O1
                clear hK K
                try simp only [Act.put, List.setIfInBounds_toArray, List.set_cons_zero, List.set_cons_succ]
                refine wpAny_done (by kernel_rfl) ?_ _
                go_wp2_with ((with_reducible refine at_load 85 ?_); refine wpList_cell_h (v := .int .i64 (0)) rfl O 0 rfl (rfl) rfl agg3 rfl ?_)
                go_roundw
                case rel => exact ⟨x + 1, A, c, by omega, by omega, by rw [HR.out], by first | rfl | exact congrArg (Value.int IntKind.i64) Wx, by rw [HR.out]; exact O.tail⟩
                case measure => first | (rw [Wx]; simp only [intOf]; omega) | (simp only [intOf]; omega)
              · have HR := Lib.hid (HPx.trans (by rw [HYx (by decide)]; first | done | rfl))
                clear HPx HNx HYx hk1 hk2 hxb hyb
                go_wp2_with (first | ((with_reducible refine at_load 39 ?_); refine wpList_cell_h (v := .int .i64 (r2)) rfl O 1 rfl Cr2.out rfl agg3 rfl ?_) | ((with_reducible refine at_load 46 ?_); refine wpList_cell_h (v := .int .i64 (v2)) rfl O 2 rfl Cv2.out rfl agg3 rfl ?_) | ((with_reducible refine at_load 48 ?_); refine wpList_mid_h rfl O 2 rfl (M.mat 4 sv) HSC.out rfl Try.underlying23 rfl (sC _) ?_) | ((with_reducible refine at_build 49 ?_); refine wpList_build_g rfl ([(0, .int .i64 x), (1, .int .i64 y), (2, .int .i64 v2), (3, arr 4 sv), (4, .int .i64 64)]) ((M.mat 8 (SM.fr x y v2 sv 64)).toArray) ?_ (builtF _ _ _ _ _) ?_; (focus (simp only [List.map_toArray, List.map_cons, List.map_nil]; rfl))) | ((with_reducible refine at_alloc 13 ?_); refine wpList_alloc_h O (M.mat 8 M.zero) zeroG ?_; clear O; intro g13 w11 O) | ((with_reducible refine at_store 13 ?_); refine wpList_put_h O 0 (M.mat 8 (SM.fr x y v2 sv 64)) rfl rfl rfl (sG _) (M.mat_len2 _ _ _) (M.mat_one _ _) ?_; clear O; intro w12 O) | ((with_reducible refine at_load 58 ?_); refine wpList_rowg_h rfl O 1 rfl rfl Try.underlying27 rfl (sR _) ?_) | (go_at_call 17; refine (CHx _).mono ?_; rintro e w13 ⟨rfl, hb⟩; replace O := O.call hb; clear hb))
                have O9 : Held w w13 ((g13, 40, M.mat 8 (SM.fr x y v2 (SM.c2 sv p q false false) 64)) :: [(g10, 27, M.mat 4 bx), (g7, 27, M.mat 4 r), (g4, 25, M.mat 7 v)]) (gR A c LL) [] := by rw [SM.c2_00]; exact O
                clear O
                have O := O9
                clear O9
                refine region_S (fun st w2 => Held w w2 ((g13, 40, M.mat 8 (SM.fr x y v2 (SM.c2 sv p q (st 16).isSome false) 64)) :: [(g10, 27, M.mat 4 bx), (g7, 27, M.mat 4 r), (g4, 25, M.mat 7 v)]) (gR A c LL) []) [16] 12 19 [some 66, some 67, some 68, some 69, some 70, some 71, some 72, some 73, some 74, some 75, some 76, some 77, some 78, some 79, some 80, some 81, none, some 82, some 83] (fun g => [.int .i64 (x), .int .i64 (X1), .int .i64 (X2), .pointer (some ⟨g4, 0, none⟩), .int .i64 (v0), .int .i64 (s), .int .i64 (p), .int .i64 (y), .int .i64 (Z1), .int .i64 (Z2), .pointer (some ⟨g4, 1, none⟩), .int .i64 (v1), .int .i64 (s), .int .i64 (q), .pointer (some ⟨g13, 3, none⟩), .pointer (some ⟨g13, 3, none⟩), g 16, .pointer (some ⟨g13, 3, none⟩), .pointer (some ⟨g13, 4, none⟩)]) 1 (by kernel_rfl) (by kernel_rfl) (by rfl) (by rfl) (fun _ => rfl) (by decide) ?_ (O.drew) (fun F hF => ?_)
                · intro i hi
                  simp only [List.mem_cons, List.not_mem_nil, or_false] at hi
                  rcases hi with rfl
                  · exact ⟨fun _ => rfl, [0, 1, 2, 3, 4, 5, 6, 7, 8, 9, 10, 11, 12, 13, 14, 15, 17, 18], by kernel_rfl, fun g v => ⟨rfl, rfl, rfl, rfl, rfl, rfl, rfl, rfl, rfl, rfl, rfl, rfl, rfl, rfl, rfl, rfl, rfl, rfl, trivial⟩⟩
                simp only [fillD, Act.put, List.setIfInBounds_toArray, List.set_cons_zero, List.set_cons_succ] at hF
                have hF2 := funext hF
                clear hF
                subst hF2
                refine ⟨⟨doesN_want (by decide) rfl (fun g => rfl) (fun st w' hS hp K hK => ?_), doesN_want (by decide) rfl (fun g => rfl) (fun st w' hS hp K hK => ?_), doesN_want (by decide) rfl (fun g => rfl) (fun st w' hS hp K hK => ?_), doesN_want (by decide) rfl (fun g => rfl) (fun st w' hS hp K hK => ?_), doesN_want (by decide) rfl (fun g => rfl) (fun st w' hS hp K hK => ?_), doesN_want (by decide) rfl (fun g => rfl) (fun st w' hS hp K hK => ?_), doesN_want (by decide) rfl (fun g => rfl) (fun st w' hS hp K hK => ?_), doesN_want (by decide) rfl (fun g => rfl) (fun st w' hS hp K hK => ?_), doesN_want (by decide) rfl (fun g => rfl) (fun st w' hS hp K hK => ?_), doesN_want (by decide) rfl (fun g => rfl) (fun st w' hS hp K hK => ?_), doesN_want (by decide) rfl (fun g => rfl) (fun st w' hS hp K hK => ?_), doesN_want (by decide) rfl (fun g => rfl) (fun st w' hS hp K hK => ?_), doesN_want (by decide) rfl (fun g => rfl) (fun st w' hS hp K hK => ?_), doesN_want (by decide) rfl (fun g => rfl) (fun st w' hS hp K hK => ?_), doesN_want (by decide) rfl (fun g => rfl) (fun st w' hS hp K hK => ?_), doesN_want (by decide) rfl (fun g => rfl) (fun st w' hS hp K hK => ?_), doesC_want (by decide) rfl (fun g => rfl) (fun st w' hS hn hp K hK => ?_), doesN_want (by decide) rfl (fun g => rfl) (fun st w' hS hp K hK => ?_), doesN_want (by decide) rfl (fun g => rfl) (fun st w' hS hp K hK => ?_), trivial⟩, fun st w' hS hall => ?_⟩
                · try dsimp only
                  go_simp
                  exact hK _ hS
                · try dsimp only
                  go_simp
                  simp only [U1.out]
                  exact hK _ hS
                · try dsimp only
                  go_simp
                  simp only [U2.out]
                  exact hK _ hS
                · try dsimp only
                  go_simp
                  exact hK _ hS
                · try dsimp only
                  exact wp_cell_h (v := .int .i64 (v0)) hS 3 rfl Cv0.out rfl agg3 rfl (hK _ hS)
                · try dsimp only
                  go_simp
                  exact hK _ hS
                · try dsimp only
                  go_simp
                  go_at_call 28
                  refine (P0 _).mono ?_
                  rintro e w2 ⟨rfl, rfl⟩
                  exact hK _ hS
                · try dsimp only
                  go_simp
                  exact hK _ hS
                · try dsimp only
                  go_simp
                  simp only [U3.out]
                  exact hK _ hS
                · try dsimp only
                  go_simp
                  simp only [U4.out]
                  exact hK _ hS
                · try dsimp only
                  go_simp
                  exact hK _ hS
                · try dsimp only
                  exact wp_cell_h (v := .int .i64 (v1)) hS 3 rfl Cv1.out rfl agg3 rfl (hK _ hS)
                · try dsimp only
                  go_simp
                  exact hK _ hS
                · try dsimp only
                  go_simp
                  go_at_call 28
                  refine (P1 _).mono ?_
                  rintro e w2 ⟨rfl, rfl⟩
                  exact hK _ hS
                · try dsimp only
                  go_simp
                  exact hK _ hS
                · try dsimp only
                  exact wp_ino Try.underlying23 sizeOf3 (by decide) 0 rfl rfl rfl (by decide) (hK _ hS)
                · try dsimp only
                  rw [hn] at hS
                  refine wp_set_h hS 0 (i := 3) (.int .i64 p) rfl (by rw [M.mat_len]; omega) rfl rfl size3 rfl rfl fun w1 O1 => hK _ _ ?_
                  rw [upd_same]
                  have O2 : Held w w1 ((g13, 40, M.mat 8 (SM.fr x y v2 (SM.c2 sv p q true false) 64)) :: [(g10, 27, M.mat 4 bx), (g7, 27, M.mat 4 r), (g4, 25, M.mat 7 v)]) (gR A c LL) [] := by rw [← SM.fr_set3]; exact O1
                  exact O2
                · try dsimp only
                  go_simp
                  exact hK _ hS
                · try dsimp only
                  exact wp_ino Try.underlying23 sizeOf3 (by decide) 1 rfl rfl rfl (by decide) (hK _ hS)
                try dsimp only
                have O3 : Held w w' ((g13, 40, M.mat 8 (SM.fr x y v2 (SM.c2 sv p q true false) 64)) :: [(g10, 27, M.mat 4 bx), (g7, 27, M.mat 4 r), (g4, 25, M.mat 7 v)]) (gR A c LL) [] := by
                  have h3 := hS
                  rw [show (st 16).isSome = true from hall 16 (by decide)] at h3
                  exact h3
                clear hS O
                have O := O3
                clear O3
                try generalize (st 16).getD undef = x16'
                clear hall
                refine wpAny_want (i := 19) (by kernel_rfl) rfl (by rfl) (fun K hK => ?_)
                refine wp_set_h O 0 (i := 4) (.int .i64 q) rfl (by rw [M.mat_len]; omega) rfl rfl size3 rfl rfl fun w9 O1 => hK _ _ ?_
                clear O
                have O : Held w w9 ((g13, 40, M.mat 8 (SM.fr x y v2 (SM.c2 sv p q true true) 64)) :: [(g10, 27, M.mat 4 bx), (g7, 27, M.mat 4 r), (g4, 25, M.mat 7 v)]) (gR A c LL) [] := by rw [← SM.fr_set4]; exact O1
                clear O1
                clear hK K
                try simp only [Act.put, List.setIfInBounds_toArray, List.set_cons_zero, List.set_cons_succ]
                refine wpAny_done (by kernel_rfl) ?_ _
                go_wp2_with (first | ((with_reducible refine at_load 85 ?_); refine wpList_cell_h (v := .int .i64 (64)) rfl O 0 rfl (rfl) rfl agg3 rfl ?_) | ((with_reducible refine at_load 88 ?_); refine wpList_rowg_h rfl O 0 rfl rfl Try.underlying40 rfl (sG _) ?_) | ((with_reducible refine at_lit 89 ?_); refine wpList_lit_h rfl O 8 (.agg (M.mat 8 M.zero).toArray) infoG Try.underlying35 [(0, arr 8 (SM.fr x y v2 (SM.c2 sv p q true true) 64))] (gC [SM.fr x y v2 (SM.c2 sv p q true true) 64]) rfl (gC_len _) (by decide) (by decide) (by kernel_rfl) ?_; clear O; intro g89 u5 O) | ((with_reducible refine at_app 90 ?_); refine wpList_app_huge rfl O (.agg (M.mat 8 M.zero).toArray) 64 infoGb rfl (Nat.succ_pos _) Try.underlying35 rfl (gE w.heap.size (some ⟨g89, 0, none⟩) 1 [SM.fr x y v2 (SM.c2 sv p q true true) 64]) (O.mem List.mem_cons_self) rfl rfl (gC_one _) (HLk.out) (by decide) ?_; clear O; intro va u6 O; obtain ⟨TA, Tc, e1, O2⟩ := gR_of (l := LL) (m := [SM.fr x y v2 (SM.c2 sv p q true true) 64]) rfl (O.pick (es' := []) (fun y hy => List.mem_cons_of_mem _ hy)); subst e1; clear O; have O := O2; clear O2))
                go_roundw
                case rel => exact ⟨x + 1, TA, Tc, by omega, by omega, by rw [HR.out]; first | done | rfl | simp, by first | rfl | exact congrArg (Value.int IntKind.i64) Wx, by rw [HR.out]; exact O.tail⟩
                case measure => first | (rw [Wx]; simp only [intOf]; omega) | (simp only [intOf]; omega)
            · have hcl := HCLn.out x y hk2
              rw [hcl] at HYx
              clear hcl
              have K1 : (k == 1) = false := by simp; omega
              have K2 : (k == 2) = false := by simp; omega
              cases h
              · have HR := Lib.hid (HPx.trans (by rw [HNx rfl, List.append_nil]))
                clear HPx HNx HYx hk1 hk2 hxb hyb
                go_wp2_with (first | ((with_reducible refine at_load 39 ?_); refine wpList_cell_h (v := .int .i64 (r2)) rfl O 1 rfl Cr2.out rfl agg3 rfl ?_) | ((with_reducible refine at_load 46 ?_); refine wpList_cell_h (v := .int .i64 (v2)) rfl O 2 rfl Cv2.out rfl agg3 rfl ?_) | ((with_reducible refine at_load 48 ?_); refine wpList_mid_h rfl O 2 rfl (M.mat 4 sv) HSC.out rfl Try.underlying23 rfl (sC _) ?_) | ((with_reducible refine at_build 49 ?_); refine wpList_build_g rfl ([(0, .int .i64 x), (1, .int .i64 y), (2, .int .i64 v2), (3, arr 4 sv), (4, .int .i64 64)]) ((M.mat 8 (SM.fr x y v2 sv 64)).toArray) ?_ (builtF _ _ _ _ _) ?_; (focus (simp only [List.map_toArray, List.map_cons, List.map_nil]; rfl))) | ((with_reducible refine at_alloc 13 ?_); refine wpList_alloc_h O (M.mat 8 M.zero) zeroG ?_; clear O; intro g13 w11 O) | ((with_reducible refine at_store 13 ?_); refine wpList_put_h O 0 (M.mat 8 (SM.fr x y v2 sv 64)) rfl rfl rfl (sG _) (M.mat_len2 _ _ _) (M.mat_one _ _) ?_; clear O; intro w12 O) | ((with_reducible refine at_load 58 ?_); refine wpList_rowg_h rfl O 1 rfl rfl Try.underlying27 rfl (sR _) ?_) | (go_at_call 17; refine (CHx _).mono ?_; rintro e w13 ⟨rfl, hb⟩; replace O := O.call hb; clear hb) | ((with_reducible refine at_store 63 ?_); refine wpList_set_h O 0 (i := 7) (.int .i64 (0)) rfl (by rw [M.mat_len]; omega) rfl rfl size3 rfl rfl ?_; clear O; intro w14 O; have O9 : Held w w14 ((g13, 40, M.mat 8 (SM.fr x y v2 sv 0)) :: [(g10, 27, M.mat 4 bx), (g7, 27, M.mat 4 r), (g4, 25, M.mat 7 v)]) _ _ := (by rw [← SM.fr_set7 _ _ _ _ 64]; exact O); clear O; have O := O9; clear O9) | ((with_reducible refine at_load 85 ?_); refine wpList_cell_h (v := .int .i64 (0)) rfl O 0 rfl (rfl) rfl agg3 rfl ?_))
                go_roundw
                case rel => exact ⟨x + 1, A, c, by omega, by omega, by rw [HR.out], by first | rfl | exact congrArg (Value.int IntKind.i64) Wx, by rw [HR.out]; exact O.tail⟩
                case measure => first | (rw [Wx]; simp only [intOf]; omega) | (simp only [intOf]; omega)
              · have HR := Lib.hid (HPx.trans (by rw [HYx (by decide)]; first | done | rfl))
                clear HPx HNx HYx hk1 hk2 hxb hyb
                go_wp2_with (first | ((with_reducible refine at_load 39 ?_); refine wpList_cell_h (v := .int .i64 (r2)) rfl O 1 rfl Cr2.out rfl agg3 rfl ?_) | ((with_reducible refine at_load 46 ?_); refine wpList_cell_h (v := .int .i64 (v2)) rfl O 2 rfl Cv2.out rfl agg3 rfl ?_) | ((with_reducible refine at_load 48 ?_); refine wpList_mid_h rfl O 2 rfl (M.mat 4 sv) HSC.out rfl Try.underlying23 rfl (sC _) ?_) | ((with_reducible refine at_build 49 ?_); refine wpList_build_g rfl ([(0, .int .i64 x), (1, .int .i64 y), (2, .int .i64 v2), (3, arr 4 sv), (4, .int .i64 64)]) ((M.mat 8 (SM.fr x y v2 sv 64)).toArray) ?_ (builtF _ _ _ _ _) ?_; (focus (simp only [List.map_toArray, List.map_cons, List.map_nil]; rfl))) | ((with_reducible refine at_alloc 13 ?_); refine wpList_alloc_h O (M.mat 8 M.zero) zeroG ?_; clear O; intro g13 w11 O) | ((with_reducible refine at_store 13 ?_); refine wpList_put_h O 0 (M.mat 8 (SM.fr x y v2 sv 64)) rfl rfl rfl (sG _) (M.mat_len2 _ _ _) (M.mat_one _ _) ?_; clear O; intro w12 O) | ((with_reducible refine at_load 58 ?_); refine wpList_rowg_h rfl O 1 rfl rfl Try.underlying27 rfl (sR _) ?_) | (go_at_call 17; refine (CHx _).mono ?_; rintro e w13 ⟨rfl, hb⟩; replace O := O.call hb; clear hb) | ((with_reducible refine at_load 85 ?_); refine wpList_cell_h (v := .int .i64 (64)) rfl O 0 rfl (rfl) rfl agg3 rfl ?_) | ((with_reducible refine at_load 88 ?_); refine wpList_rowg_h rfl O 0 rfl rfl Try.underlying40 rfl (sG _) ?_) | ((with_reducible refine at_lit 89 ?_); refine wpList_lit_h rfl O 8 (.agg (M.mat 8 M.zero).toArray) infoG Try.underlying35 [(0, arr 8 (SM.fr x y v2 sv 64))] (gC [SM.fr x y v2 sv 64]) rfl (gC_len _) (by decide) (by decide) (by kernel_rfl) ?_; clear O; intro g89 u5 O) | ((with_reducible refine at_app 90 ?_); refine wpList_app_huge rfl O (.agg (M.mat 8 M.zero).toArray) 64 infoGb rfl (Nat.succ_pos _) Try.underlying35 rfl (gE w.heap.size (some ⟨g89, 0, none⟩) 1 [SM.fr x y v2 sv 64]) (O.mem List.mem_cons_self) rfl rfl (gC_one _) (HLk.out) (by decide) ?_; clear O; intro va u6 O; obtain ⟨TA, Tc, e1, O2⟩ := gR_of (l := LL) (m := [SM.fr x y v2 sv 64]) rfl (O.pick (es' := []) (fun y hy => List.mem_cons_of_mem _ hy)); subst e1; clear O; have O := O2; clear O2))
                go_roundw
                case rel => exact ⟨x + 1, TA, Tc, by omega, by omega, by rw [HR.out]; first | done | rfl | simp, by first | rfl | exact congrArg (Value.int IntKind.i64) Wx, by rw [HR.out]; exact O.tail⟩
                case measure => first | (rw [Wx]; simp only [intOf]; omega) | (simp only [intOf]; omega)
        · have hxe : x = r2 := by omega
          have HR := Lib.hid (show PT y x = PT (y + 1) r0 by rw [hxe]; exact HW.out y y0)
          clear hxe
          go_wp2_with ((with_reducible refine at_load 39 ?_); refine wpList_cell_h (v := .int .i64 (r2)) rfl O 1 rfl Cr2.out rfl agg3 rfl ?_)
          go_roundw
          case rel => exact ⟨y + 1, A, c, by omega, by omega, by rw [HR.out], by first | rfl | exact congrArg (Value.int IntKind.i64) Wy, by rw [← HR.out]; exact O⟩
          case measure => first | (rw [Wy]; simp only [intOf]; omega) | (simp only [intOf]; omega)
    · have hye : y = r3 := by omega
      have HE2 := Lib.hid (show PT y r0 = TOT by rw [hye]; exact HE.out)
      clear hye
      go_wp2_with ((with_reducible refine at_load 31 ?_); refine wpList_cell_h (v := .int .i64 (r3)) rfl O 1 rfl Cr3.out rfl agg3 rfl ?_)
      obtain ⟨A2, c2, hv, OD⟩ := O.done
      dsimp only [gR] at hv OD
      injection hv with e1 e2 e3
      subst e1 e3
      go_ret
      exact ⟨A0, c0, by rw [← HE2.out]; rfl, by rw [← HE2.out]; exact OD.arg List.mem_cons_self, O.below⟩
end Go.Proofs.Ytlmgilcigbnbaaa
