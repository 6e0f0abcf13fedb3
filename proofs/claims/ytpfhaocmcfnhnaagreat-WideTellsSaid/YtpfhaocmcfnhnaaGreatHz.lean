/- Plain: dashes: which pixels are lit, a dash so many pixels later, runs. Types: dashes, runs. Contracts: the document's Right, Next, Lit; far. Contracts: the program's isFrom, Right, isAsked, isLit, Lit, Next. -/
import Derived.Test.YtpfhaocmcfnhnaaGreatL2
import Derived.Test.YtpfhaocmcfnhnaaGreatTy
import Derived.Test.YtpfhaocmcfnhnaaGreatLa
import Derived.Test.YtpfhaocmcfnhnaaGreatNb
namespace Go.Proofs.YtpfhaocmcfnhnaaGreat
set_option linter.unusedVariables false
namespace HM
/-- The number of a pixel's bit. -/
def bit (r c k : Int) : Int := (c + k) / r % 16
/-- A number, halved so many times. -/
def half (p : Int) : Nat → Int
 | 0 => p
 | n + 1 => half p n / 2
theorem half_succ (p : Int) (n : Nat) : half p (n + 1) = half p n / 2 := rfl
theorem half_pow (p : Int) : ∀ n : Nat, half p n = p / 2 ^ n
 | 0 => by simp [half]
 | n + 1 => by
  rw [half, half_pow p n, Int.ediv_ediv_of_nonneg (Int.le_of_lt (Int.pow_pos (by decide))), Int.pow_succ]
theorem half_lim {p : Int} (h0 : 0 ≤ p) (h1 : p ≤ 65535) : ∀ n : Nat, 0 ≤ half p n ∧ half p n ≤ 65535
 | 0 => ⟨h0, h1⟩
 | n + 1 => by
  have := half_lim h0 h1 n
  unfold half
  omega
/-- Is a pixel lit? -/
def lit (p r c k : Int) : Bool := half p (bit r c k).toNat % 2 == 1
def later (r c n : Int) : Int := (c + n) % (16 * r)
theorem bit_lim {r c k : Int} : 0 ≤ bit r c k ∧ bit r c k < 16 := by unfold bit; omega
theorem later_lim {r c n : Int} (h1 : 1 ≤ r) (h2 : r ≤ 256) : 0 ≤ later r c n ∧ later r c n < 4096 := by
 unfold later
 have a := Int.emod_nonneg (c + n) (show 16 * r ≠ 0 by omega)
 have b := Int.emod_lt_of_pos (c + n) (show 0 < 16 * r by omega)
 omega
/-- Runs of what is lit of the first n. -/
def runs (f : Nat → Bool) : Nat → List (Nat × Nat)
 | 0 => []
 | n + 1 => if f n then (match (runs f n).getLast? with
   | some z => if z.2 = n then (runs f n).dropLast ++ [(z.1, n + 1)] else runs f n ++ [(n, n + 1)]
   | none => [(n, n + 1)]) else runs f n
/-- What runs are: rising, as long as they can be, each pixel that is lit. -/
def Sep : List (Nat × Nat) → Prop := List.Pairwise (fun x y => x.2 < y.1)
def Is (f : Nat → Bool) (n : Nat) (l : List (Nat × Nat)) : Prop := Sep l ∧ (∀ x ∈ l, x.1 < x.2 ∧ x.2 ≤ n) ∧ ∀ k, (∃ x ∈ l, x.1 ≤ k ∧ k < x.2) ↔ k < n ∧ f k = true
end HM
end Go.Proofs.YtpfhaocmcfnhnaaGreat
namespace Go.Proofs.YtpfhaocmcfnhnaaGreat
open Go.ChangeShapes Go.WideShapes Go.ChangeAt Go.RowKit
set_option linter.unusedVariables false
set_option linter.unusedSimpArgs false

theorem sizeH : (Tryz.prog.info? 27).map (·.size) = some 3 := by kernel_rfl
theorem sH (a : Nat → Int) : (Tryz.prog.info? 27).map (·.size) = some (M.mat 3 a).length := by rw [M.mat_len]; exact sizeH
theorem zeroH : (Tryz.prog.info? 27).map (·.zero) = some (some (.agg (M.mat 3 M.zero).toArray)) := by kernel_rfl
namespace HM
def t2 (x y : Int) (i : Nat) : Int := if i = 0 then x else y
def t3 (x y z : Int) (i : Nat) : Int := if i = 0 then x else if i = 1 then y else z
end HM
theorem run_eqH (a b : Nat → Int) (w : World) : (Op.equalIn 10000 27 (arr 3 a) (arr 3 b)).run Tryz.prog w = .ok (M.eqB 3 a b) w := by
 have hf : (Tryz.prog.fieldsOf 27).toList = [⟨"Pattern", 3, 0, false, "", "", 0⟩, ⟨"Repeat", 3, 1, false, "", "", 8⟩, ⟨"Count", 3, 2, false, "", "", 16⟩] := by kernel_rfl
 rw [show (10000 : Nat) = 9997 + 2 + 1 from rfl, run_equalIn_struct w (9997 + 2) 27 _ _ (by kernel_rfl) Tryz.stoodInHeld27, hf,
  eqF_int (d := 9997 + 1) w (by decide) rfl 0 rfl (by decide), eqF_int (d := 9997 + 1) w (by decide) rfl 1 rfl (by decide), eqF_int (d := 9997 + 1) w (by decide) rfl 2 rfl (by decide)]
 have e : M.eqB 3 a b = ((a 0 == b 0) && ((a 1 == b 1) && ((a 2 == b 2)))) := by
  rw [Bool.eq_iff_iff]
  simp only [Bool.and_eq_true, M.eqB_iff, beq_iff_eq]
  refine ⟨fun h => ⟨h 0 (by omega), h 1 (by omega), h 2 (by omega)⟩, fun ⟨h0, h1, h2⟩ i hi => ?_⟩
  rcases (by omega : i = 0 ∨ i = 1 ∨ i = 2) with rfl | rfl | rfl
  · exact h0
  · exact h1
  · exact h2
 rw [e]
 cases h0 : a 0 == b 0
 · simp
 cases h1 : a 1 == b 1
 · simp
 cases h2 : a 2 == b 2
 · simp
 · simp [Op.eqFields]
section
variable {ops : Array Oper} {Q : Exit → Act → World → Prop} {a : Act} {w : World} {rest : List Oper} {dst : Option Tmp} {ty : TypeId} {pos : String} {after : Array Edge} {K : Act → World → Prop}
theorem wp_eqH {t' : TypeId} {x y : Operand} {gd : Option (Nat × Bool)} (p q : Nat → Int) (hx : a.eval x = arr 3 p) (hy : a.eval y = arr 3 q)
  (h : K (a.put dst (.bool (M.eqB 3 p q))) w) : Oper.wp Tryz.prog ⟨dst, .binOp .eql 27 x y t', ty, pos, after, gd⟩ a w K Q := by
 unfold Oper.wp execOp
 simp only [hx, hy, Sem.run_bind, run_eqGuard_agg _ _ _ _ _ _ _ Tryz.eqGuardType27, run_eql_struct, run_eqH, Result.andThen_ok]
 exact h
end
end Go.Proofs.YtpfhaocmcfnhnaaGreat
namespace Go.Proofs.YtpfhaocmcfnhnaaGreat
open Go.ChangeShapes Go.WideShapes Go.ChangeAt Go.RowKit
set_option linter.unusedVariables false
set_option linter.unusedSimpArgs false

namespace HM
def right (d : Nat → Int) : Bool := decide (0 ≤ d 0) && (decide (d 0 ≤ 65535) && (decide (1 ≤ d 1) && (decide (d 1 ≤ 256) && (decide (0 ≤ d 2) && decide (d 2 ≤ 1099511627776)))))
theorem right_is {d : Nat → Int} {p r c : Int} (h0 : d 0 = p) (h1 : d 1 = r) (h2 : d 2 = c) : right d = (decide (0 ≤ p) && (decide (p ≤ 65535) && (decide (1 ≤ r) && (decide (r ≤ 256) && (decide (0 ≤ c) && decide (c ≤ 1099511627776)))))) := by rw [right, h0, h1, h2]
theorem right_iff {d : Nat → Int} : right d = true ↔ (0 ≤ d 0 ∧ d 0 ≤ 65535) ∧ (1 ≤ d 1 ∧ d 1 ≤ 256) ∧ (0 ≤ d 2 ∧ d 2 ≤ 1099511627776) := by
 simp only [right, Bool.and_eq_true, decide_eq_true_eq]
 omega
def far (n : Int) : Bool := decide (n < 0) || decide (1099511627776 < n)
def nextF (d : Nat → Int) (n : Int) : Nat → Int := t3 (d 0) (d 1) (later (d 1) (d 2) n)
def litF (d : Nat → Int) (k : Int) : Bool := lit (d 0) (d 1) (d 2) k
end HM
set_option maxHeartbeats 8000000 in
theorem dright_any (d : Nat → Int) (w : World) : Calls Tryz.prog 33 #[arr 3 d] w fun e w' => e = .returned (.bool (HM.right d)) ∧ Below w.heap.size w w' := by
 have O := Own.start w
 obtain ⟨p, ep⟩ : ∃ z, d 0 = z := ⟨_, rfl⟩
 have Cp := cell_is (n := 3) ep (by decide)
 obtain ⟨r, er⟩ : ∃ z, d 1 = z := ⟨_, rfl⟩
 have Cr := cell_is (n := 3) er (by decide)
 obtain ⟨c, ec⟩ : ∃ z, d 2 = z := ⟨_, rfl⟩
 have Cc := cell_is (n := 3) ec (by decide)
 have HE := Lib.hid (HM.right_is ep er ec)
 clear ep er ec
 cases h0 : decide (0 ≤ p)
 ·
  rw [h0] at HE
  go_enter Tryz.func33, Tryz.ntmps33
  go_wp2_with (first | ((with_reducible refine at_box 1 ?_); refine wpList_box_own O (M.mat 3 (d)) rfl ?_; clear O; intro g1 w1 O) | ((with_reducible refine at_load 4 ?_); refine wpList_cell_h (v := .int .i64 (p)) rfl O.held 0 rfl Cp.out rfl agg3 rfl ?_))
  go_ret
  exact ⟨by rw [HE.out]; rfl, O.below⟩
 ·
  cases h1 : decide (p ≤ 65535)
  ·
   rw [h0, h1] at HE
   go_enter Tryz.func33, Tryz.ntmps33
   go_wp2_with (first | ((with_reducible refine at_box 1 ?_); refine wpList_box_own O (M.mat 3 (d)) rfl ?_; clear O; intro g1 w1 O) | ((with_reducible first | refine at_load 4 ?_ | refine at_load 8 ?_); refine wpList_cell_h (v := .int .i64 (p)) rfl O.held 0 rfl Cp.out rfl agg3 rfl ?_))
   go_ret
   exact ⟨by rw [HE.out]; rfl, O.below⟩
  ·
   cases h2 : decide (1 ≤ r)
   ·
    rw [h0, h1, h2] at HE
    go_enter Tryz.func33, Tryz.ntmps33
    go_wp2_with (first | ((with_reducible refine at_box 1 ?_); refine wpList_box_own O (M.mat 3 (d)) rfl ?_; clear O; intro g1 w1 O) | ((with_reducible first | refine at_load 4 ?_ | refine at_load 8 ?_); refine wpList_cell_h (v := .int .i64 (p)) rfl O.held 0 rfl Cp.out rfl agg3 rfl ?_) | ((with_reducible refine at_load 13 ?_); refine wpList_cell_h (v := .int .i64 (r)) rfl O.held 0 rfl Cr.out rfl agg3 rfl ?_))
    go_ret
    exact ⟨by rw [HE.out]; rfl, O.below⟩
   ·
    cases h3 : decide (r ≤ 256)
    ·
     rw [h0, h1, h2, h3] at HE
     go_enter Tryz.func33, Tryz.ntmps33
     go_wp2_with (first | ((with_reducible refine at_box 1 ?_); refine wpList_box_own O (M.mat 3 (d)) rfl ?_; clear O; intro g1 w1 O) | ((with_reducible first | refine at_load 4 ?_ | refine at_load 8 ?_); refine wpList_cell_h (v := .int .i64 (p)) rfl O.held 0 rfl Cp.out rfl agg3 rfl ?_) | ((with_reducible first | refine at_load 13 ?_ | refine at_load 18 ?_); refine wpList_cell_h (v := .int .i64 (r)) rfl O.held 0 rfl Cr.out rfl agg3 rfl ?_))
     go_ret
     exact ⟨by rw [HE.out]; rfl, O.below⟩
    ·
     cases h4 : decide (0 ≤ c)
     ·
      rw [h0, h1, h2, h3, h4] at HE
      go_enter Tryz.func33, Tryz.ntmps33
      go_wp2_with (first | ((with_reducible refine at_box 1 ?_); refine wpList_box_own O (M.mat 3 (d)) rfl ?_; clear O; intro g1 w1 O) | ((with_reducible first | refine at_load 4 ?_ | refine at_load 8 ?_); refine wpList_cell_h (v := .int .i64 (p)) rfl O.held 0 rfl Cp.out rfl agg3 rfl ?_) | ((with_reducible first | refine at_load 13 ?_ | refine at_load 18 ?_); refine wpList_cell_h (v := .int .i64 (r)) rfl O.held 0 rfl Cr.out rfl agg3 rfl ?_) | ((with_reducible refine at_load 23 ?_); refine wpList_cell_h (v := .int .i64 (c)) rfl O.held 0 rfl Cc.out rfl agg3 rfl ?_))
      go_ret
      exact ⟨by rw [HE.out]; rfl, O.below⟩
     ·
      cases h5 : decide (c ≤ 1099511627776)
      ·
       rw [h0, h1, h2, h3, h4, h5] at HE
       go_enter Tryz.func33, Tryz.ntmps33
       go_wp2_with (first | ((with_reducible refine at_box 1 ?_); refine wpList_box_own O (M.mat 3 (d)) rfl ?_; clear O; intro g1 w1 O) | ((with_reducible first | refine at_load 4 ?_ | refine at_load 8 ?_); refine wpList_cell_h (v := .int .i64 (p)) rfl O.held 0 rfl Cp.out rfl agg3 rfl ?_) | ((with_reducible first | refine at_load 13 ?_ | refine at_load 18 ?_); refine wpList_cell_h (v := .int .i64 (r)) rfl O.held 0 rfl Cr.out rfl agg3 rfl ?_) | ((with_reducible first | refine at_load 23 ?_ | refine at_load 28 ?_); refine wpList_cell_h (v := .int .i64 (c)) rfl O.held 0 rfl Cc.out rfl agg3 rfl ?_))
       go_ret
       exact ⟨by rw [HE.out]; rfl, O.below⟩
      ·
       rw [h0, h1, h2, h3, h4, h5] at HE
       go_enter Tryz.func33, Tryz.ntmps33
       go_wp2_with (first | ((with_reducible refine at_box 1 ?_); refine wpList_box_own O (M.mat 3 (d)) rfl ?_; clear O; intro g1 w1 O) | ((with_reducible first | refine at_load 4 ?_ | refine at_load 8 ?_); refine wpList_cell_h (v := .int .i64 (p)) rfl O.held 0 rfl Cp.out rfl agg3 rfl ?_) | ((with_reducible first | refine at_load 13 ?_ | refine at_load 18 ?_); refine wpList_cell_h (v := .int .i64 (r)) rfl O.held 0 rfl Cr.out rfl agg3 rfl ?_) | ((with_reducible first | refine at_load 23 ?_ | refine at_load 28 ?_); refine wpList_cell_h (v := .int .i64 (c)) rfl O.held 0 rfl Cc.out rfl agg3 rfl ?_))
       go_ret
       exact ⟨by rw [HE.out]; rfl, O.below⟩
set_option maxHeartbeats 4000000 in
theorem rnext_any (d : Nat → Int) (n : Int) (hr : HM.right d = true) (hn : 0 ≤ n ∧ n ≤ 1099511627776) (w : World) : Calls Tryz.prog 22 #[arr 3 d, .int .i64 n] w fun e w' => e = .returned (arr 3 (HM.nextF d n)) ∧ Below w.heap.size w w' := by
 have O := Own.start w
 rw [HM.right_iff] at hr
 unfold HM.nextF
 obtain ⟨p, ep⟩ : ∃ z, d 0 = z := ⟨_, rfl⟩
 have Cp := cell_is (n := 3) ep (by decide)
 obtain ⟨r, er⟩ : ∃ z, d 1 = z := ⟨_, rfl⟩
 have Cr := cell_is (n := 3) er (by decide)
 obtain ⟨c, ec⟩ : ∃ z, d 2 = z := ⟨_, rfl⟩
 have Cc := cell_is (n := 3) ec (by decide)
 have HS : Hid (∀ z, d 2 = c → (M.mat 3 d).set 2 (.int .i64 z) = M.mat 3 (HM.t3 p r z)) := Lib.hid (fun z _ => by rw [← ep, ← er]; rfl)
 have HC := Lib.hid ec
 rw [ep, er, ec] at hr ⊢
 clear ep er ec
 obtain ⟨⟨p0, p1⟩, ⟨r0, r1⟩, c0, c1⟩ := hr
 have hl := @HM.later_lim r c n r0 r1
 have W1 : wrap64 (c + n) = c + n := IntWalk.wrap64_in _ (by omega)
 have W2 : wrap64 (16 * r) = 16 * r := IntWalk.wrap64_in _ (by omega)
 have e1 : (c + n).tmod (16 * r) = HM.later r c n := Int.tmod_eq_emod_of_nonneg (by omega)
 generalize HM.later r c n = z at *
 have n0 : ¬ 16 * r = 0 := by omega
 obtain ⟨m, hm⟩ : ∃ m, 16 * r = m := ⟨_, rfl⟩
 obtain ⟨s, hs⟩ : ∃ s, c + n = s := ⟨_, rfl⟩
 rw [hm] at W2 e1 n0
 rw [hs] at W1 e1
 have n1 : ¬ m = 0 := n0
 clear p0 p1 r0 r1 c0 c1 hn n0 hl
 go_enter Tryz.func22, Tryz.ntmps22
 go_wp2_with (first | ((with_reducible refine at_box 2 ?_); refine wpList_box_own O (M.mat 3 (d)) rfl ?_; clear O; intro g2 w1 O) | ((with_reducible refine at_alloc 4 ?_); refine wpList_alloc_own O (M.mat 3 M.zero) zeroH ?_; clear O; intro g4 w2 O) | ((with_reducible refine at_load 6 ?_); refine wpList_cell_h (v := .int .i64 (c)) rfl O.held 1 rfl Cc.out rfl agg3 rfl ?_) | ((with_reducible refine at_load 10 ?_); refine wpList_cell_h (v := .int .i64 (r)) rfl O.held 1 rfl Cr.out rfl agg3 rfl ?_) | ((with_reducible refine at_store 13 ?_); refine wpList_set_own O 1 (i := 2) (.int .i64 z) rfl (by rw [M.mat_len]; omega) rfl (by first | rfl | exact congrArg (Value.int IntKind.i64) e1) size3 rfl rfl ?_; clear O; intro w3 O; have O9 := Own.as O (l' := [(g4, 27, M.mat 3 M.zero), (g2, 27, M.mat 3 (HM.t3 p r z))]) (by rw [← HS.out z HC.out]; rfl); clear O; have O := O9; clear O9) | ((with_reducible refine at_load 14 ?_); refine wpList_whole rfl O 1 rfl rfl Tryz.underlying27 rfl (sH _) ?_) | ((with_reducible refine at_store 4 ?_); refine wpList_put_own O 0 (M.mat 3 (HM.t3 p r z)) rfl rfl rfl (sH _) (M.mat_len2 _ _ _) (M.mat_one _ _) ?_; clear O; intro w4 O))
 exact bodyPost_ret (v := arr 3 (HM.t3 p r z)) (res_h rfl O.held 0 rfl rfl Tryz.underlying27 rfl (sH _)) rfl ⟨rfl, O.below⟩
set_option maxHeartbeats 4000000 in
theorem rlit_any (d : Nat → Int) (k : Int) (hr : HM.right d = true) (hn : 0 ≤ k ∧ k ≤ 1099511627776) (w : World) : Calls Tryz.prog 26 #[arr 3 d, .int .i64 k] w fun e w' => e = .returned (.bool (HM.litF d k)) ∧ Below w.heap.size w w' := by
 have O := Own.start w
 rw [HM.right_iff] at hr
 unfold HM.litF
 obtain ⟨p, ep⟩ : ∃ z, d 0 = z := ⟨_, rfl⟩
 have Cp := cell_is (n := 3) ep (by decide)
 obtain ⟨r, er⟩ : ∃ z, d 1 = z := ⟨_, rfl⟩
 have Cr := cell_is (n := 3) er (by decide)
 obtain ⟨c, ec⟩ : ∃ z, d 2 = z := ⟨_, rfl⟩
 have Cc := cell_is (n := 3) ec (by decide)
 rw [ep, er, ec] at hr ⊢
 clear ep er ec
 obtain ⟨⟨p0, p1⟩, ⟨r0, r1⟩, c0, c1⟩ := hr
 obtain ⟨b0, b1⟩ := @HM.bit_lim r c k
 have hd := Int.ediv_nonneg (show 0 ≤ c + k by omega) (show 0 ≤ r by omega)
 have hd2 := Int.ediv_le_self r (show 0 ≤ c + k by omega)
 have W1 : wrap64 (c + k) = c + k := IntWalk.wrap64_in _ (by omega)
 have e1 : (c + k).tdiv r = (c + k) / r := Int.tdiv_eq_ediv_of_nonneg (by omega)
 have e2 : ((c + k) / r).tmod 16 = HM.bit r c k := Int.tmod_eq_emod_of_nonneg hd
 have W3 : wrap64 ((c + k) / r) = (c + k) / r := IntWalk.wrap64_in _ (by omega)
 have HE : Hid (HM.lit p r c k = (HM.half p (HM.bit r c k).toNat % 2 == 1)) := Lib.hid rfl
 have HL := Lib.hid (fun n => @HM.half_lim p p0 p1 n)
 generalize HM.lit p r c k = z at *
 generalize HM.bit r c k = B at *
 have n1 : ¬ r = 0 := by omega
 obtain ⟨q, hq⟩ : ∃ q, (c + k) / r = q := ⟨_, rfl⟩
 obtain ⟨s, hs⟩ : ∃ s, c + k = s := ⟨_, rfl⟩
 rw [hq] at e1 e2 W3
 rw [hs] at W1 e1
 have HB := Lib.hid (And.intro b0 b1)
 clear p0 p1 r0 r1 c0 c1 hn hd hd2 hq b0 b1
 go_enter Tryz.func26, Tryz.ntmps26
 go_wp2_with (first | ((with_reducible refine at_box 2 ?_); refine wpList_box_own O (M.mat 3 (d)) rfl ?_; clear O; intro g2 w1 O) | ((with_reducible refine at_load 9 ?_); refine wpList_cell_h (v := .int .i64 (c)) rfl O.held 0 rfl Cc.out rfl agg3 rfl ?_) | ((with_reducible refine at_load 13 ?_); refine wpList_cell_h (v := .int .i64 (r)) rfl O.held 0 rfl Cr.out rfl agg3 rfl ?_) | ((with_reducible refine at_load 17 ?_); refine wpList_cell_h (v := .int .i64 (p)) rfl O.held 0 rfl Cp.out rfl agg3 rfl ?_))
 clear W1 e1 e2 W3 n1
 go_loopw [6, 7] (fun t6 t7 wr => ∃ i : Nat, (i : Int) ≤ B ∧ t6 = .int .i64 (HM.half p i) ∧ t7 = .int .i64 i ∧ Own w wr [(g2, 27, M.mat 3 d)]) (fun t6 t7 _ => (B - intOf t7).toNat)
 case atStart => exact ⟨0, HB.out.1, rfl, rfl, O⟩
 case round =>
  clear O
  obtain ⟨i, hi, rfl, rfl, O⟩ := hrel
  have q0 : (0 : Int) ≤ i := by omega
  have hh := HL.out i
  by_cases hlt : (i : Int) < B
  ·
   have hb := HB.out
   have e1 : (HM.half p i).tdiv 2 = HM.half p (i + 1) := by rw [Int.tdiv_eq_ediv_of_nonneg hh.1]; exact (HM.half_succ p i).symm
   have h2 := HL.out (i + 1)
   obtain ⟨y, hy⟩ : ∃ y, HM.half p (i + 1) = y := ⟨_, rfl⟩
   have HY := Lib.hid hy
   rw [hy] at e1 h2
   clear hy
   generalize HM.half p i = x at *
   have W1 : wrap64 y = y := IntWalk.wrap64_in _ (by omega)
   have W2 : wrap64 ((i : Int) + 1) = (i : Int) + 1 := IntWalk.wrap64_in _ (by omega)
   clear hh h2 hb
   go_wp2_with fail
   go_roundw
   case rel => exact ⟨i + 1, by omega, by rw [HY.out]; exact congrArg (Value.int IntKind.i64) W1, congrArg (Value.int IntKind.i64) W2, O⟩
   case measure => rw [W2]; simp only [intOf]; omega
  ·
   have hb := HB.out
   obtain rfl : B = i := by omega
   have e1 : (HM.half p i).tmod 2 = HM.half p i % 2 := Int.tmod_eq_emod_of_nonneg hh.1
   rw [show ((i : Int).toNat) = i by omega] at HE
   generalize HM.half p i = x at *
   obtain ⟨y, hy⟩ : ∃ y, x % 2 = y := ⟨_, rfl⟩
   rw [hy] at e1 HE
   have c1 : ¬ (i : Int) < i := by omega
   clear hh hb hy hlt hi
   cases hz : y == 1
   all_goals
    rw [hz] at HE
    go_wp2_with fail
    go_ret
    exact ⟨by rw [HE.out]; rfl, O.below⟩
end Go.Proofs.YtpfhaocmcfnhnaaGreat
namespace Go.Proofs.YtpfhaocmcfnhnaaGreat
open Go.ChangeShapes Go.WideShapes Go.ChangeAt Go.RowKit
set_option linter.unusedVariables false
set_option linter.unusedSimpArgs false

theorem dfrom_any (a b n : Int) (w : World) : Calls Tryz.prog 50 #[.int .i64 a, .int .i64 b, .int .i64 n] w fun e w' => e = .returned (.bool (decide (a ≤ n) && decide (n ≤ b))) ∧ w' = w := by
 have HE : Hid ((decide (a ≤ n) && decide (n ≤ b)) = (decide (a ≤ n) && decide (n ≤ b))) := Lib.hid rfl
 obtain ⟨z, hz⟩ : ∃ z, (decide (a ≤ n) && decide (n ≤ b)) = z := ⟨_, rfl⟩
 rw [hz]
 have HZ := Lib.hid hz
 clear hz HE
 cases h0 : decide (a ≤ n)
 ·
  rw [h0] at HZ
  go_enter Tryz.func50, Tryz.ntmps50
  go_wp2_with fail
  go_ret
  exact ⟨by rw [← HZ.out]; rfl, rfl⟩
 ·
  cases h1 : decide (n ≤ b)
  all_goals
   rw [h0, h1] at HZ
   go_enter Tryz.func50, Tryz.ntmps50
   go_wp2_with fail
   go_ret
   exact ⟨by rw [← HZ.out]; rfl, rfl⟩
theorem dfrom_is {a b n : Int} {z : Bool} (h : (decide (a ≤ n) && decide (n ≤ b)) = z) (w : World) : Calls Tryz.prog 50 #[.int .i64 a, .int .i64 b, .int .i64 n] w fun e w' => e = .returned (.bool z) ∧ w' = w := by
 subst h
 exact dfrom_any a b n w
namespace HM
theorem right_three {d : Nat → Int} {p r c : Int} {z0 z1 z2 : Bool} (h0 : d 0 = p) (h1 : d 1 = r) (h2 : d 2 = c) (e0 : (decide (0 ≤ p) && decide (p ≤ 65535)) = z0) (e1 : (decide (1 ≤ r) && decide (r ≤ 256)) = z1) (e2 : (decide (0 ≤ c) && decide (c ≤ 1099511627776)) = z2) : right d = (z0 && (z1 && z2)) := by
 rw [right_is h0 h1 h2, ← e0, ← e1, ← e2]
 simp only [Bool.and_assoc]
end HM
set_option maxHeartbeats 8000000 in
theorem pright_any (d : Nat → Int) (w : World) : Calls Tryz.prog 31 #[arr 3 d] w fun e w' => e = .returned (.bool (HM.right d)) ∧ Below w.heap.size w w' := by
 have O := Own.start w
 obtain ⟨p, ep⟩ : ∃ z, d 0 = z := ⟨_, rfl⟩
 have Cp := cell_is (n := 3) ep (by decide)
 obtain ⟨r, er⟩ : ∃ z, d 1 = z := ⟨_, rfl⟩
 have Cr := cell_is (n := 3) er (by decide)
 obtain ⟨c, ec⟩ : ∃ z, d 2 = z := ⟨_, rfl⟩
 have Cc := cell_is (n := 3) ec (by decide)
 obtain ⟨z0, f0⟩ : ∃ z, (decide (0 ≤ p) && decide (p ≤ 65535)) = z := ⟨_, rfl⟩
 obtain ⟨z1, f1⟩ : ∃ z, (decide (1 ≤ r) && decide (r ≤ 256)) = z := ⟨_, rfl⟩
 obtain ⟨z2, f2⟩ : ∃ z, (decide (0 ≤ c) && decide (c ≤ 1099511627776)) = z := ⟨_, rfl⟩
 have HE := Lib.hid (HM.right_three ep er ec f0 f1 f2)
 clear ep er ec
 have C0 := fun w => dfrom_is f0 w
 have C1 := fun w => dfrom_is f1 w
 have C2 := fun w => dfrom_is f2 w
 clear f0 f1 f2
 have tok0 : True := trivial
 cases z0
 ·
  go_enter Tryz.func31, Tryz.ntmps31
  go_wp2_with (first | ((with_reducible refine at_box 1 ?_); refine wpList_box_own O (M.mat 3 (d)) rfl ?_; clear O; intro g1 w1 O) | ((with_reducible refine at_load 4 ?_); refine wpList_cell_h (v := .int .i64 (p)) rfl O.held 0 rfl Cp.out rfl agg3 rfl ?_) | (go_at_call 50; clear tok0; have tok1 : True := trivial; refine (C0 _).mono ?_; rintro e w' ⟨rfl, rfl⟩))
  go_ret
  exact ⟨by rw [HE.out]; rfl, O.below⟩
 ·
  cases z1
  ·
   go_enter Tryz.func31, Tryz.ntmps31
   go_wp2_with (first | ((with_reducible refine at_box 1 ?_); refine wpList_box_own O (M.mat 3 (d)) rfl ?_; clear O; intro g1 w1 O) | ((with_reducible refine at_load 4 ?_); refine wpList_cell_h (v := .int .i64 (p)) rfl O.held 0 rfl Cp.out rfl agg3 rfl ?_) | (go_at_call 50; clear tok0; have tok1 : True := trivial; refine (C0 _).mono ?_; rintro e w' ⟨rfl, rfl⟩) | ((with_reducible refine at_load 8 ?_); refine wpList_cell_h (v := .int .i64 (r)) rfl O.held 0 rfl Cr.out rfl agg3 rfl ?_) | (go_at_call 50; clear tok1; have tok2 : True := trivial; refine (C1 _).mono ?_; rintro e w' ⟨rfl, rfl⟩))
   go_ret
   exact ⟨by rw [HE.out]; rfl, O.below⟩
  ·
   cases z2
   all_goals
    go_enter Tryz.func31, Tryz.ntmps31
    go_wp2_with (first | ((with_reducible refine at_box 1 ?_); refine wpList_box_own O (M.mat 3 (d)) rfl ?_; clear O; intro g1 w1 O) | ((with_reducible refine at_load 4 ?_); refine wpList_cell_h (v := .int .i64 (p)) rfl O.held 0 rfl Cp.out rfl agg3 rfl ?_) | (go_at_call 50; clear tok0; have tok1 : True := trivial; refine (C0 _).mono ?_; rintro e w' ⟨rfl, rfl⟩) | ((with_reducible refine at_load 8 ?_); refine wpList_cell_h (v := .int .i64 (r)) rfl O.held 0 rfl Cr.out rfl agg3 rfl ?_) | (go_at_call 50; clear tok1; have tok2 : True := trivial; refine (C1 _).mono ?_; rintro e w' ⟨rfl, rfl⟩) | ((with_reducible refine at_load 13 ?_); refine wpList_cell_h (v := .int .i64 (c)) rfl O.held 0 rfl Cc.out rfl agg3 rfl ?_) | (go_at_call 50; clear tok2; have tok3 : True := trivial; refine (C2 _).mono ?_; rintro e w' ⟨rfl, rfl⟩))
    go_ret
    exact ⟨by rw [HE.out]; rfl, O.below⟩
namespace HM
def near (n : Int) : Bool := decide (0 ≤ n) && decide (n ≤ 1099511627776)
theorem near_of {n : Int} (h : 0 ≤ n ∧ n ≤ 1099511627776) : near n = true := by simp [near, h.1, h.2]
end HM
set_option maxHeartbeats 4000000 in
theorem asked_any (d : Nat → Int) (n : Int) (hr : HM.right d = true) (hn : 0 ≤ n ∧ n ≤ 1099511627776) (w : World) : Calls Tryz.prog 42 #[arr 3 d, .int .i64 n] w fun e w' => e = .returned (.bool true) ∧ Below w.heap.size w w' := by
 have O := Own.start w
 have CR := fun w => pright_any d w
 rw [hr] at CR
 have CF := fun w => dfrom_is (HM.near_of hn) w
 clear hn hr
 go_enter Tryz.func42, Tryz.ntmps42
 go_wp2_with (first | ((with_reducible refine at_box 2 ?_); refine wpList_box_own O (M.mat 3 (d)) rfl ?_; clear O; intro g2 w1 O) | ((with_reducible refine at_load 5 ?_); refine wpList_whole rfl O 0 rfl rfl Tryz.underlying27 rfl (sH _) ?_) | (go_at_call 31; refine (CR _).mono ?_; rintro e w3 ⟨rfl, hb⟩; replace O := O.call hb; clear hb) | (go_at_call 50; refine (CF _).mono ?_; rintro e w' ⟨rfl, rfl⟩))
 go_ret
 exact ⟨rfl, O.below⟩
theorem and_one {x : Int} (h0 : 0 ≤ x) (h1 : x < 9223372036854775808) : bits BinOp.and IntKind.i64 x 1 = x % 2 := by
 obtain ⟨n, rfl⟩ : ∃ n : Nat, x = n := ⟨x.toNat, by omega⟩
 have e1 : (BitVec.ofInt 64 (n : Int)).toNat = n := by
  rw [BitVec.ofInt_natCast, BitVec.toNat_ofNat]
  exact Nat.mod_eq_of_lt (by omega)
 have e2 : (BitVec.ofInt 64 (1 : Int)).toNat = 1 := by decide
 show IntKind.i64.wrap ((BitVec.ofInt 64 (n : Int) &&& BitVec.ofInt 64 (1 : Int)).toNat : Int) = _
 rw [BitVec.toNat_and, e1, e2, Nat.and_one_is_mod, IntWalk.i64_in _ (by omega)]
 omega
set_option maxHeartbeats 4000000 in
theorem plitin_any (d : Nat → Int) (k : Int) (hr : HM.right d = true) (hn : 0 ≤ k ∧ k ≤ 1099511627776) (w : World) : Calls Tryz.prog 43 #[arr 3 d, .int .i64 k] w fun e w' => e = .returned (.bool (HM.litF d k)) ∧ Below w.heap.size w w' := by
 have O := Own.start w
 rw [HM.right_iff] at hr
 unfold HM.litF
 obtain ⟨p, ep⟩ : ∃ z, d 0 = z := ⟨_, rfl⟩
 have Cp := cell_is (n := 3) ep (by decide)
 obtain ⟨r, er⟩ : ∃ z, d 1 = z := ⟨_, rfl⟩
 have Cr := cell_is (n := 3) er (by decide)
 obtain ⟨c, ec⟩ : ∃ z, d 2 = z := ⟨_, rfl⟩
 have Cc := cell_is (n := 3) ec (by decide)
 rw [ep, er, ec] at hr ⊢
 clear ep er ec
 obtain ⟨⟨p0, p1⟩, ⟨r0, r1⟩, c0, c1⟩ := hr
 obtain ⟨b0, b1⟩ := @HM.bit_lim r c k
 have hd := Int.ediv_nonneg (show 0 ≤ c + k by omega) (show 0 ≤ r by omega)
 have hd2 := Int.ediv_le_self r (show 0 ≤ c + k by omega)
 have W1 : wrap64 (c + k) = c + k := IntWalk.wrap64_in _ (by omega)
 have e1 : (c + k).tdiv r = (c + k) / r := Int.tdiv_eq_ediv_of_nonneg (by omega)
 have e2 : ((c + k) / r).tmod 16 = HM.bit r c k := Int.tmod_eq_emod_of_nonneg hd
 have W3 : wrap64 ((c + k) / r) = (c + k) / r := IntWalk.wrap64_in _ (by omega)
 have HE : Hid (HM.lit p r c k = (HM.half p (HM.bit r c k).toNat % 2 == 1)) := Lib.hid rfl
 have hh := HM.half_lim p0 p1 (HM.bit r c k).toNat
 have hp := HM.half_pow p (HM.bit r c k).toNat
 generalize HM.lit p r c k = z at *
 generalize HM.bit r c k = B at *
 generalize HM.half p B.toNat = y at *
 have EA := and_one hh.1 (by omega)
 have n1 : ¬ r = 0 := by omega
 obtain ⟨q, hq⟩ : ∃ q, (c + k) / r = q := ⟨_, rfl⟩
 obtain ⟨s, hs⟩ : ∃ s, c + k = s := ⟨_, rfl⟩
 rw [hq] at e1 e2 W3
 rw [hs] at W1 e1
 obtain ⟨v, hv⟩ : ∃ v, y % 2 = v := ⟨_, rfl⟩
 rw [hv] at EA HE
 have EP : p / 2 ^ B.toNat = y := hp.symm
 clear hp hq hv p0 p1 r0 r1 c0 c1 hn hd hd2 hh
 go_enter Tryz.func43, Tryz.ntmps43
 cases hz : v == 1
 all_goals
  rw [hz] at HE
  go_wp2_with (first | ((with_reducible refine at_box 2 ?_); refine wpList_box_own O (M.mat 3 (d)) rfl ?_; clear O; intro g2 w1 O) | ((with_reducible refine at_load 7 ?_); refine wpList_cell_h (v := .int .i64 (c)) rfl O.held 0 rfl Cc.out rfl agg3 rfl ?_) | ((with_reducible refine at_load 11 ?_); refine wpList_cell_h (v := .int .i64 (r)) rfl O.held 0 rfl Cr.out rfl agg3 rfl ?_) | ((with_reducible refine at_load 15 ?_); refine wpList_cell_h (v := .int .i64 (p)) rfl O.held 0 rfl Cp.out rfl agg3 rfl ?_))
  go_ret
  exact ⟨by rw [HE.out]; rfl, O.below⟩
set_option maxHeartbeats 4000000 in
theorem plit_any (d : Nat → Int) (k : Int) (hr : HM.right d = true) (hn : 0 ≤ k ∧ k ≤ 1099511627776) (w : World) : Calls Tryz.prog 18 #[arr 3 d, .int .i64 k] w fun e w' => e = .returned (.bool (HM.litF d k)) ∧ Below w.heap.size w w' := by
 have O := Own.start w
 have CA := fun w => asked_any d k hr hn w
 have CL := fun w => plitin_any d k hr hn w
 generalize HM.litF d k = z at *
 clear hr hn
 cases z
 all_goals
  go_enter Tryz.func18, Tryz.ntmps18
  go_wp2_with (first | ((with_reducible refine at_box 2 ?_); refine wpList_box_own O (M.mat 3 (d)) rfl ?_; clear O; intro g2 w1 O) | ((with_reducible first | refine at_load 5 ?_ | refine at_load 9 ?_); refine wpList_whole rfl O 0 rfl rfl Tryz.underlying27 rfl (sH _) ?_) | (go_at_call 42; refine (CA _).mono ?_; rintro e w3 ⟨rfl, hb⟩; replace O := O.call hb; clear hb) | (go_at_call 43; refine (CL _).mono ?_; rintro e w4 ⟨rfl, hb⟩; replace O := O.call hb; clear hb))
  go_ret
  exact ⟨rfl, O.below⟩
set_option maxHeartbeats 4000000 in
theorem pnext_any (d : Nat → Int) (n : Int) (hr : HM.right d = true) (hn : 0 ≤ n ∧ n ≤ 1099511627776) (w : World) : Calls Tryz.prog 19 #[arr 3 d, .int .i64 n] w fun e w' => e = .returned (arr 3 (HM.nextF d n)) ∧ Below w.heap.size w w' := by
 have O := Own.start w
 have CA := fun w => asked_any d n hr hn w
 rw [HM.right_iff] at hr
 unfold HM.nextF
 obtain ⟨p, ep⟩ : ∃ z, d 0 = z := ⟨_, rfl⟩
 have Cp := cell_is (n := 3) ep (by decide)
 obtain ⟨r, er⟩ : ∃ z, d 1 = z := ⟨_, rfl⟩
 have Cr := cell_is (n := 3) er (by decide)
 obtain ⟨c, ec⟩ : ∃ z, d 2 = z := ⟨_, rfl⟩
 have Cc := cell_is (n := 3) ec (by decide)
 have HS : Hid (∀ z, d 2 = c → (M.mat 3 d).set 2 (.int .i64 z) = M.mat 3 (HM.t3 p r z)) := Lib.hid (fun z _ => by rw [← ep, ← er]; rfl)
 have HC := Lib.hid ec
 rw [ep, er, ec] at hr ⊢
 clear ep er ec
 obtain ⟨⟨p0, p1⟩, ⟨r0, r1⟩, c0, c1⟩ := hr
 have hl := @HM.later_lim r c n r0 r1
 have W1 : wrap64 (c + n) = c + n := IntWalk.wrap64_in _ (by omega)
 have W2 : wrap64 (16 * r) = 16 * r := IntWalk.wrap64_in _ (by omega)
 have e1 : (c + n).tmod (16 * r) = HM.later r c n := Int.tmod_eq_emod_of_nonneg (by omega)
 generalize HM.later r c n = z at *
 have n0 : ¬ 16 * r = 0 := by omega
 obtain ⟨m, hm⟩ : ∃ m, 16 * r = m := ⟨_, rfl⟩
 obtain ⟨s, hs⟩ : ∃ s, c + n = s := ⟨_, rfl⟩
 rw [hm] at W2 e1 n0
 rw [hs] at W1 e1
 have n1 : ¬ m = 0 := n0
 clear p0 p1 r0 r1 c0 c1 hn n0 hl
 go_enter Tryz.func19, Tryz.ntmps19
 go_wp2_with (first | ((with_reducible refine at_box 2 ?_); refine wpList_box_own O (M.mat 3 (d)) rfl ?_; clear O; intro g2 w1 O) | ((with_reducible refine at_alloc 4 ?_); refine wpList_alloc_own O (M.mat 3 M.zero) zeroH ?_; clear O; intro g4 w2 O) | ((with_reducible first | refine at_load 5 ?_ | refine at_load 19 ?_); refine wpList_whole rfl O 1 rfl rfl Tryz.underlying27 rfl (sH _) ?_) | (go_at_call 42; refine (CA _).mono ?_; rintro e w5 ⟨rfl, hb⟩; replace O := O.call hb; clear hb) | ((with_reducible refine at_load 11 ?_); refine wpList_cell_h (v := .int .i64 (c)) rfl O.held 1 rfl Cc.out rfl agg3 rfl ?_) | ((with_reducible refine at_load 15 ?_); refine wpList_cell_h (v := .int .i64 (r)) rfl O.held 1 rfl Cr.out rfl agg3 rfl ?_) | ((with_reducible refine at_store 18 ?_); refine wpList_set_own O 1 (i := 2) (.int .i64 z) rfl (by rw [M.mat_len]; omega) rfl (by first | rfl | exact congrArg (Value.int IntKind.i64) e1) size3 rfl rfl ?_; clear O; intro w3 O; have O9 := Own.as O (l' := [(g4, 27, M.mat 3 M.zero), (g2, 27, M.mat 3 (HM.t3 p r z))]) (by rw [← HS.out z HC.out]; rfl); clear O; have O := O9; clear O9) | ((with_reducible refine at_store 4 ?_); refine wpList_put_own O 0 (M.mat 3 (HM.t3 p r z)) rfl rfl rfl (sH _) (M.mat_len2 _ _ _) (M.mat_one _ _) ?_; clear O; intro w4 O))
 exact bodyPost_ret (v := arr 3 (HM.t3 p r z)) (res_h rfl O.held 0 rfl rfl Tryz.underlying27 rfl (sH _)) rfl ⟨rfl, O.below⟩
end Go.Proofs.YtpfhaocmcfnhnaaGreat
