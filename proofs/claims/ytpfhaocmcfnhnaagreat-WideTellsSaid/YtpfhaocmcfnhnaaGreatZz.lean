/- Marks in memory. Contract: the document's into. Plain: the marks of a line, and those found up to a place of the scan. Contract: the document's Number. What the document does at a place of the scan. -/
import Derived.Test.YtpfhaocmcfnhnaaGreatWx
import Derived.Test.YtpfhaocmcfnhnaaGreatXc
import Derived.Test.YtpfhaocmcfnhnaaGreatRe
import Derived.Test.YtpfhaocmcfnhnaaGreatXb
import Derived.Test.YtpfhaocmcfnhnaaGreatWs
namespace Go.Proofs.YtpfhaocmcfnhnaaGreat
open Go.ChangeShapes Go.WideShapes Go.ChangeAt Go.RowKit
set_option linter.unusedVariables false
set_option linter.unusedSimpArgs false

theorem sizeK : (Tryz.prog.info? 70).map (·.size) = some 10 := by kernel_rfl
theorem sK (a : Nat → Int) : (Tryz.prog.info? 70).map (·.size) = some (M.mat 10 a).length := by rw [M.mat_len]; exact sizeK
theorem sizeOfK (w : World) : (sizeOf 70).run Tryz.prog w = .ok 10 w := by kernel_rfl
theorem infoK : (Tryz.prog.info? 70).map (fun i => (i.zero, i.size)) = some (some (.agg (M.mat 10 M.zero).toArray), 10) := by kernel_rfl
theorem infoKs : (Tryz.prog.info? 70).map (·.size) = some 10 := by kernel_rfl
theorem infoKb : (Tryz.prog.info? 70).map (fun i => (i.zero, i.size, i.bytes)) = some (some (.agg (M.mat 10 M.zero).toArray), 10, 80) := by kernel_rfl
/-- A mark. -/
def WD.mk (k m : Int) (f : Nat → Int) (i : Nat) : Int := if i = 0 then k else if i = 1 then m else f (i - 2)
theorem builtK (k m : Int) (f : Nat → Int) : Tryz.prog.built 70 [(0, .int .i64 k), (1, .int .i64 m), (2, arr 8 f)] = some (M.mat 10 (WD.mk k m f)).toArray := by kernel_rfl
/-- Marks in memory. -/
def kC (l : List (Nat → Int)) : List Value := l.flatMap (fun f => M.mat 10 f)
theorem kC_len (l : List (Nat → Int)) : (kC l).length = l.length * 10 := flat_len _ 10 (fun f => M.mat_len 10 f) l
theorem kC_at {l : List (Nat → Int)} {i : Nat} {x : Nat → Int} (h : l[i]? = some x) : ∀ j v, (M.mat 10 x)[j]? = some v → (kC l)[i * 10 + j]? = some v := flat_at (fun f => M.mat 10 f) 10 (fun f => M.mat_len 10 f) h
theorem kC_app (a b : List (Nat → Int)) : kC (a ++ b) = kC a ++ kC b := by simp [kC]
theorem kC_part (l : List (Nat → Int)) (i k : Nat) : ((kC l).drop (i * 10)).take (k * 10) = kC ((l.drop i).take k) := flat_part (fun f => M.mat 10 f) 10 (fun f => M.mat_len 10 f) l i k
theorem kC_one (l : List (Nat → Int)) : ∀ v ∈ kC l, v.oneCell' = true := by
 intro v hv
 obtain ⟨a, _, ha⟩ := List.mem_flatMap.1 hv
 exact M.mat_one 10 _ v ha
def kE (lo : Nat) (A : Option Addr) (c : Nat) (l : List (Nat → Int)) : Ent := ⟨lo, A, l.length, c, 10, kC l⟩
/-- A row of marks that grows. -/
def kR (A : Option Addr) (c : Nat) (l : List (Nat → Int)) : RowD := ⟨.slice A l.length c, 70, 10, l.length, kC l⟩
section
variable {w0 w : World} {bs : List (Nat × TypeId × List Value)} {es : List Ent} {A : Option Addr} {n c : Nat}
theorem kR_of {l m : List (Nat → Int)} {v : Value} {n : Nat} (hn : n = l.length + m.length) (O : Held w0 w bs ⟨v, 70, 10, n, kC l ++ kC m⟩ es) : ∃ A c, v = .slice A (l ++ m).length c ∧ Held w0 w bs (kR A c (l ++ m)) es := by
 subst hn
 obtain ⟨A, c, hv⟩ := O.row_val'
 dsimp only at hv
 subst hv
 refine ⟨A, c, by simp, ?_⟩
 unfold kR
 rw [kC_app, List.length_append]
 exact O
/-- The row is cut behind its first k. -/
theorem Held.cutK {l : List (Nat → Int)} (O : Held w0 w bs (kR A c l) es) {k : Nat} (hk : k ≤ l.length) : Held w0 w bs (kR A c (l.take k)) es := by
 obtain ⟨h1, h2, h3, h4⟩ := O
 have hl : (l.take k).length = k := by rw [List.length_take]; omega
 have hw : w.ownsRow w0.heap.size 70 10 (.slice A (l.take k).length c) (l.take k).length (kC (l.take k)) := by
  refine ⟨kC_len _, ?_⟩
  rcases h2.2 with ⟨hv, hn⟩ | ⟨g, cap, cur, hv, hb, hg, hnc, hm, hcs, ht⟩
  ·
   refine .inl ?_
   dsimp only [kR] at hv hn
   rw [hl]
   injection hv with e1 e2 e3
   subst e1 e3
   refine ⟨?_, by omega⟩
   rw [show k = 0 by omega]
  ·
   refine .inr ⟨g, cap, cur, ?_, hb, hg, by dsimp only [kR] at hnc; omega, hm, hcs, ?_⟩
   ·
    dsimp only [kR] at hv
    injection hv with e1 e2 e3
    rw [e1, e3]
   ·
    dsimp only [kR] at ht
    have h5 := kC_part l 0 k
    rw [Nat.zero_mul, List.drop_zero, List.drop_zero] at h5
    rw [hl, ← h5, ← ht, List.take_take, Nat.min_eq_left (Nat.mul_le_mul_right 10 hk)]
 refine ⟨h1, hw, ?_, ?_⟩
 ·
  intro x hx e
  refine h3 x hx ?_
  rw [← e]
  cases A <;> rfl
 ·
  intro x hx
  refine (h4 x hx).turn (Nat.le_refl _) (fun _ _ _ => rfl) (fun b _ hn hm => hn ?_)
  rcases hm with e | e
  ·
   refine .inl ?_
   rw [← e]
   cases A <;> rfl
  · exact .inr e
end
section
variable {P : Program} {ops : Array Oper} {Q : Exit → Act → World → Prop} {a : Act} {w w0 : World} {rest : List Oper} {bs : List (Nat × TypeId × List Value)} {R : RowD} {es : List Ent} {dst : Option Tmp} {ty : TypeId} {pos : String} {after : Array Edge} {K : Act → World → Prop}
theorem sliced_hi (A : Option Addr) (i c s : Nat) : sliced A 0 i c s = .slice A i c := by
 unfold sliced
 rw [Nat.zero_mul, Nat.sub_zero, Nat.sub_zero]
 split
 · rfl
 ·
  cases A with
  | none => rfl
  | some ad => simp [Addr.add]
/-- A part of a list, up to an element. -/
theorem wp_part_hi {t e : TypeId} {x y : Operand} {gd : Option (Nat × Bool)} {s n c : Nat} {A : Option Addr} (hu : P.underlying t = some (.slice e)) (hs : ∀ w, (sizeOf e).run P w = .ok s w) (hx : a.eval x = .slice A n c) {kd : IntKind} (i : Nat) (hy : a.eval y = .int kd (i : Int)) (hi : i ≤ c)
  (h : K (a.put dst (.slice A i c)) w) : Oper.wp P ⟨dst, .slice t x none (some y) none, ty, pos, after, gd⟩ a w K Q := by
 have he : P.elem t = e := by simp [Program.elem, hu]
 have ht : P.underlying t = some (.slice (P.elem t)) := by rw [he, hu]
 have hr : (Instr.sliceAt t (.slice A n c) none (some (.int kd i)) none).run P w = .ok (.slice A i c) w := by
  rw [run_sliceAt_slice w t _ _ _ _ ht, run_slice_h w t A n c ht kd i (by omega) (by omega), he, hs, Result.andThen_ok, ← sliced_hi A i c s]
  rfl
 unfold Oper.wp execOp
 simp only [hx, hy, Option.map_some, Option.map_none, Sem.run_bind, hr, Result.andThen_ok]
 exact h
/-- A part of a list, from an element on. -/
theorem wp_part_lo {t e : TypeId} {x y : Operand} {gd : Option (Nat × Bool)} {s n c m cc : Nat} {A B : Option Addr} (hu : P.underlying t = some (.slice e)) (hs : ∀ w, (sizeOf e).run P w = .ok s w) (hx : a.eval x = .slice A n c) {kd : IntKind} (i : Nat) (hy : a.eval y = .int kd (i : Int)) (hi : i ≤ n)
  (hB : (if c = i then A else A.map (·.add (i * s))) = B) (hm : n - i = m) (hc : c - i = cc) (h : K (a.put dst (.slice B m cc)) w) : Oper.wp P ⟨dst, .slice t x (some y) none none, ty, pos, after, gd⟩ a w K Q := by
 have he : P.elem t = e := by simp [Program.elem, hu]
 have ht : P.underlying t = some (.slice (P.elem t)) := by rw [he, hu]
 have hr : (Instr.sliceAt t (.slice A n c) (some (.int kd i)) none none).run P w = .ok (.slice B m cc) w := by
  rw [run_sliceAt_slice w t _ _ _ _ ht, run_slice_l w t A n c ht kd i (by omega) (by omega), he, hs, Result.andThen_ok, ← hB, ← hm, ← hc]
  rfl
 unfold Oper.wp execOp
 simp only [hx, hy, Option.map_some, Option.map_none, Sem.run_bind, hr, Result.andThen_ok]
 exact h
theorem wpList_part_lo {t e : TypeId} {x y : Operand} {s n c m cc : Nat} {A B : Option Addr} (hu : P.underlying t = some (.slice e)) (hs : ∀ w, (sizeOf e).run P w = .ok s w) (hx : a.eval x = .slice A n c) {kd : IntKind} (i : Nat) (hy : a.eval y = .int kd (i : Int)) (hi : i ≤ n)
  (hB : (if c = i then A else A.map (·.add (i * s))) = B) (hm : n - i = m) (hc : c - i = cc) (h : wpList P ops Q rest (a.put dst (.slice B m cc)) w) : wpList P ops Q (⟨dst, .slice t x (some y) none none, ty, pos, after, none⟩ :: rest) a w :=
 wpList_plain rfl fun K hK => wp_part_lo hu hs hx i hy hi hB hm hc (hK _ _ h)
theorem at_part (d : Nat) {t : TypeId} {x : Operand} {l h_ m : Option Operand} {gd : Option (Nat × Bool)} (h : wpList P ops Q (⟨some d, .slice t x l h_ m, ty, pos, after, gd⟩ :: rest) a w) : wpList P ops Q (⟨some d, .slice t x l h_ m, ty, pos, after, gd⟩ :: rest) a w := h
end
section
variable {w0 w : World} {bs : List (Nat × TypeId × List Value)} {es : List Ent}
theorem Held.row_entK {A : Option Addr} {c : Nat} {l : List (Nat → Int)} (O : Held w0 w bs (kR A c l) es) : Lies w free (kE w0.heap.size A c l) := by
 obtain ⟨A2, c2, hv, hl⟩ := row_lies O.2.1
 dsimp only [kR] at hv hl
 injection hv with e1 e2 e3
 subst e1 e3
 exact hl free (fun _ _ h => h)
theorem Held.row_capK {A : Option Addr} {c : Nat} {l : List (Nat → Int)} (O : Held w0 w bs (kR A c l) es) : l.length ≤ c := (O.row_entK).2.1
end
theorem part_entK {w : World} {no : Nat → Prop} {lo c : Nat} {A : Option Addr} {l : List (Nat → Int)} (h : Lies w no (kE lo A c l)) {k : Nat} (hk : k ≤ l.length) {B : Option Addr} {cc : Nat} (hB : (if c = k then A else A.map (·.add (k * 10))) = B) (hc : c - k = cc) : Lies w no (kE lo B cc (l.drop k)) := by
 have h1 := Lies.part (lo := lo) (n := l.length) (c := c) (s := 10) (A := A) (xs := kC l) h k l.length hk (Nat.le_refl _)
 rw [hB, hc, kC_part, List.take_of_length_le (by rw [List.length_drop]; exact Nat.le_refl _)] at h1
 unfold kE
 rw [List.length_drop]
 exact h1
end Go.Proofs.YtpfhaocmcfnhnaaGreat
namespace Go.Proofs.YtpfhaocmcfnhnaaGreat
open Go.ChangeShapes Go.WideShapes Go.ChangeAt Go.RowKit
set_option linter.unusedVariables false
set_option linter.unusedSimpArgs false

namespace WD
/-- Comes a mark ahead of another one? -/
def ltk (y x : Nat → Int) : Prop := y 0 < x 0 ∨ (y 0 = x 0 ∧ y 1 < x 1)
end WD
/-- How a row of marks is handed back, with one more. -/
def RetI (w0 : World) (bs : List (Nat × TypeId × List Value)) (L : List (Nat → Int)) (x : Nat → Int) (e : Ending) (w' : World) : Prop :=
 ∃ k A c, k ≤ L.length ∧ (∀ i y, i < k → L[i]? = some y → WD.ltk y x) ∧ (∀ y, L[k]? = some y → ¬ WD.ltk y x) ∧ e = .returned (.slice A (L.take k ++ [x] ++ L.drop k).length c) ∧ Held w0 w' bs (kR A c (L.take k ++ [x] ++ L.drop k)) []
set_option maxRecDepth 100000 in
set_option maxHeartbeats 32000000 in
theorem into_any {w0 w : World} {bs : List (Nat × TypeId × List Value)} {A : Option Addr} {c : Nat} (L : List (Nat → Int)) (x : Nat → Int) (hlen : L.length ≤ 100000) (O : Held w0 w bs (kR A c L) []) : Calls Tryz.prog 28 #[.slice A L.length c, arr 10 x] w (RetI w0 bs L x) := by
 obtain ⟨xk, hxk⟩ : ∃ z, x 0 = z := ⟨_, rfl⟩
 obtain ⟨xm, hxm⟩ : ∃ z, x 1 = z := ⟨_, rfl⟩
 have CK : Hid ((M.mat 10 x)[0]? = some (.int .i64 xk)) := cell_is hxk (by decide)
 have CM : Hid ((M.mat 10 x)[1]? = some (.int .i64 xm)) := cell_is hxm (by decide)
 have HXK := Lib.hid hxk
 have HXM := Lib.hid hxm
 clear hxk hxm
 go_enter Tryz.func28, Tryz.ntmps28
 go_wp2_with ((with_reducible refine at_box 3 ?_); refine wpList_box_h O (M.mat 10 (x)) rfl ?_; clear O; intro g3 w1 O)
 have OX : Held w0 w1 ((g3, 70, M.mat 10 x) :: bs) (kR A c L) [] := O
 clear O
 have O := OX
 clear OX
 go_loopw [5] (fun t_ wr => ∃ k : Nat, k ≤ L.length ∧ t_ = .int .i64 k ∧ Hid (∀ i y, i < k → L[i]? = some y → WD.ltk y x) ∧ Held w0 wr ((g3, 70, M.mat 10 x) :: bs) (kR A c L) []) (fun t_ _ => L.length - (intOf t_).toNat)
 case atStart => exact ⟨0, Nat.zero_le _, rfl, Lib.hid (fun i s h => absurd h (Nat.not_lt_zero _)), O⟩
 case round =>
  clear O
  obtain ⟨k, hk, rfl, HB, O⟩ := hrel
  have q0 : (0 : Int) ≤ k := by omega
  have W1 : wrap64 ((k : Int) + 1) = (k : Int) + 1 := IntWalk.wrap64_in _ (by omega)
  have hcap := O.row_capK
  by_cases hlk : k < L.length
  ·
   have q1 : (k : Int) < L.length := by omega
   have kf : decide ((k : Int) < L.length) = true := decide_eq_true q1
   have kf2 : decide (k < L.length) = true := decide_eq_true hlk
   obtain ⟨y, hx⟩ : ∃ y, L[k]? = some y := ⟨_, List.getElem?_eq_getElem hlk⟩
   obtain ⟨sk, hsk⟩ : ∃ z, y 0 = z := ⟨_, rfl⟩
   obtain ⟨sm, hsm⟩ : ∃ z, y 1 = z := ⟨_, rfl⟩
   have HSK : Hid ((kE w0.heap.size A c L).xs[k * 10]? = some (.int .i64 sk)) := Lib.hid (by
    have := kC_at hx 0 (.int .i64 sk) (by rw [← hsk]; rfl)
    exact this)
   have HSM : Hid ((kE w0.heap.size A c L).xs[k * 10 + 1]? = some (.int .i64 sm)) := Lib.hid (by
    have := kC_at hx 1 (.int .i64 sm) (by rw [← hsm]; rfl)
    exact this)
   have HX := Lib.hid hx
   have hlt : WD.ltk y x ↔ sk < xk ∨ (sk = xk ∧ sm < xm) := by
    unfold WD.ltk
    rw [hsk, hsm, HXK.out, HXM.out]
   have hge : ¬ WD.ltk y x → ∀ z, L[k]? = some z → ¬ WD.ltk z x := fun h z hz => by
    rw [hx] at hz
    have := Option.some.inj hz
    rw [← this]
    exact h
   clear hx hsk hsm
   by_cases h1 : sk < xk
   ·
    have HLT := Lib.hid (hlt.2 (.inl h1))
    have kl : decide (sk < xk) = true := decide_eq_true h1
    have kl2 : (sk < xk) = True := eq_true h1
    clear hlt hge h1
    go_wp2_with fail
    have OO := O
    clear O
    have O := OO
    clear OO
    refine region_T ((fun w2 => Held w0 w2 ((g3, 70, M.mat 10 x) :: bs) (kR A c L) [])) [0, 1, 2, 3, 4, 5, 6, 7, 8, 9, 10, 11, 12, 13, 14, 15, 16, 17, 18, 19, 20, 21, 22, 23, 24, 25, 26, 27, 28, 29, 30, 31, 32, 33] 12 [some 7, some 8, some 9, some 10, some 11, some 12, some 13, some 14, some 15, some 16, some 17, some 18, some 19, some 20, some 21, some 22, some 23, some 24, some 25, some 26, some 27, some 28, some 29, some 30, some 31, some 32, some 33, some 34, some 35, some 36, some 37, some 38, some 39, some 40] [.int .i64 (k : Int), .slice A L.length c, .int .i64 (L.length : Int), .bool true, .bool true, .slice A L.length c, .int .i64 (k : Int), .pointer (some ((adr A).add (k * 10))), .pointer (some ((adr A).add (k * 10))), .int .i64 (sk), .pointer (some ⟨g3, 0, none⟩), .int .i64 (xk), .bool true, .bool true, undef, undef, undef, undef, undef, undef, undef, undef, undef, undef, undef, undef, undef, undef, undef, undef, undef, undef, .bool true, .bool true] 0 (by kernel_rfl) (by rfl) (by kernel_rfl) (by rfl) (by rfl) (O.drew) (fun F hF => ?_)
    simp only [fillD, Act.put, List.setIfInBounds_toArray, List.set_cons_zero, List.set_cons_succ] at hF
    subst hF
    refine ⟨⟨does_want rfl (by rfl) (fun w' O K hK => ?_), does_want rfl (by rfl) (fun w' O K hK => ?_), does_want rfl (by rfl) (fun w' O K hK => ?_), does_want rfl (by rfl) (fun w' O K hK => ?_), does_want rfl (by rfl) (fun w' O K hK => ?_), does_want rfl (by rfl) (fun w' O K hK => ?_), does_want rfl (by rfl) (fun w' O K hK => ?_), does_want rfl (by rfl) (fun w' O K hK => ?_), does_want rfl (by rfl) (fun w' O K hK => ?_), does_want rfl (by rfl) (fun w' O K hK => ?_), does_want rfl (by rfl) (fun w' O K hK => ?_), does_want rfl (by rfl) (fun w' O K hK => ?_), does_want rfl (by rfl) (fun w' O K hK => ?_), does_want rfl (by rfl) (fun w' O K hK => ?_), does_skip rfl (by rfl), does_skip rfl (by rfl), does_skip rfl (by rfl), does_skip rfl (by rfl), does_skip rfl (by rfl), does_skip rfl (by rfl), does_skip rfl (by rfl), does_skip rfl (by rfl), does_skip rfl (by rfl), does_skip rfl (by rfl), does_skip rfl (by rfl), does_skip rfl (by rfl), does_skip rfl (by rfl), does_skip rfl (by rfl), does_skip rfl (by rfl), does_skip rfl (by rfl), does_skip rfl (by rfl), does_skip rfl (by rfl), does_want rfl (by rfl) (fun w' O K hK => ?_), does_want rfl (by rfl) (fun w' O K hK => ?_), trivial⟩, fun w' O => ?_⟩
    ·
     go_simp
     exact hK _ O
    ·
     go_simp
     exact hK _ O
    ·
     go_simp
     exact hK _ O
    ·
     go_simp
     first | exact hK _ O | (simp only [kf]; exact hK _ O) | (simp only [kf, decide_true, decide_false]; exact hK _ O) | (simp only [kf2]; exact hK _ O) | (simp only [kf2, decide_true, decide_false]; exact hK _ O)
    ·
     go_simp
     exact hK _ O
    ·
     go_simp
     exact hK _ O
    ·
     go_simp
     exact hK _ O
    · exact wp_at_h Tryz.underlying62 sizeOfK (kE w0.heap.size A c L) O.row_entK rfl k rfl rfl (by omega) rfl (hK _ O)
    ·
     go_simp
     exact hK _ O
    · exact wp_ecell_h (kE w0.heap.size A c L) O.row_entK (k * 10) (v := .int .i64 sk) HSK.out rfl agg3 rfl (hK _ O)
    ·
     go_simp
     exact hK _ O
    · exact wp_cell_h (v := .int .i64 (xk)) O 0 rfl CK.out rfl agg3 rfl (hK _ O)
    ·
     go_simp
     first | exact hK _ O | (simp only [kl]; exact hK _ O) | (simp only [kl, decide_true, decide_false]; exact hK _ O) | (simp only [kl2]; exact hK _ O) | (simp only [kl2, decide_true, decide_false]; exact hK _ O)
    ·
     go_simp
     exact hK _ O
    ·
     go_simp
     exact hK _ O
    ·
     go_simp
     exact hK _ O
    refine wpAny_done (by kernel_rfl) ?_ _
    go_wp2_with fail
    go_roundw
    case rel => exact ⟨k + 1, by omega, by go_num, Lib.hid (fun i y hi hy => by
     rcases (by omega : i < k ∨ i = k) with e | e
     · exact HB.out i y e hy
     ·
      subst e
      rw [HX.out] at hy
      have := Option.some.inj hy
      rw [← this]
      exact HLT.out), O⟩
    case measure => first | exact meas_lt W1 hlk | exact meas_lt2 hlk
   ·
    have kl : decide (sk < xk) = false := decide_eq_false h1
    have kl2 : (sk < xk) = False := eq_false h1
    by_cases h2 : sk = xk
    ·
     have ke : decide (sk = xk) = true := decide_eq_true h2
     have ke2 : (sk == xk) = true := by simpa using h2
     have ke3 : (sk = xk) = True := eq_true h2
     by_cases h3 : sm < xm
     ·
      have HLT := Lib.hid (hlt.2 (.inr ⟨h2, h3⟩))
      have km : decide (sm < xm) = true := decide_eq_true h3
      have km2 : (sm < xm) = True := eq_true h3
      clear hlt hge h1 h2 h3
      go_wp2_with fail
      have OO := O
      clear O
      have O := OO
      clear OO
      refine region_T ((fun w2 => Held w0 w2 ((g3, 70, M.mat 10 x) :: bs) (kR A c L) [])) [0, 1, 2, 3, 4, 5, 6, 7, 8, 9, 10, 11, 12, 13, 14, 15, 16, 17, 18, 19, 20, 21, 22, 23, 24, 25, 26, 27, 28, 29, 30, 31, 32, 33] 12 [some 7, some 8, some 9, some 10, some 11, some 12, some 13, some 14, some 15, some 16, some 17, some 18, some 19, some 20, some 21, some 22, some 23, some 24, some 25, some 26, some 27, some 28, some 29, some 30, some 31, some 32, some 33, some 34, some 35, some 36, some 37, some 38, some 39, some 40] [.int .i64 (k : Int), .slice A L.length c, .int .i64 (L.length : Int), .bool true, .bool true, .slice A L.length c, .int .i64 (k : Int), .pointer (some ((adr A).add (k * 10))), .pointer (some ((adr A).add (k * 10))), .int .i64 (sk), .pointer (some ⟨g3, 0, none⟩), .int .i64 (xk), .bool false, .bool false, .slice A L.length c, .int .i64 (k : Int), .pointer (some ((adr A).add (k * 10))), .pointer (some ((adr A).add (k * 10))), .int .i64 (sk), .pointer (some ⟨g3, 0, none⟩), .int .i64 (xk), .bool true, .bool true, .slice A L.length c, .int .i64 (k : Int), .pointer (some ((adr A).add (k * 10))), .pointer (some ⟨((adr A).add (k * 10)).block, ((adr A).add (k * 10)).off + 1, none⟩), .int .i64 (sm), .pointer (some ⟨g3, 1, none⟩), .int .i64 (xm), .bool true, .bool true, .bool true, .bool true] 0 (by kernel_rfl) (by rfl) (by kernel_rfl) (by rfl) (by rfl) (O.drew) (fun F hF => ?_)
      simp only [fillD, Act.put, List.setIfInBounds_toArray, List.set_cons_zero, List.set_cons_succ] at hF
      subst hF
      refine ⟨⟨does_want rfl (by rfl) (fun w' O K hK => ?_), does_want rfl (by rfl) (fun w' O K hK => ?_), does_want rfl (by rfl) (fun w' O K hK => ?_), does_want rfl (by rfl) (fun w' O K hK => ?_), does_want rfl (by rfl) (fun w' O K hK => ?_), does_want rfl (by rfl) (fun w' O K hK => ?_), does_want rfl (by rfl) (fun w' O K hK => ?_), does_want rfl (by rfl) (fun w' O K hK => ?_), does_want rfl (by rfl) (fun w' O K hK => ?_), does_want rfl (by rfl) (fun w' O K hK => ?_), does_want rfl (by rfl) (fun w' O K hK => ?_), does_want rfl (by rfl) (fun w' O K hK => ?_), does_want rfl (by rfl) (fun w' O K hK => ?_), does_want rfl (by rfl) (fun w' O K hK => ?_), does_want rfl (by rfl) (fun w' O K hK => ?_), does_want rfl (by rfl) (fun w' O K hK => ?_), does_want rfl (by rfl) (fun w' O K hK => ?_), does_want rfl (by rfl) (fun w' O K hK => ?_), does_want rfl (by rfl) (fun w' O K hK => ?_), does_want rfl (by rfl) (fun w' O K hK => ?_), does_want rfl (by rfl) (fun w' O K hK => ?_), does_want rfl (by rfl) (fun w' O K hK => ?_), does_want rfl (by rfl) (fun w' O K hK => ?_), does_want rfl (by rfl) (fun w' O K hK => ?_), does_want rfl (by rfl) (fun w' O K hK => ?_), does_want rfl (by rfl) (fun w' O K hK => ?_), does_want rfl (by rfl) (fun w' O K hK => ?_), does_want rfl (by rfl) (fun w' O K hK => ?_), does_want rfl (by rfl) (fun w' O K hK => ?_), does_want rfl (by rfl) (fun w' O K hK => ?_), does_want rfl (by rfl) (fun w' O K hK => ?_), does_want rfl (by rfl) (fun w' O K hK => ?_), does_want rfl (by rfl) (fun w' O K hK => ?_), does_want rfl (by rfl) (fun w' O K hK => ?_), trivial⟩, fun w' O => ?_⟩
      ·
       go_simp
       exact hK _ O
      ·
       go_simp
       exact hK _ O
      ·
       go_simp
       exact hK _ O
      ·
       go_simp
       first | exact hK _ O | (simp only [kf]; exact hK _ O) | (simp only [kf, decide_true, decide_false]; exact hK _ O) | (simp only [kf2]; exact hK _ O) | (simp only [kf2, decide_true, decide_false]; exact hK _ O)
      ·
       go_simp
       exact hK _ O
      ·
       go_simp
       exact hK _ O
      ·
       go_simp
       exact hK _ O
      · exact wp_at_h Tryz.underlying62 sizeOfK (kE w0.heap.size A c L) O.row_entK rfl k rfl rfl (by omega) rfl (hK _ O)
      ·
       go_simp
       exact hK _ O
      · exact wp_ecell_h (kE w0.heap.size A c L) O.row_entK (k * 10) (v := .int .i64 sk) HSK.out rfl agg3 rfl (hK _ O)
      ·
       go_simp
       exact hK _ O
      · exact wp_cell_h (v := .int .i64 (xk)) O 0 rfl CK.out rfl agg3 rfl (hK _ O)
      ·
       go_simp
       first | exact hK _ O | (simp only [kl]; exact hK _ O) | (simp only [kl, decide_true, decide_false]; exact hK _ O) | (simp only [kl2]; exact hK _ O) | (simp only [kl2, decide_true, decide_false]; exact hK _ O)
      ·
       go_simp
       exact hK _ O
      ·
       go_simp
       exact hK _ O
      ·
       go_simp
       exact hK _ O
      · exact wp_at_h Tryz.underlying62 sizeOfK (kE w0.heap.size A c L) O.row_entK rfl k rfl rfl (by omega) rfl (hK _ O)
      ·
       go_simp
       exact hK _ O
      · exact wp_ecell_h (kE w0.heap.size A c L) O.row_entK (k * 10) (v := .int .i64 sk) HSK.out rfl agg3 rfl (hK _ O)
      ·
       go_simp
       exact hK _ O
      · exact wp_cell_h (v := .int .i64 (xk)) O 0 rfl CK.out rfl agg3 rfl (hK _ O)
      ·
       go_simp
       first | exact hK _ O | (simp only [ke]; exact hK _ O) | (simp only [ke, decide_true, decide_false]; exact hK _ O) | (simp only [ke2]; exact hK _ O) | (simp only [ke2, decide_true, decide_false]; exact hK _ O) | (simp only [ke3]; exact hK _ O) | (simp only [ke3, decide_true, decide_false]; exact hK _ O)
      ·
       go_simp
       exact hK _ O
      ·
       go_simp
       exact hK _ O
      ·
       go_simp
       exact hK _ O
      · exact wp_at_h Tryz.underlying62 sizeOfK (kE w0.heap.size A c L) O.row_entK rfl k rfl rfl (by omega) rfl (hK _ O)
      ·
       go_simp
       exact hK _ O
      · exact wp_ecell_h (kE w0.heap.size A c L) O.row_entK (k * 10 + 1) (v := .int .i64 sm) HSM.out (congrArg (fun z => Value.pointer (some z)) (add_fld _ (k * 10) 1 (by decide))) agg3 rfl (hK _ O)
      ·
       go_simp
       exact hK _ O
      · exact wp_cell_h (v := .int .i64 (xm)) O 0 rfl CM.out rfl agg3 rfl (hK _ O)
      ·
       go_simp
       first | exact hK _ O | (simp only [km]; exact hK _ O) | (simp only [km, decide_true, decide_false]; exact hK _ O) | (simp only [km2]; exact hK _ O) | (simp only [km2, decide_true, decide_false]; exact hK _ O)
      ·
       go_simp
       exact hK _ O
      ·
       go_simp
       exact hK _ O
      ·
       go_simp
       exact hK _ O
      refine wpAny_done (by kernel_rfl) ?_ _
      go_wp2_with fail
      go_roundw
      case rel => exact ⟨k + 1, by omega, by go_num, Lib.hid (fun i y hi hy => by
       rcases (by omega : i < k ∨ i = k) with e | e
       · exact HB.out i y e hy
       ·
        subst e
        rw [HX.out] at hy
        have := Option.some.inj hy
        rw [← this]
        exact HLT.out), O⟩
      case measure => first | exact meas_lt W1 hlk | exact meas_lt2 hlk
     ·
      have HGE := Lib.hid (hge (fun h => by
       rcases hlt.1 h with h | h
       · exact h1 h
       · exact h3 h.2))
      have km : decide (sm < xm) = false := decide_eq_false h3
      have km2 : (sm < xm) = False := eq_false h3
      clear hlt hge h1 h2 h3
      go_wp2_with fail
      have OO := O
      clear O
      have O := OO
      clear OO
      refine region_T ((fun w2 => Held w0 w2 ((g3, 70, M.mat 10 x) :: bs) (kR A c L) [])) [0, 1, 2, 3, 4, 5, 6, 7, 8, 9, 10, 11, 12, 13, 14, 15, 16, 17, 18, 19, 20, 21, 22, 23, 24, 25, 26, 27, 28, 29, 30, 31, 32, 33] 12 [some 7, some 8, some 9, some 10, some 11, some 12, some 13, some 14, some 15, some 16, some 17, some 18, some 19, some 20, some 21, some 22, some 23, some 24, some 25, some 26, some 27, some 28, some 29, some 30, some 31, some 32, some 33, some 34, some 35, some 36, some 37, some 38, some 39, some 40] [.int .i64 (k : Int), .slice A L.length c, .int .i64 (L.length : Int), .bool true, .bool true, .slice A L.length c, .int .i64 (k : Int), .pointer (some ((adr A).add (k * 10))), .pointer (some ((adr A).add (k * 10))), .int .i64 (sk), .pointer (some ⟨g3, 0, none⟩), .int .i64 (xk), .bool false, .bool false, .slice A L.length c, .int .i64 (k : Int), .pointer (some ((adr A).add (k * 10))), .pointer (some ((adr A).add (k * 10))), .int .i64 (sk), .pointer (some ⟨g3, 0, none⟩), .int .i64 (xk), .bool true, .bool true, .slice A L.length c, .int .i64 (k : Int), .pointer (some ((adr A).add (k * 10))), .pointer (some ⟨((adr A).add (k * 10)).block, ((adr A).add (k * 10)).off + 1, none⟩), .int .i64 (sm), .pointer (some ⟨g3, 1, none⟩), .int .i64 (xm), .bool false, .bool false, .bool false, .bool false] 0 (by kernel_rfl) (by rfl) (by kernel_rfl) (by rfl) (by rfl) (O.drew) (fun F hF => ?_)
      simp only [fillD, Act.put, List.setIfInBounds_toArray, List.set_cons_zero, List.set_cons_succ] at hF
      subst hF
      refine ⟨⟨does_want rfl (by rfl) (fun w' O K hK => ?_), does_want rfl (by rfl) (fun w' O K hK => ?_), does_want rfl (by rfl) (fun w' O K hK => ?_), does_want rfl (by rfl) (fun w' O K hK => ?_), does_want rfl (by rfl) (fun w' O K hK => ?_), does_want rfl (by rfl) (fun w' O K hK => ?_), does_want rfl (by rfl) (fun w' O K hK => ?_), does_want rfl (by rfl) (fun w' O K hK => ?_), does_want rfl (by rfl) (fun w' O K hK => ?_), does_want rfl (by rfl) (fun w' O K hK => ?_), does_want rfl (by rfl) (fun w' O K hK => ?_), does_want rfl (by rfl) (fun w' O K hK => ?_), does_want rfl (by rfl) (fun w' O K hK => ?_), does_want rfl (by rfl) (fun w' O K hK => ?_), does_want rfl (by rfl) (fun w' O K hK => ?_), does_want rfl (by rfl) (fun w' O K hK => ?_), does_want rfl (by rfl) (fun w' O K hK => ?_), does_want rfl (by rfl) (fun w' O K hK => ?_), does_want rfl (by rfl) (fun w' O K hK => ?_), does_want rfl (by rfl) (fun w' O K hK => ?_), does_want rfl (by rfl) (fun w' O K hK => ?_), does_want rfl (by rfl) (fun w' O K hK => ?_), does_want rfl (by rfl) (fun w' O K hK => ?_), does_want rfl (by rfl) (fun w' O K hK => ?_), does_want rfl (by rfl) (fun w' O K hK => ?_), does_want rfl (by rfl) (fun w' O K hK => ?_), does_want rfl (by rfl) (fun w' O K hK => ?_), does_want rfl (by rfl) (fun w' O K hK => ?_), does_want rfl (by rfl) (fun w' O K hK => ?_), does_want rfl (by rfl) (fun w' O K hK => ?_), does_want rfl (by rfl) (fun w' O K hK => ?_), does_want rfl (by rfl) (fun w' O K hK => ?_), does_want rfl (by rfl) (fun w' O K hK => ?_), does_want rfl (by rfl) (fun w' O K hK => ?_), trivial⟩, fun w' O => ?_⟩
      ·
       go_simp
       exact hK _ O
      ·
       go_simp
       exact hK _ O
      ·
       go_simp
       exact hK _ O
      ·
       go_simp
       first | exact hK _ O | (simp only [kf]; exact hK _ O) | (simp only [kf, decide_true, decide_false]; exact hK _ O) | (simp only [kf2]; exact hK _ O) | (simp only [kf2, decide_true, decide_false]; exact hK _ O)
      ·
       go_simp
       exact hK _ O
      ·
       go_simp
       exact hK _ O
      ·
       go_simp
       exact hK _ O
      · exact wp_at_h Tryz.underlying62 sizeOfK (kE w0.heap.size A c L) O.row_entK rfl k rfl rfl (by omega) rfl (hK _ O)
      ·
       go_simp
       exact hK _ O
      · exact wp_ecell_h (kE w0.heap.size A c L) O.row_entK (k * 10) (v := .int .i64 sk) HSK.out rfl agg3 rfl (hK _ O)
      ·
       go_simp
       exact hK _ O
      · exact wp_cell_h (v := .int .i64 (xk)) O 0 rfl CK.out rfl agg3 rfl (hK _ O)
      ·
       go_simp
       first | exact hK _ O | (simp only [kl]; exact hK _ O) | (simp only [kl, decide_true, decide_false]; exact hK _ O) | (simp only [kl2]; exact hK _ O) | (simp only [kl2, decide_true, decide_false]; exact hK _ O)
      ·
       go_simp
       exact hK _ O
      ·
       go_simp
       exact hK _ O
      ·
       go_simp
       exact hK _ O
      · exact wp_at_h Tryz.underlying62 sizeOfK (kE w0.heap.size A c L) O.row_entK rfl k rfl rfl (by omega) rfl (hK _ O)
      ·
       go_simp
       exact hK _ O
      · exact wp_ecell_h (kE w0.heap.size A c L) O.row_entK (k * 10) (v := .int .i64 sk) HSK.out rfl agg3 rfl (hK _ O)
      ·
       go_simp
       exact hK _ O
      · exact wp_cell_h (v := .int .i64 (xk)) O 0 rfl CK.out rfl agg3 rfl (hK _ O)
      ·
       go_simp
       first | exact hK _ O | (simp only [ke]; exact hK _ O) | (simp only [ke, decide_true, decide_false]; exact hK _ O) | (simp only [ke2]; exact hK _ O) | (simp only [ke2, decide_true, decide_false]; exact hK _ O) | (simp only [ke3]; exact hK _ O) | (simp only [ke3, decide_true, decide_false]; exact hK _ O)
      ·
       go_simp
       exact hK _ O
      ·
       go_simp
       exact hK _ O
      ·
       go_simp
       exact hK _ O
      · exact wp_at_h Tryz.underlying62 sizeOfK (kE w0.heap.size A c L) O.row_entK rfl k rfl rfl (by omega) rfl (hK _ O)
      ·
       go_simp
       exact hK _ O
      · exact wp_ecell_h (kE w0.heap.size A c L) O.row_entK (k * 10 + 1) (v := .int .i64 sm) HSM.out (congrArg (fun z => Value.pointer (some z)) (add_fld _ (k * 10) 1 (by decide))) agg3 rfl (hK _ O)
      ·
       go_simp
       exact hK _ O
      · exact wp_cell_h (v := .int .i64 (xm)) O 0 rfl CM.out rfl agg3 rfl (hK _ O)
      ·
       go_simp
       first | exact hK _ O | (simp only [km]; exact hK _ O) | (simp only [km, decide_true, decide_false]; exact hK _ O) | (simp only [km2]; exact hK _ O) | (simp only [km2, decide_true, decide_false]; exact hK _ O)
      ·
       go_simp
       exact hK _ O
      ·
       go_simp
       exact hK _ O
      ·
       go_simp
       exact hK _ O
      refine wpAny_done (by kernel_rfl) ?_ _
      obtain ⟨B, hB⟩ : ∃ B, (if c = k then A else A.map (·.add (k * 10))) = B := ⟨_, rfl⟩
      obtain ⟨m, hm⟩ : ∃ m, L.length - k = m := ⟨_, rfl⟩
      obtain ⟨cc, hcc⟩ : ∃ cc, c - k = cc := ⟨_, rfl⟩
      have LP := part_entK O.row_entK hk hB hcc
      have hml : (L.drop k).length = m := by rw [List.length_drop]; exact hm
      have HB2 := Lib.hid hB
      clear hB
      have OL := Held.start _ [kE w0.heap.size B cc (L.drop k)] (by simpa using LP)
      go_wp2_with (first | ((with_reducible refine at_lit 43 ?_); refine wpList_none_h rfl OL 10 infoKs Tryz.underlying62 ?_; clear OL; intro z73 v6 OL) | ((with_reducible refine at_part 46 ?_); refine wpList_part_lo Tryz.underlying62 sizeOfK rfl k rfl hk HB2.out hm hcc ?_) | ((with_reducible refine at_app 47 ?_); refine wpList_app_big rfl OL (.agg (M.mat 10 M.zero).toArray) 80 infoKb rfl (Nat.succ_pos _) Tryz.underlying62 rfl (kE w0.heap.size B cc (L.drop k)) (OL.mem List.mem_cons_self) rfl (c := cc) (by dsimp only [kE]; rw [hml]; rfl) (kC_one _) (by dsimp only [kE]; omega) (by decide) ?_; clear OL; intro z77 v7 OL))
      obtain ⟨A7, c7, hv7, O7⟩ := kR_of (l := []) (m := L.drop k) (n := 0 + (L.drop k).length) rfl OL
      rw [List.nil_append] at hv7 O7
      subst hv7
      have L7 := O7.row_entK
      have O2 := O.gain O7.below L7
      clear O OL O7 L7 LP
      have O := O2.cutK hk
      clear O2
      rw [hml]
      have htk : (L.take k).length = k := by rw [List.length_take]; omega
      refine region_S (fun st w2 => LaS w0 ((g3, 70, M.mat 10 x) :: bs) (kR A c (L.take k)) 1 (kC [x]) [⟨w0.heap.size, A7, (L.drop k).length, c7, 10, kC (L.drop k)⟩] (st 4) (st 5) w2) [4, 5] 12 7 [some 48, some 49, some 50, some 51, some 52, some 53, some 54] (fun g => [.slice A L.length c, .int .i64 (k : Int), .slice A k c, arr 10 x, g 4, g 5, .slice A7 m c7]) 2 (by kernel_rfl) (by kernel_rfl) (by rfl) (by rfl) (fun _ => rfl) (by decide) ?_ (LaS.start O.drew) (fun F hF => ?_)
      ·
       intro i hi
       simp only [List.mem_cons, List.not_mem_nil, or_false] at hi
       rcases hi with rfl | rfl
       · exact ⟨fun _ => rfl, [0, 1, 2, 3, 5, 6], by kernel_rfl, fun g v => ⟨rfl, rfl, rfl, rfl, rfl, rfl, trivial⟩⟩
       · exact ⟨fun _ => rfl, [0, 1, 2, 3, 4, 6], by kernel_rfl, fun g v => ⟨rfl, rfl, rfl, rfl, rfl, rfl, trivial⟩⟩
      simp only [fillD, Act.put, List.setIfInBounds_toArray, List.set_cons_zero, List.set_cons_succ] at hF
      have hF2 := funext hF
      clear hF
      subst hF2
      refine ⟨⟨doesN_want (by decide) rfl (fun g => rfl) (fun st w' hS hp K hK => ?_), doesN_want (by decide) rfl (fun g => rfl) (fun st w' hS hp K hK => ?_), doesN_want (by decide) rfl (fun g => rfl) (fun st w' hS hp K hK => ?_), doesN_want (by decide) rfl (fun g => rfl) (fun st w' hS hp K hK => ?_), doesC_want (by decide) rfl (fun g => rfl) (fun st w' hS hn hp K hK => ?_), doesC_want (by decide) rfl (fun g => rfl) (fun st w' hS hn hp K hK => ?_), doesN_want (by decide) rfl (fun g => rfl) (fun st w' hS hp K hK => ?_), trivial⟩, fun st w' hS hall => ?_⟩
      ·
       try dsimp only
       go_simp
       exact hK _ hS
      ·
       try dsimp only
       go_simp
       exact hK _ hS
      ·
       try dsimp only
       exact wp_part_hi Tryz.underlying62 sizeOfK rfl k rfl (by omega) (hK _ hS)
      ·
       try dsimp only
       obtain ⟨R_, hR_⟩ := hS.held
       exact wp_row_h hR_ 0 rfl rfl Tryz.underlying70 rfl (sK _) (hK _ hS)
      ·
       try dsimp only
       rw [hn] at hS
       exact hS.lit (.agg (M.mat 10 M.zero).toArray) infoK Tryz.underlying62 [(0, arr 10 x)] rfl (kC_len _) (by show 0 < 1 * 10; decide) (by show 1 * 10 ≤ 1000; decide) (by kernel_rfl) hK
      ·
       try dsimp only
       rw [hn] at hS
       exact hS.app (hp 4 (by decide) (by kernel_rfl)) (.agg (M.mat 10 M.zero).toArray) 80 infoKb rfl (Nat.succ_pos _) Tryz.underlying62 (by show _ = Value.slice A (L.take k).length c; rw [htk]; rfl) rfl (kC_one _) (by dsimp only [kR]; omega) (by decide) hK
      ·
       try dsimp only
       go_simp
       exact hK _ hS
      try dsimp only
      obtain ⟨zv, A8, c8, hz4, hz5, O8⟩ := hS.done (hall 4 (by decide)) (hall 5 (by decide))
      clear hS O
      have O := O8
      clear O8
      simp only [seen, hz4, hz5, Option.getD_some]
      clear hall hz4 hz5
      refine wpAny_want (i := 7) (by kernel_rfl) rfl (by rfl) (fun K hK => ?_)
      refine wp_app_big O (.agg (M.mat 10 M.zero).toArray) 80 infoKb rfl (Nat.succ_pos _) Tryz.underlying62 rfl ⟨w0.heap.size, A7, (L.drop k).length, c7, 10, kC (L.drop k)⟩ (O.mem List.mem_cons_self) rfl (c := c7) (by dsimp only; rw [hml]; rfl) (kC_one _) (by dsimp only [kR]; omega) (by decide) fun z85 v8 O9 => hK _ _ ?_
      clear O
      have O := O9
      clear O9
      clear hK K
      try simp only [Act.put, List.setIfInBounds_toArray, List.set_cons_zero, List.set_cons_succ]
      refine wpAny_one (i := 8) (by kernel_rfl) rfl (fun K hK => ?_)
      go_simp
      refine hK _ _ ?_
      clear hK K
      try simp only [Act.put, List.setIfInBounds_toArray, List.set_cons_zero, List.set_cons_succ]
      refine wpAny_done (by kernel_rfl) ?_ _
      obtain ⟨A9, c9, hv9, O9⟩ := kR_of (l := L.take k ++ [x]) (m := L.drop k) (n := (L.take k).length + 1 + (L.drop k).length) (by rw [List.length_append]; rfl) (by have := O; dsimp only [kR] at this; rw [← kC_app] at this; exact this)
      subst hv9
      clear O
      have O := (O9.tail).pick (es' := []) (fun y hy => absurd hy (by simp))
      clear O9
      go_wp2_with fail
      go_ret
      exact ⟨k, A9, c9, hk, HB.out, HGE.out, rfl, O⟩
    ·
     have HGE := Lib.hid (hge (fun h => by
      rcases hlt.1 h with h | h
      · exact h1 h
      · exact h2 h.1))
     have ke : decide (sk = xk) = false := decide_eq_false h2
     have ke2 : (sk == xk) = false := by simpa using h2
     have ke3 : (sk = xk) = False := eq_false h2
     clear hlt hge h1 h2
     go_wp2_with fail
     have OO := O
     clear O
     have O := OO
     clear OO
     refine region_T ((fun w2 => Held w0 w2 ((g3, 70, M.mat 10 x) :: bs) (kR A c L) [])) [0, 1, 2, 3, 4, 5, 6, 7, 8, 9, 10, 11, 12, 13, 14, 15, 16, 17, 18, 19, 20, 21, 22, 23, 24, 25, 26, 27, 28, 29, 30, 31, 32, 33] 12 [some 7, some 8, some 9, some 10, some 11, some 12, some 13, some 14, some 15, some 16, some 17, some 18, some 19, some 20, some 21, some 22, some 23, some 24, some 25, some 26, some 27, some 28, some 29, some 30, some 31, some 32, some 33, some 34, some 35, some 36, some 37, some 38, some 39, some 40] [.int .i64 (k : Int), .slice A L.length c, .int .i64 (L.length : Int), .bool true, .bool true, .slice A L.length c, .int .i64 (k : Int), .pointer (some ((adr A).add (k * 10))), .pointer (some ((adr A).add (k * 10))), .int .i64 (sk), .pointer (some ⟨g3, 0, none⟩), .int .i64 (xk), .bool false, .bool false, .slice A L.length c, .int .i64 (k : Int), .pointer (some ((adr A).add (k * 10))), .pointer (some ((adr A).add (k * 10))), .int .i64 (sk), .pointer (some ⟨g3, 0, none⟩), .int .i64 (xk), .bool false, .bool false, undef, undef, undef, undef, undef, undef, undef, undef, .bool false, .bool false, .bool false] 0 (by kernel_rfl) (by rfl) (by kernel_rfl) (by rfl) (by rfl) (O.drew) (fun F hF => ?_)
     simp only [fillD, Act.put, List.setIfInBounds_toArray, List.set_cons_zero, List.set_cons_succ] at hF
     subst hF
     refine ⟨⟨does_want rfl (by rfl) (fun w' O K hK => ?_), does_want rfl (by rfl) (fun w' O K hK => ?_), does_want rfl (by rfl) (fun w' O K hK => ?_), does_want rfl (by rfl) (fun w' O K hK => ?_), does_want rfl (by rfl) (fun w' O K hK => ?_), does_want rfl (by rfl) (fun w' O K hK => ?_), does_want rfl (by rfl) (fun w' O K hK => ?_), does_want rfl (by rfl) (fun w' O K hK => ?_), does_want rfl (by rfl) (fun w' O K hK => ?_), does_want rfl (by rfl) (fun w' O K hK => ?_), does_want rfl (by rfl) (fun w' O K hK => ?_), does_want rfl (by rfl) (fun w' O K hK => ?_), does_want rfl (by rfl) (fun w' O K hK => ?_), does_want rfl (by rfl) (fun w' O K hK => ?_), does_want rfl (by rfl) (fun w' O K hK => ?_), does_want rfl (by rfl) (fun w' O K hK => ?_), does_want rfl (by rfl) (fun w' O K hK => ?_), does_want rfl (by rfl) (fun w' O K hK => ?_), does_want rfl (by rfl) (fun w' O K hK => ?_), does_want rfl (by rfl) (fun w' O K hK => ?_), does_want rfl (by rfl) (fun w' O K hK => ?_), does_want rfl (by rfl) (fun w' O K hK => ?_), does_want rfl (by rfl) (fun w' O K hK => ?_), does_skip rfl (by rfl), does_skip rfl (by rfl), does_skip rfl (by rfl), does_skip rfl (by rfl), does_skip rfl (by rfl), does_skip rfl (by rfl), does_skip rfl (by rfl), does_skip rfl (by rfl), does_want rfl (by rfl) (fun w' O K hK => ?_), does_want rfl (by rfl) (fun w' O K hK => ?_), does_want rfl (by rfl) (fun w' O K hK => ?_), trivial⟩, fun w' O => ?_⟩
     ·
      go_simp
      exact hK _ O
     ·
      go_simp
      exact hK _ O
     ·
      go_simp
      exact hK _ O
     ·
      go_simp
      first | exact hK _ O | (simp only [kf]; exact hK _ O) | (simp only [kf, decide_true, decide_false]; exact hK _ O) | (simp only [kf2]; exact hK _ O) | (simp only [kf2, decide_true, decide_false]; exact hK _ O)
     ·
      go_simp
      exact hK _ O
     ·
      go_simp
      exact hK _ O
     ·
      go_simp
      exact hK _ O
     · exact wp_at_h Tryz.underlying62 sizeOfK (kE w0.heap.size A c L) O.row_entK rfl k rfl rfl (by omega) rfl (hK _ O)
     ·
      go_simp
      exact hK _ O
     · exact wp_ecell_h (kE w0.heap.size A c L) O.row_entK (k * 10) (v := .int .i64 sk) HSK.out rfl agg3 rfl (hK _ O)
     ·
      go_simp
      exact hK _ O
     · exact wp_cell_h (v := .int .i64 (xk)) O 0 rfl CK.out rfl agg3 rfl (hK _ O)
     ·
      go_simp
      first | exact hK _ O | (simp only [kl]; exact hK _ O) | (simp only [kl, decide_true, decide_false]; exact hK _ O) | (simp only [kl2]; exact hK _ O) | (simp only [kl2, decide_true, decide_false]; exact hK _ O)
     ·
      go_simp
      exact hK _ O
     ·
      go_simp
      exact hK _ O
     ·
      go_simp
      exact hK _ O
     · exact wp_at_h Tryz.underlying62 sizeOfK (kE w0.heap.size A c L) O.row_entK rfl k rfl rfl (by omega) rfl (hK _ O)
     ·
      go_simp
      exact hK _ O
     · exact wp_ecell_h (kE w0.heap.size A c L) O.row_entK (k * 10) (v := .int .i64 sk) HSK.out rfl agg3 rfl (hK _ O)
     ·
      go_simp
      exact hK _ O
     · exact wp_cell_h (v := .int .i64 (xk)) O 0 rfl CK.out rfl agg3 rfl (hK _ O)
     ·
      go_simp
      first | exact hK _ O | (simp only [ke]; exact hK _ O) | (simp only [ke, decide_true, decide_false]; exact hK _ O) | (simp only [ke2]; exact hK _ O) | (simp only [ke2, decide_true, decide_false]; exact hK _ O) | (simp only [ke3]; exact hK _ O) | (simp only [ke3, decide_true, decide_false]; exact hK _ O)
     ·
      go_simp
      exact hK _ O
     ·
      go_simp
      exact hK _ O
     ·
      go_simp
      exact hK _ O
     ·
      go_simp
      exact hK _ O
     refine wpAny_done (by kernel_rfl) ?_ _
     obtain ⟨B, hB⟩ : ∃ B, (if c = k then A else A.map (·.add (k * 10))) = B := ⟨_, rfl⟩
     obtain ⟨m, hm⟩ : ∃ m, L.length - k = m := ⟨_, rfl⟩
     obtain ⟨cc, hcc⟩ : ∃ cc, c - k = cc := ⟨_, rfl⟩
     have LP := part_entK O.row_entK hk hB hcc
     have hml : (L.drop k).length = m := by rw [List.length_drop]; exact hm
     have HB2 := Lib.hid hB
     clear hB
     have OL := Held.start _ [kE w0.heap.size B cc (L.drop k)] (by simpa using LP)
     go_wp2_with (first | ((with_reducible refine at_lit 43 ?_); refine wpList_none_h rfl OL 10 infoKs Tryz.underlying62 ?_; clear OL; intro z73 v6 OL) | ((with_reducible refine at_part 46 ?_); refine wpList_part_lo Tryz.underlying62 sizeOfK rfl k rfl hk HB2.out hm hcc ?_) | ((with_reducible refine at_app 47 ?_); refine wpList_app_big rfl OL (.agg (M.mat 10 M.zero).toArray) 80 infoKb rfl (Nat.succ_pos _) Tryz.underlying62 rfl (kE w0.heap.size B cc (L.drop k)) (OL.mem List.mem_cons_self) rfl (c := cc) (by dsimp only [kE]; rw [hml]; rfl) (kC_one _) (by dsimp only [kE]; omega) (by decide) ?_; clear OL; intro z77 v7 OL))
     obtain ⟨A7, c7, hv7, O7⟩ := kR_of (l := []) (m := L.drop k) (n := 0 + (L.drop k).length) rfl OL
     rw [List.nil_append] at hv7 O7
     subst hv7
     have L7 := O7.row_entK
     have O2 := O.gain O7.below L7
     clear O OL O7 L7 LP
     have O := O2.cutK hk
     clear O2
     rw [hml]
     have htk : (L.take k).length = k := by rw [List.length_take]; omega
     refine region_S (fun st w2 => LaS w0 ((g3, 70, M.mat 10 x) :: bs) (kR A c (L.take k)) 1 (kC [x]) [⟨w0.heap.size, A7, (L.drop k).length, c7, 10, kC (L.drop k)⟩] (st 4) (st 5) w2) [4, 5] 12 7 [some 48, some 49, some 50, some 51, some 52, some 53, some 54] (fun g => [.slice A L.length c, .int .i64 (k : Int), .slice A k c, arr 10 x, g 4, g 5, .slice A7 m c7]) 2 (by kernel_rfl) (by kernel_rfl) (by rfl) (by rfl) (fun _ => rfl) (by decide) ?_ (LaS.start O.drew) (fun F hF => ?_)
     ·
      intro i hi
      simp only [List.mem_cons, List.not_mem_nil, or_false] at hi
      rcases hi with rfl | rfl
      · exact ⟨fun _ => rfl, [0, 1, 2, 3, 5, 6], by kernel_rfl, fun g v => ⟨rfl, rfl, rfl, rfl, rfl, rfl, trivial⟩⟩
      · exact ⟨fun _ => rfl, [0, 1, 2, 3, 4, 6], by kernel_rfl, fun g v => ⟨rfl, rfl, rfl, rfl, rfl, rfl, trivial⟩⟩
     simp only [fillD, Act.put, List.setIfInBounds_toArray, List.set_cons_zero, List.set_cons_succ] at hF
     have hF2 := funext hF
     clear hF
     subst hF2
     refine ⟨⟨doesN_want (by decide) rfl (fun g => rfl) (fun st w' hS hp K hK => ?_), doesN_want (by decide) rfl (fun g => rfl) (fun st w' hS hp K hK => ?_), doesN_want (by decide) rfl (fun g => rfl) (fun st w' hS hp K hK => ?_), doesN_want (by decide) rfl (fun g => rfl) (fun st w' hS hp K hK => ?_), doesC_want (by decide) rfl (fun g => rfl) (fun st w' hS hn hp K hK => ?_), doesC_want (by decide) rfl (fun g => rfl) (fun st w' hS hn hp K hK => ?_), doesN_want (by decide) rfl (fun g => rfl) (fun st w' hS hp K hK => ?_), trivial⟩, fun st w' hS hall => ?_⟩
     ·
      try dsimp only
      go_simp
      exact hK _ hS
     ·
      try dsimp only
      go_simp
      exact hK _ hS
     ·
      try dsimp only
      exact wp_part_hi Tryz.underlying62 sizeOfK rfl k rfl (by omega) (hK _ hS)
     ·
      try dsimp only
      obtain ⟨R_, hR_⟩ := hS.held
      exact wp_row_h hR_ 0 rfl rfl Tryz.underlying70 rfl (sK _) (hK _ hS)
     ·
      try dsimp only
      rw [hn] at hS
      exact hS.lit (.agg (M.mat 10 M.zero).toArray) infoK Tryz.underlying62 [(0, arr 10 x)] rfl (kC_len _) (by show 0 < 1 * 10; decide) (by show 1 * 10 ≤ 1000; decide) (by kernel_rfl) hK
     ·
      try dsimp only
      rw [hn] at hS
      exact hS.app (hp 4 (by decide) (by kernel_rfl)) (.agg (M.mat 10 M.zero).toArray) 80 infoKb rfl (Nat.succ_pos _) Tryz.underlying62 (by show _ = Value.slice A (L.take k).length c; rw [htk]; rfl) rfl (kC_one _) (by dsimp only [kR]; omega) (by decide) hK
     ·
      try dsimp only
      go_simp
      exact hK _ hS
     try dsimp only
     obtain ⟨zv, A8, c8, hz4, hz5, O8⟩ := hS.done (hall 4 (by decide)) (hall 5 (by decide))
     clear hS O
     have O := O8
     clear O8
     simp only [seen, hz4, hz5, Option.getD_some]
     clear hall hz4 hz5
     refine wpAny_want (i := 7) (by kernel_rfl) rfl (by rfl) (fun K hK => ?_)
     refine wp_app_big O (.agg (M.mat 10 M.zero).toArray) 80 infoKb rfl (Nat.succ_pos _) Tryz.underlying62 rfl ⟨w0.heap.size, A7, (L.drop k).length, c7, 10, kC (L.drop k)⟩ (O.mem List.mem_cons_self) rfl (c := c7) (by dsimp only; rw [hml]; rfl) (kC_one _) (by dsimp only [kR]; omega) (by decide) fun z85 v8 O9 => hK _ _ ?_
     clear O
     have O := O9
     clear O9
     clear hK K
     try simp only [Act.put, List.setIfInBounds_toArray, List.set_cons_zero, List.set_cons_succ]
     refine wpAny_one (i := 8) (by kernel_rfl) rfl (fun K hK => ?_)
     go_simp
     refine hK _ _ ?_
     clear hK K
     try simp only [Act.put, List.setIfInBounds_toArray, List.set_cons_zero, List.set_cons_succ]
     refine wpAny_done (by kernel_rfl) ?_ _
     obtain ⟨A9, c9, hv9, O9⟩ := kR_of (l := L.take k ++ [x]) (m := L.drop k) (n := (L.take k).length + 1 + (L.drop k).length) (by rw [List.length_append]; rfl) (by have := O; dsimp only [kR] at this; rw [← kC_app] at this; exact this)
     subst hv9
     clear O
     have O := (O9.tail).pick (es' := []) (fun y hy => absurd hy (by simp))
     clear O9
     go_wp2_with fail
     go_ret
     exact ⟨k, A9, c9, hk, HB.out, HGE.out, rfl, O⟩
  ·
   have q1 : ¬ (k : Int) < L.length := by omega
   have kf : decide ((k : Int) < L.length) = false := decide_eq_false q1
   have kf2 : decide (k < L.length) = false := decide_eq_false hlk
   have HGE : Hid (∀ z, L[k]? = some z → ¬ WD.ltk z x) := Lib.hid (fun z h => by
    rw [List.getElem?_eq_none (by omega)] at h
    cases h)
   go_wp2_with fail
   have OO := O
   clear O
   have O := OO
   clear OO
   refine region_T ((fun w2 => Held w0 w2 ((g3, 70, M.mat 10 x) :: bs) (kR A c L) [])) [0, 1, 2, 3, 4, 5, 6, 7, 8, 9, 10, 11, 12, 13, 14, 15, 16, 17, 18, 19, 20, 21, 22, 23, 24, 25, 26, 27, 28, 29, 30, 31, 32, 33] 12 [some 7, some 8, some 9, some 10, some 11, some 12, some 13, some 14, some 15, some 16, some 17, some 18, some 19, some 20, some 21, some 22, some 23, some 24, some 25, some 26, some 27, some 28, some 29, some 30, some 31, some 32, some 33, some 34, some 35, some 36, some 37, some 38, some 39, some 40] [.int .i64 (k : Int), .slice A L.length c, .int .i64 (L.length : Int), .bool false, .bool false, undef, undef, undef, undef, undef, undef, undef, undef, undef, undef, undef, undef, undef, undef, undef, undef, undef, undef, undef, undef, undef, undef, undef, undef, undef, undef, undef, undef, .bool false] 0 (by kernel_rfl) (by rfl) (by kernel_rfl) (by rfl) (by rfl) (O.drew) (fun F hF => ?_)
   simp only [fillD, Act.put, List.setIfInBounds_toArray, List.set_cons_zero, List.set_cons_succ] at hF
   subst hF
   refine ⟨⟨does_want rfl (by rfl) (fun w' O K hK => ?_), does_want rfl (by rfl) (fun w' O K hK => ?_), does_want rfl (by rfl) (fun w' O K hK => ?_), does_want rfl (by rfl) (fun w' O K hK => ?_), does_want rfl (by rfl) (fun w' O K hK => ?_), does_skip rfl (by rfl), does_skip rfl (by rfl), does_skip rfl (by rfl), does_skip rfl (by rfl), does_skip rfl (by rfl), does_skip rfl (by rfl), does_skip rfl (by rfl), does_skip rfl (by rfl), does_skip rfl (by rfl), does_skip rfl (by rfl), does_skip rfl (by rfl), does_skip rfl (by rfl), does_skip rfl (by rfl), does_skip rfl (by rfl), does_skip rfl (by rfl), does_skip rfl (by rfl), does_skip rfl (by rfl), does_skip rfl (by rfl), does_skip rfl (by rfl), does_skip rfl (by rfl), does_skip rfl (by rfl), does_skip rfl (by rfl), does_skip rfl (by rfl), does_skip rfl (by rfl), does_skip rfl (by rfl), does_skip rfl (by rfl), does_skip rfl (by rfl), does_skip rfl (by rfl), does_want rfl (by rfl) (fun w' O K hK => ?_), trivial⟩, fun w' O => ?_⟩
   ·
    go_simp
    exact hK _ O
   ·
    go_simp
    exact hK _ O
   ·
    go_simp
    exact hK _ O
   ·
    go_simp
    first | exact hK _ O | (simp only [kf]; exact hK _ O) | (simp only [kf, decide_true, decide_false]; exact hK _ O) | (simp only [kf2]; exact hK _ O) | (simp only [kf2, decide_true, decide_false]; exact hK _ O)
   ·
    go_simp
    exact hK _ O
   ·
    go_simp
    exact hK _ O
   refine wpAny_done (by kernel_rfl) ?_ _
   obtain ⟨B, hB⟩ : ∃ B, (if c = k then A else A.map (·.add (k * 10))) = B := ⟨_, rfl⟩
   obtain ⟨m, hm⟩ : ∃ m, L.length - k = m := ⟨_, rfl⟩
   obtain ⟨cc, hcc⟩ : ∃ cc, c - k = cc := ⟨_, rfl⟩
   have LP := part_entK O.row_entK hk hB hcc
   have hml : (L.drop k).length = m := by rw [List.length_drop]; exact hm
   have HB2 := Lib.hid hB
   clear hB
   have OL := Held.start _ [kE w0.heap.size B cc (L.drop k)] (by simpa using LP)
   go_wp2_with (first | ((with_reducible refine at_lit 43 ?_); refine wpList_none_h rfl OL 10 infoKs Tryz.underlying62 ?_; clear OL; intro z73 v6 OL) | ((with_reducible refine at_part 46 ?_); refine wpList_part_lo Tryz.underlying62 sizeOfK rfl k rfl hk HB2.out hm hcc ?_) | ((with_reducible refine at_app 47 ?_); refine wpList_app_big rfl OL (.agg (M.mat 10 M.zero).toArray) 80 infoKb rfl (Nat.succ_pos _) Tryz.underlying62 rfl (kE w0.heap.size B cc (L.drop k)) (OL.mem List.mem_cons_self) rfl (c := cc) (by dsimp only [kE]; rw [hml]; rfl) (kC_one _) (by dsimp only [kE]; omega) (by decide) ?_; clear OL; intro z77 v7 OL))
   obtain ⟨A7, c7, hv7, O7⟩ := kR_of (l := []) (m := L.drop k) (n := 0 + (L.drop k).length) rfl OL
   rw [List.nil_append] at hv7 O7
   subst hv7
   have L7 := O7.row_entK
   have O2 := O.gain O7.below L7
   clear O OL O7 L7 LP
   have O := O2.cutK hk
   clear O2
   rw [hml]
   have htk : (L.take k).length = k := by rw [List.length_take]; omega
   refine region_S (fun st w2 => LaS w0 ((g3, 70, M.mat 10 x) :: bs) (kR A c (L.take k)) 1 (kC [x]) [⟨w0.heap.size, A7, (L.drop k).length, c7, 10, kC (L.drop k)⟩] (st 4) (st 5) w2) [4, 5] 12 7 [some 48, some 49, some 50, some 51, some 52, some 53, some 54] (fun g => [.slice A L.length c, .int .i64 (k : Int), .slice A k c, arr 10 x, g 4, g 5, .slice A7 m c7]) 2 (by kernel_rfl) (by kernel_rfl) (by rfl) (by rfl) (fun _ => rfl) (by decide) ?_ (LaS.start O.drew) (fun F hF => ?_)
   ·
    intro i hi
    simp only [List.mem_cons, List.not_mem_nil, or_false] at hi
    rcases hi with rfl | rfl
    · exact ⟨fun _ => rfl, [0, 1, 2, 3, 5, 6], by kernel_rfl, fun g v => ⟨rfl, rfl, rfl, rfl, rfl, rfl, trivial⟩⟩
    · exact ⟨fun _ => rfl, [0, 1, 2, 3, 4, 6], by kernel_rfl, fun g v => ⟨rfl, rfl, rfl, rfl, rfl, rfl, trivial⟩⟩
   simp only [fillD, Act.put, List.setIfInBounds_toArray, List.set_cons_zero, List.set_cons_succ] at hF
   have hF2 := funext hF
   clear hF
   subst hF2
   refine ⟨⟨doesN_want (by decide) rfl (fun g => rfl) (fun st w' hS hp K hK => ?_), doesN_want (by decide) rfl (fun g => rfl) (fun st w' hS hp K hK => ?_), doesN_want (by decide) rfl (fun g => rfl) (fun st w' hS hp K hK => ?_), doesN_want (by decide) rfl (fun g => rfl) (fun st w' hS hp K hK => ?_), doesC_want (by decide) rfl (fun g => rfl) (fun st w' hS hn hp K hK => ?_), doesC_want (by decide) rfl (fun g => rfl) (fun st w' hS hn hp K hK => ?_), doesN_want (by decide) rfl (fun g => rfl) (fun st w' hS hp K hK => ?_), trivial⟩, fun st w' hS hall => ?_⟩
   ·
    try dsimp only
    go_simp
    exact hK _ hS
   ·
    try dsimp only
    go_simp
    exact hK _ hS
   ·
    try dsimp only
    exact wp_part_hi Tryz.underlying62 sizeOfK rfl k rfl (by omega) (hK _ hS)
   ·
    try dsimp only
    obtain ⟨R_, hR_⟩ := hS.held
    exact wp_row_h hR_ 0 rfl rfl Tryz.underlying70 rfl (sK _) (hK _ hS)
   ·
    try dsimp only
    rw [hn] at hS
    exact hS.lit (.agg (M.mat 10 M.zero).toArray) infoK Tryz.underlying62 [(0, arr 10 x)] rfl (kC_len _) (by show 0 < 1 * 10; decide) (by show 1 * 10 ≤ 1000; decide) (by kernel_rfl) hK
   ·
    try dsimp only
    rw [hn] at hS
    exact hS.app (hp 4 (by decide) (by kernel_rfl)) (.agg (M.mat 10 M.zero).toArray) 80 infoKb rfl (Nat.succ_pos _) Tryz.underlying62 (by show _ = Value.slice A (L.take k).length c; rw [htk]; rfl) rfl (kC_one _) (by dsimp only [kR]; omega) (by decide) hK
   ·
    try dsimp only
    go_simp
    exact hK _ hS
   try dsimp only
   obtain ⟨zv, A8, c8, hz4, hz5, O8⟩ := hS.done (hall 4 (by decide)) (hall 5 (by decide))
   clear hS O
   have O := O8
   clear O8
   simp only [seen, hz4, hz5, Option.getD_some]
   clear hall hz4 hz5
   refine wpAny_want (i := 7) (by kernel_rfl) rfl (by rfl) (fun K hK => ?_)
   refine wp_app_big O (.agg (M.mat 10 M.zero).toArray) 80 infoKb rfl (Nat.succ_pos _) Tryz.underlying62 rfl ⟨w0.heap.size, A7, (L.drop k).length, c7, 10, kC (L.drop k)⟩ (O.mem List.mem_cons_self) rfl (c := c7) (by dsimp only; rw [hml]; rfl) (kC_one _) (by dsimp only [kR]; omega) (by decide) fun z85 v8 O9 => hK _ _ ?_
   clear O
   have O := O9
   clear O9
   clear hK K
   try simp only [Act.put, List.setIfInBounds_toArray, List.set_cons_zero, List.set_cons_succ]
   refine wpAny_one (i := 8) (by kernel_rfl) rfl (fun K hK => ?_)
   go_simp
   refine hK _ _ ?_
   clear hK K
   try simp only [Act.put, List.setIfInBounds_toArray, List.set_cons_zero, List.set_cons_succ]
   refine wpAny_done (by kernel_rfl) ?_ _
   obtain ⟨A9, c9, hv9, O9⟩ := kR_of (l := L.take k ++ [x]) (m := L.drop k) (n := (L.take k).length + 1 + (L.drop k).length) (by rw [List.length_append]; rfl) (by have := O; dsimp only [kR] at this; rw [← kC_app] at this; exact this)
   subst hv9
   clear O
   have O := (O9.tail).pick (es' := []) (fun y hy => absurd hy (by simp))
   clear O9
   go_wp2_with fail
   go_ret
   exact ⟨k, A9, c9, hk, HB.out, HGE.out, rfl, O⟩
end Go.Proofs.YtpfhaocmcfnhnaaGreat
namespace Go.Proofs.YtpfhaocmcfnhnaaGreat
open Go.ChangeShapes Go.WideShapes Go.ChangeAt Go.RowKit
set_option linter.unusedVariables false
set_option linter.unusedSimpArgs false

namespace WD
def mk0 (a b : Nat → Int) (t : Bool) (s : Int × Int × Int) (i : Nat) : Nat → Int := mk s.1 i (fg a b t s i)
def mks1 (a b : Nat → Int) (t : Bool) (r : Nat → Int) (s : Int × Int × Int) (n : Nat) : List (Nat → Int) := (List.range n).flatMap (fun i => if RC.has r (px t s i) (py t s i) then [mk0 a b t s i] else [])
/-- A line's marks. -/
def mks (a b : Nat → Int) (t : Bool) (r : Nat → Int) (n : Nat) (ds : Bool) (d : Nat → Int) (l : List (Int × Int × Int)) : List (Nat → Int) := l.flatMap (fun s => if lits ds d s.1 then mks1 a b t r s n else [])
def frag (x : Nat → Int) : Nat → Int := fun i => x (i + 2)
theorem frag_mk (k m : Int) (f : Nat → Int) : frag (mk k m f) = f := by
 funext i
 unfold frag mk
 rw [if_neg (by omega), if_neg (by omega)]
 rfl
theorem mks_frag (a b : Nat → Int) (t : Bool) (r : Nat → Int) (n : Nat) (ds : Bool) (d : Nat → Int) (l : List (Int × Int × Int)) : (mks a b t r n ds d l).map frag = frs a b t r n ds d l := by
 unfold mks frs
 rw [List.map_flatMap]
 congr 1
 funext s
 unfold stp
 split
 ·
  unfold mks1 sp
  rw [List.map_flatMap]
  congr 1
  funext i
  unfold one
  split
  ·
   rw [List.map_cons, List.map_nil]
   unfold mk0
   rw [frag_mk]
  · rfl
 · rfl
theorem mem_mks {a b : Nat → Int} {t : Bool} {r : Nat → Int} {n : Nat} {ds : Bool} {d : Nat → Int} {l : List (Int × Int × Int)} {z : Nat → Int} : z ∈ mks a b t r n ds d l ↔ ∃ s, s ∈ l ∧ lits ds d s.1 = true ∧ ∃ i, i < n ∧ RC.has r (px t s i) (py t s i) = true ∧ z = mk0 a b t s i := by
 unfold mks
 rw [List.mem_flatMap]
 constructor
 ·
  rintro ⟨s, hs, h⟩
  split at h
  ·
   rename_i hl
   unfold mks1 at h
   obtain ⟨i, hi, hz⟩ := List.mem_flatMap.1 h
   split at hz
   ·
    rename_i hh
    exact ⟨s, hs, hl, i, List.mem_range.1 hi, hh, List.mem_singleton.1 hz⟩
   · cases hz
  · cases h
 ·
  rintro ⟨s, hs, hl, i, hi, hh, rfl⟩
  refine ⟨s, hs, ?_⟩
  rw [if_pos hl]
  unfold mks1
  exact List.mem_flatMap.2 ⟨i, List.mem_range.2 hi, by rw [if_pos hh]; exact List.mem_singleton.2 rfl⟩
theorem mks_rise {a b : Nat → Int} {t : Bool} {r : Nat → Int} {n : Nat} {ds : Bool} {d : Nat → Int} {l : List (Int × Int × Int)} (h : l.Pairwise (fun x y => x.1 < y.1)) : (mks a b t r n ds d l).Pairwise ltk := by
 unfold mks
 rw [List.pairwise_flatMap]
 refine ⟨fun s _ => ?_, h.imp fun {s s'} hs z hz z' hz' => ?_⟩
 ·
  split
  ·
   unfold mks1
   rw [List.pairwise_flatMap]
   refine ⟨fun i _ => ?_, List.pairwise_lt_range.imp fun {i j} hij z hz z' hz' => ?_⟩
   ·
    split
    · exact List.pairwise_singleton _ _
    · exact List.Pairwise.nil
   ·
    split at hz
    ·
     split at hz'
     ·
      rw [List.mem_singleton.1 hz, List.mem_singleton.1 hz']
      refine .inr ⟨rfl, ?_⟩
      show (i : Int) < j
      omega
     · cases hz'
    · cases hz
  · exact List.Pairwise.nil
 ·
  split at hz
  ·
   split at hz'
   ·
    unfold mks1 at hz hz'
    obtain ⟨i, _, hz⟩ := List.mem_flatMap.1 hz
    obtain ⟨j, _, hz'⟩ := List.mem_flatMap.1 hz'
    split at hz
    ·
     split at hz'
     ·
      rw [List.mem_singleton.1 hz, List.mem_singleton.1 hz']
      exact .inl hs
     · cases hz'
    · cases hz
   · cases hz'
  · cases hz
/-- One more in its place. -/
theorem ins_filter {M : List (Nat → Int)} (hM : M.Pairwise ltk) {x : Nat → Int} (hx : x ∈ M) {p q : (Nat → Int) → Bool} (hp : p x = false) (hq : q x = true) (hpq : ∀ z ∈ M, (ltk z x ∨ ltk x z) → q z = p z) {k : Nat} (hk : k ≤ (M.filter p).length)
  (h1 : ∀ i y, i < k → (M.filter p)[i]? = some y → ltk y x) (h2 : ∀ y, (M.filter p)[k]? = some y → ¬ ltk y x) : (M.filter p).take k ++ [x] ++ (M.filter p).drop k = M.filter q := by
 obtain ⟨A, B, rfl⟩ := List.append_of_mem hx
 obtain ⟨hA, hB, hAB⟩ := List.pairwise_append.1 hM
 obtain ⟨hxB, hB⟩ := List.pairwise_cons.1 hB
 have eA : A.filter q = A.filter p := List.filter_congr fun z hz => hpq z (List.mem_append.2 (.inl hz)) (.inl (hAB z hz x List.mem_cons_self))
 have eB : B.filter q = B.filter p := List.filter_congr fun z hz => hpq z (List.mem_append.2 (.inr (List.mem_cons_of_mem _ hz))) (.inr (hxB z hz))
 rw [List.filter_append, List.filter_cons_of_neg (by rw [hp]; decide)] at hk h1 h2 ⊢
 rw [List.filter_append, List.filter_cons_of_pos hq, eA, eB]
 have hkA : k = (A.filter p).length := by
  rcases (by omega : k < (A.filter p).length ∨ k = (A.filter p).length ∨ (A.filter p).length < k) with e | e | e
  ·
   exfalso
   have hy : (A.filter p ++ B.filter p)[k]? = some ((A.filter p)[k]) := by
    rw [List.getElem?_append_left e]
    exact List.getElem?_eq_getElem e
   exact h2 _ hy (hAB _ (List.mem_filter.1 (List.getElem_mem e)).1 x List.mem_cons_self)
  · exact e
  ·
   exfalso
   rw [List.length_append] at hk
   have e2 : 0 < (B.filter p).length := by omega
   have hy : (A.filter p ++ B.filter p)[(A.filter p).length]? = some ((B.filter p)[0]) := by
    rw [List.getElem?_append_right (Nat.le_refl _), Nat.sub_self]
    exact List.getElem?_eq_getElem e2
   have a1 := h1 _ _ e hy
   have a2 := hxB _ (List.mem_filter.1 (List.getElem_mem e2)).1
   unfold ltk at a1 a2
   omega
 subst hkA
 rw [List.take_left, List.drop_left, List.append_assoc]
 rfl
/-- Has a mark's place been looked at? -/
def bfr (x y m : Int) (z : Nat → Int) : Bool := decide (z 2 < x ∨ (z 2 = x ∧ (z 3 < y ∨ (z 3 = y ∧ z 1 < m))))
/-- The marks that have been found. -/
def fnd (a b : Nat → Int) (t : Bool) (r : Nat → Int) (n : Nat) (ds : Bool) (d : Nat → Int) (x y m : Int) : List (Nat → Int) := (mks a b t r n ds d (al n t a b)).filter (bfr x y m)
def ex (a b : Nat → Int) (t : Bool) (n : Nat) (i k : Int) : Bool := DM.exits (DM.rel (core n t a 0) i) (DM.rel (core n t a 1) k) (DM.rel (core n t b 0) i) (DM.rel (core n t b 1) k)
def nm (a b : Nat → Int) (t : Bool) (n : Nat) (i k : Int) : Int := DM.num (core n t a 0) (core n t a 1) (core n t b 0) (core n t b 1) i k
section
variable {a b : Nat → Int} {t : Bool} {r : Nat → Int} {n : Nat} {ds : Bool} {d : Nat → Int} {x y : Int} {m : Nat}
theorem mks_lim {z : Nat → Int} (h : z ∈ mks a b t r n ds d (al n t a b)) : (r 0 ≤ z 2 ∧ z 2 < r 2) ∧ (r 1 ≤ z 3 ∧ z 3 < r 3) ∧ 0 ≤ z 1 ∧ z 1 < n := by
 obtain ⟨s, hs, hl, i, hi, hh, rfl⟩ := mem_mks.1 h
 obtain ⟨-, h1, h2, h3, h4⟩ := has_iff'.1 hh
 have e1 : mk0 a b t s i 1 = i := rfl
 have e2 : mk0 a b t s i 2 = px t s i := rfl
 have e3 : mk0 a b t s i 3 = py t s i := rfl
 rw [e1, e2, e3]
 omega
theorem fnd_start : fnd a b t r n ds d (r 0) (r 1) 0 = [] := by
 unfold fnd
 rw [List.filter_eq_nil_iff]
 intro z hz
 have := mks_lim hz
 unfold bfr
 rw [decide_eq_true_iff]
 omega
theorem fnd_row : fnd a b t r n ds d x y n = fnd a b t r n ds d x (y + 1) 0 := by
 refine List.filter_congr fun z hz => ?_
 have := mks_lim hz
 unfold bfr
 rw [decide_eq_decide]
 omega
theorem fnd_col : fnd a b t r n ds d x (r 3) 0 = fnd a b t r n ds d (x + 1) (r 1) 0 := by
 refine List.filter_congr fun z hz => ?_
 have := mks_lim hz
 unfold bfr
 rw [decide_eq_decide]
 omega
theorem fnd_end (h : r 2 ≤ x) : fnd a b t r n ds d x y 0 = mks a b t r n ds d (al n t a b) := by
 unfold fnd
 rw [List.filter_eq_self]
 intro z hz
 have := mks_lim hz
 unfold bfr
 rw [decide_eq_true_iff]
 omega
/-- What stands at a place of the scan. -/
theorem at_place {s : Int × Int × Int} {i : Nat} (h1 : mk0 a b t s i 1 = m) (h2 : mk0 a b t s i 2 = x) (h3 : mk0 a b t s i 3 = y) : i = m ∧ s.2.1 = x - m * bx t ∧ s.2.2 = y - m * by_ t := by
 have e1 : mk0 a b t s i 1 = i := rfl
 have e2 : mk0 a b t s i 2 = s.2.1 + i * bx t := rfl
 have e3 : mk0 a b t s i 3 = s.2.2 + i * by_ t := rfl
 rw [e1] at h1
 rw [e2] at h2
 rw [e3] at h3
 obtain rfl : i = m := by omega
 exact ⟨rfl, by omega, by omega⟩
theorem fnd_skip (h : ¬ (ex a b t n (x - m * bx t) (y - m * by_ t) = true ∧ lits ds d (nm a b t n (x - m * bx t) (y - m * by_ t)) = true)) : fnd a b t r n ds d x y (m + 1 : Nat) = fnd a b t r n ds d x y m := by
 refine List.filter_congr fun z hz => ?_
 by_cases hp : z 1 = m ∧ z 2 = x ∧ z 3 = y
 ·
  exfalso
  obtain ⟨s, hs, hl, i, hi, hh, rfl⟩ := mem_mks.1 hz
  obtain ⟨rfl, e1, e2⟩ := at_place hp.1 hp.2.1 hp.2.2
  have hm := (DM.mem_steps s).1 hs
  refine h ⟨?_, ?_⟩
  ·
   unfold ex
   rw [← e1, ← e2]
   exact hm.1
  ·
   unfold nm
   rw [← e1, ← e2, ← hm.2]
   exact hl
 ·
  unfold bfr
  rw [decide_eq_decide]
  omega
theorem fnd_ins (hr : RC.has r x y = true) (hm : m < n) (he : ex a b t n (x - m * bx t) (y - m * by_ t) = true) (hl : lits ds d (nm a b t n (x - m * bx t) (y - m * by_ t)) = true) {k : Nat}
  {X : Nat → Int} (hX : mk (nm a b t n (x - m * bx t) (y - m * by_ t)) m (fr x y (zz a b (x - m * bx t) (y - m * by_ t)) (cc a b (x - m * bx t) (y - m * by_ t))) = X)
  {L : List (Nat → Int)} (hL : fnd a b t r n ds d x y m = L) (hk : k ≤ L.length) (h1 : ∀ i y, i < k → L[i]? = some y → ltk y X) (h2 : ∀ y, L[k]? = some y → ¬ ltk y X) :
  fnd a b t r n ds d x y (m + 1 : Nat) = L.take k ++ [X] ++ L.drop k := by
 subst hL
 have hs : (nm a b t n (x - m * bx t) (y - m * by_ t), x - m * bx t, y - m * by_ t) ∈ al n t a b := (DM.mem_steps _).2 ⟨he, rfl⟩
 have ep : px t (nm a b t n (x - m * bx t) (y - m * by_ t), x - m * bx t, y - m * by_ t) m = x := by
  show x - m * bx t + m * bx t = x
  omega
 have eq : py t (nm a b t n (x - m * bx t) (y - m * by_ t), x - m * bx t, y - m * by_ t) m = y := by
  show y - m * by_ t + m * by_ t = y
  omega
 have hX2 : mk0 a b t (nm a b t n (x - m * bx t) (y - m * by_ t), x - m * bx t, y - m * by_ t) m = X := by
  rw [← hX]
  unfold mk0 fg
  rw [ep, eq]
 have hx : X ∈ mks a b t r n ds d (al n t a b) := mem_mks.2 ⟨_, hs, hl, m, hm, by rw [ep, eq]; exact hr, hX2.symm⟩
 have x0 : X 0 = nm a b t n (x - m * bx t) (y - m * by_ t) := by rw [← hX]; rfl
 have x1 : X 1 = m := by rw [← hX]; rfl
 have x2 : X 2 = x := by rw [← hX]; rfl
 have x3 : X 3 = y := by rw [← hX]; rfl
 refine (ins_filter (mks_rise (DM.steps_rising _ _ _ _)) hx ?_ ?_ ?_ hk h1 h2).symm
 ·
  unfold bfr
  rw [decide_eq_false_iff_not]
  omega
 ·
  unfold bfr
  rw [decide_eq_true_iff]
  omega
 ·
  intro z hz hlt
  have hne : ¬ (z 1 = m ∧ z 2 = x ∧ z 3 = y) := by
   rintro ⟨g1, g2, g3⟩
   obtain ⟨s, hs7, _, i, _, _, rfl⟩ := mem_mks.1 hz
   obtain ⟨rfl, e1, e2⟩ := at_place g1 g2 g3
   have hm2 := ((DM.mem_steps s).1 hs7).2
   have e0 : mk0 a b t s i 0 = X 0 := by
    rw [x0]
    unfold nm
    rw [← e1, ← e2]
    exact hm2
   unfold ltk at hlt
   omega
  unfold bfr
  rw [decide_eq_decide]
  omega
end
/-- How many marks there are. -/
theorem mks_len {a b r : Nat → Int} {n : Nat} {ds : Bool} {d : Nat → Int} (ha : VM.fit a = true) (hb : VM.fit b = true) (hn : 1 ≤ n ∧ n ≤ 64) (hr : RC.right r = true) (hs : r 2 - r 0 ≤ 300 ∧ r 3 - r 1 ≤ 300) : (mks a b (tl a b) r n ds d (al n (tl a b) a b)).length ≤ 19200 := by
 have h1 := mks_frag a b (tl a b) r n ds d (al n (tl a b) a b)
 rw [← frs_all ha hb hn] at h1
 have h2 := congrArg List.length h1
 rw [List.length_map] at h2
 have h3 := frs_len a b (tl a b) r n ds d (steps n (tl a b) a b r)
 have h4 := steps_most (a := a) (b := b) hr hn
 have h5 : (steps n (tl a b) a b r).length ≤ 300 := by omega
 have h6 : (steps n (tl a b) a b r).length * n ≤ 300 * 64 := Nat.mul_le_mul h5 hn.2
 omega
theorem fnd_len {a b r : Nat → Int} {n : Nat} {ds : Bool} {d : Nat → Int} (ha : VM.fit a = true) (hb : VM.fit b = true) (hn : 1 ≤ n ∧ n ≤ 64) (hr : RC.right r = true) (hs : r 2 - r 0 ≤ 300 ∧ r 3 - r 1 ≤ 300) (x y m : Int) : (fnd a b (tl a b) r n ds d x y m).length ≤ 19200 :=
 Nat.le_trans (List.length_filter_le _ _) (mks_len ha hb hn hr hs)
end WD
end Go.Proofs.YtpfhaocmcfnhnaaGreat
namespace Go.Proofs.YtpfhaocmcfnhnaaGreat
open Go.ChangeShapes Go.WideShapes Go.ChangeAt Go.RowKit
set_option linter.unusedVariables false
set_option linter.unusedSimpArgs false

theorem mid_lim17 {a : Nat → Int} (ha : DM.Rg a) (t : Bool) : -4194304 ≤ DM.ahd (DM.mn t (a 0) (a 1)) ∧ DM.ahd (DM.mn t (a 0) (a 1)) ≤ 4194304 := by
 unfold DM.Rg at ha
 unfold DM.ahd DM.mn
 cases t
 ·
  simp only [Bool.false_eq_true, if_false]
  omega
 ·
  simp only [if_true]
  omega
theorem num_call (a b : Nat → Int) (x y : Int) (ha : DM.Rg a) (hb : DM.Rg b) (hx : DM.Rx x y) (he : DM.exits (DM.rel (a 0) x) (DM.rel (a 1) y) (DM.rel (b 0) x) (DM.rel (b 1) y) = true) (X Y : Int) (E : Bool) (hO : DM.OfIs a b X Y E) (w : World) :
  Calls Tryz.prog 48 #[.agg (ln (DM.ahd (DM.mn (DM.tall (b 0 - a 0) (b 1 - a 1)) (a 0) (a 1))) (DM.ahd (DM.mn (DM.tall (b 0 - a 0) (b 1 - a 1)) (b 0) (b 1))) X Y E).toArray, .int .i64 x, .int .i64 y, .int .i64 (DM.mn (DM.tall (b 0 - a 0) (b 1 - a 1)) x y)] w fun e w' => e = .returned (.int .i64 (DM.num (a 0) (a 1) (b 0) (b 1) x y)) ∧ Below w.heap.size w w' := by
 have hn : ¬ (a 0 = b 0 ∧ a 1 = b 1) := by
  rintro ⟨e1, e2⟩
  rw [← e1, ← e2, DM.exits, DM.meets_self] at he
  cases hi : DM.inside (DM.rel (a 0) x) (DM.rel (a 1) y) <;> rw [hi] at he <;> cases he
 have hE := hO.2.1 hn
 have LA := mid_lim17 ha (DM.tall (b 0 - a 0) (b 1 - a 1))
 have LB := mid_lim17 hb (DM.tall (b 0 - a 0) (b 1 - a 1))
 have N := number_any (DM.ahd (DM.mn (DM.tall (b 0 - a 0) (b 1 - a 1)) (a 0) (a 1))) (DM.ahd (DM.mn (DM.tall (b 0 - a 0) (b 1 - a 1)) (b 0) (b 1))) X Y E x y (DM.mn (DM.tall (b 0 - a 0) (b 1 - a 1)) x y) (by omega) (by omega) (by unfold DM.Rx at hx; unfold DM.mn; split <;> omega) w
 have e := DM.numD_is (u := DM.mn (DM.tall (b 0 - a 0) (b 1 - a 1)) x y) (v := DM.cr (DM.tall (b 0 - a 0) (b 1 - a 1)) x y) (DM.way_of hn) (by rw [DM.eG_exits]; exact he) (hit := decide (x = X ∧ y = Y)) (by
  intro hx2
  have hi := hO.2.2.1 (by rw [hE]; exact hx2)
  rw [DM.aG_inside, Bool.eq_iff_iff, decide_eq_true_iff]
  constructor
  ·
   rintro ⟨rfl, rfl⟩
   exact hi
  ·
   intro h2
   rw [DM.pix_iff] at hi h2
   rw [hi] at h2
   simp only [Option.some.injEq, Prod.mk.injEq] at h2
   exact ⟨h2.1.symm, h2.2.symm⟩)
 rw [hE] at N
 unfold DM.exT at N
 rw [e] at N
 unfold DM.exT at hE
 rw [← hE] at N
 exact N
set_option maxRecDepth 100000 in
set_option maxHeartbeats 8000000 in
theorem rnumber_any (a b : Nat → Int) (x y : Int) (ha : WD.Rn a) (hb : WD.Rn b) (hx : WD.Ry x y) (w : World) : Calls Tryz.prog 25 #[arr 2 a, arr 2 b, .int .i64 x, .int .i64 y] w fun e w' => e = .returned (.tuple #[.int .i64 (if DM.exits (DM.rel (a 0) x) (DM.rel (a 1) y) (DM.rel (b 0) x) (DM.rel (b 1) y) = true then DM.num (a 0) (a 1) (b 0) (b 1) x y else 0), .bool (DM.exits (DM.rel (a 0) x) (DM.rel (a 1) y) (DM.rel (b 0) x) (DM.rel (b 1) y))]) ∧ Below w.heap.size w w' := by
 have O := Own.start w
 have CE := fun w => rexits_wide a b x y ha hb hx w
 replace ha : DM.Rg a := (by unfold WD.Rn at ha; unfold DM.Rg; omega)
 replace hb : DM.Rg b := (by unfold WD.Rn at hb; unfold DM.Rg; omega)
 have CW := fun w => wide_any a b ha hb w
 have CO := fun w => of_any a b ha hb w
 have CN := fun he => num_call a b x y ha hb (by have h1 := DM.exits_lim he; unfold DM.Rg at ha hb; unfold DM.Rx; omega) he
 unfold RetOf at CO
 obtain ⟨z, hz⟩ : ∃ z, DM.exits (DM.rel (a 0) x) (DM.rel (a 1) y) (DM.rel (b 0) x) (DM.rel (b 1) y) = z := ⟨_, rfl⟩
 rw [hz] at CE CN ⊢
 clear hz
 obtain ⟨N, hN⟩ : ∃ N, DM.num (a 0) (a 1) (b 0) (b 1) x y = N := ⟨_, rfl⟩
 rw [hN] at CN ⊢
 clear hN ha hb hx
 cases z
 ·
  rw [if_neg (by decide)]
  clear CN CO CW
  go_enter Tryz.func25, Tryz.ntmps25
  go_wp2_with (first | ((with_reducible refine at_box 4 ?_); refine wpList_box_own O (M.mat 2 (a)) rfl ?_; clear O; intro g4 w1 O) | ((with_reducible refine at_box 5 ?_); refine wpList_box_own O (M.mat 2 (b)) rfl ?_; clear O; intro g5 w2 O) | ((with_reducible refine at_load 11 ?_); refine wpList_whole rfl O 1 rfl rfl Tryz.underlying44 rfl (sP _) ?_) | ((with_reducible refine at_load 12 ?_); refine wpList_whole rfl O 0 rfl rfl Tryz.underlying44 rfl (sP _) ?_) | (go_at_call 47; refine (CE _).mono ?_; rintro e w3 ⟨rfl, hb⟩; replace O := O.call hb; clear hb))
  exact bodyPost_ret (v := .tuple #[.int .i64 0, .bool false]) (by simp [results, Tryz.results25, go_sem]) rfl ⟨rfl, O.below⟩
 ·
  rw [if_pos rfl]
  replace CN := Lib.hid (CN rfl)
  obtain ⟨t, ht⟩ : ∃ t, (DM.tall (b 0 - a 0) (b 1 - a 1)) = t := ⟨_, rfl⟩
  rw [ht] at CW CO CN
  clear ht
  cases t
  all_goals
   simp only [Bool.not_false, Bool.not_true] at CW
   go_enter Tryz.func25, Tryz.ntmps25
   go_wp2_with (first | ((with_reducible refine at_box 4 ?_); refine wpList_box_own O (M.mat 2 (a)) rfl ?_; clear O; intro g4 w1 O) | ((with_reducible refine at_box 5 ?_); refine wpList_box_own O (M.mat 2 (b)) rfl ?_; clear O; intro g5 w2 O) | ((with_reducible first | refine at_load 11 ?_ | refine at_load 18 ?_ | refine at_load 23 ?_); refine wpList_whole rfl O 1 rfl rfl Tryz.underlying44 rfl (sP _) ?_) | ((with_reducible first | refine at_load 12 ?_ | refine at_load 19 ?_ | refine at_load 24 ?_); refine wpList_whole rfl O 0 rfl rfl Tryz.underlying44 rfl (sP _) ?_) | (go_at_call 47; refine (CE _).mono ?_; rintro e w3 ⟨rfl, hb⟩; replace O := O.call hb; clear hb) | (go_at_call 46; refine (CW _).mono ?_; rintro e w4 ⟨rfl, hb⟩; replace O := O.call hb; clear hb) | (go_at_call 44; refine (CO _).mono ?_; rintro e w5 ⟨X, Y, E, rfl, hO, hb⟩; have CM := CN.out X Y E hO; clear hO; replace O := O.call hb; clear hb) | (go_at_call 48; refine (CM _).mono ?_; rintro e w6 ⟨rfl, hb⟩; replace O := O.call hb; clear hb))
   exact bodyPost_ret (v := .tuple #[.int .i64 N, .bool true]) (by simp [results, Tryz.results25, go_sem]) rfl ⟨rfl, O.below⟩
end Go.Proofs.YtpfhaocmcfnhnaaGreat
namespace Go.Proofs.YtpfhaocmcfnhnaaGreat
open Go.ChangeShapes Go.WideShapes Go.ChangeAt Go.RowKit
set_option linter.unusedVariables false
set_option linter.unusedSimpArgs false

namespace WD
theorem core_near {n : Nat} {t : Bool} {a : Nat → Int} (ha : VM.fit a = true) (hn : 1 ≤ n ∧ n ≤ 64) : Rn (core n t a) := by
 have := core_lim (t := t) ha hn
 unfold Rn
 omega
theorem core_tall (n : Int) (t : Bool) (a b : Nat → Int) : DM.tall (core n t b 0 - core n t a 0) (core n t b 1 - core n t a 1) = tl a b := by
 have e0 : core n t b 0 - core n t a 0 = b 0 - a 0 := by
  simp only [core, DM.t2, if_true]
  omega
 have e1 : core n t b 1 - core n t a 1 = b 1 - a 1 := by
  simp only [core, DM.t2, Nat.one_ne_zero, if_false]
  omega
 rw [e0, e1]
 rfl
theorem al_num {n : Nat} {t : Bool} {a b : Nat → Int} (ha : VM.fit a = true) (hb : VM.fit b = true) (hn : 1 ≤ n ∧ n ≤ 64) {s : Int × Int × Int} (h : s ∈ al n t a b) : 0 ≤ s.1 ∧ s.1 ≤ 4194320 := by
 obtain ⟨j, hj⟩ := List.mem_iff_getElem?.1 h
 have h3 := (DM.steps_at hj).2
 have h4 := (List.getElem?_eq_some_iff.1 hj).1
 have h5 := al_len (t := t) ha hb hn
 omega
def Fd (a b : Nat → Int) (t : Bool) (r : Nat → Int) (n : Nat) (ds : Bool) (d : Nat → Int) (x y m : Int) (L : List (Nat → Int)) : Prop := fnd a b t r n ds d x y m = L
end WD
set_option maxHeartbeats 4000000 in
/-- What the document does at a place of the scan. -/
theorem place_any {a b r d : Nat → Int} {n : Nat} {t : Bool} (ha : VM.fit a = true) (hb : VM.fit b = true) (hn : 1 ≤ n ∧ n ≤ 64) (hd : HM.right d = true) (hr : RC.right r = true) (ds : Bool) (x y : Int) (m : Nat) (hm : m < n) (hx : r 0 ≤ x ∧ x < r 2) (hy : r 1 ≤ y ∧ y < r 3) :
  ∃ (z lt : Bool) (I J N Z : Int) (q : Nat → Int), ((t = false → I = x ∧ J = y - m) ∧ (t = true → I = x - m ∧ J = y)) ∧ lt = WD.lits ds d N ∧
   (∀ w, Calls Tryz.prog 25 #[arr 2 (WD.core n t a), arr 2 (WD.core n t b), .int .i64 I, .int .i64 J] w fun e w' => e = .returned (.tuple #[.int .i64 N, .bool z]) ∧ Below w.heap.size w w') ∧
   (z = true → ∀ w, Calls Tryz.prog 26 #[arr 3 d, .int .i64 N] w fun e w' => e = .returned (.bool (HM.litF d N)) ∧ Below w.heap.size w w') ∧
   (z = true → ∀ w, Calls Tryz.prog 27 #[arr 7 a, arr 7 b, .int .i64 I, .int .i64 J] w fun e w' => e = .returned (.tuple #[.int .i64 Z, arr 4 q]) ∧ Below w.heap.size w w') ∧
   (¬ (z = true ∧ lt = true) → ∀ L, WD.Fd a b t r n ds d x y m L → WD.Fd a b t r n ds d x y (m + 1 : Nat) L) ∧
   (z = true → lt = true → ∀ L, WD.Fd a b t r n ds d x y m L → ∀ k, k ≤ L.length → (∀ i u, i < k → L[i]? = some u → WD.ltk u (WD.mk N m (WD.fr x y Z q))) → (∀ u, L[k]? = some u → ¬ WD.ltk u (WD.mk N m (WD.fr x y Z q))) → WD.Fd a b t r n ds d x y (m + 1 : Nat) (L.take k ++ [WD.mk N m (WD.fr x y Z q)] ++ L.drop k)) := by
 have hrl := RC.right_iff.1 hr
 have hh : RC.has r x y = true := WD.has_iff'.2 ⟨hr, by omega, by omega, by omega, by omega⟩
 have ca := WD.core_near (t := t) ha hn
 have cb := WD.core_near (t := t) hb hn
 have hlim : WD.Ry (x - m * WD.bx t) (y - m * WD.by_ t) := by
  unfold WD.Ry
  rcases WD.bx_is t with ⟨e1, e2⟩ | ⟨e1, e2⟩ <;> rw [e1, e2] <;> simp only [Int.mul_one, Int.mul_zero] <;> omega
 have hIJ : (t = false → x - m * WD.bx t = x ∧ y - m * WD.by_ t = y - m) ∧ (t = true → x - m * WD.bx t = x - m ∧ y - m * WD.by_ t = y) := by
  constructor
  ·
   rintro rfl
   simp [WD.bx, WD.by_]
  ·
   rintro rfl
   simp [WD.bx, WD.by_]
 have CN := fun w => rnumber_any (WD.core n t a) (WD.core n t b) (x - m * WD.bx t) (y - m * WD.by_ t) ca cb hlim w
 change ∀ w, Calls _ _ _ w (fun e w' => e = .returned (.tuple #[.int .i64 (if WD.ex a b t n (x - m * WD.bx t) (y - m * WD.by_ t) = true then WD.nm a b t n (x - m * WD.bx t) (y - m * WD.by_ t) else 0), .bool (WD.ex a b t n (x - m * WD.bx t) (y - m * WD.by_ t))]) ∧ Below w.heap.size w w') at CN
 have hex : WD.ex a b t n (x - m * WD.bx t) (y - m * WD.by_ t) = true → (0 ≤ WD.nm a b t n (x - m * WD.bx t) (y - m * WD.by_ t) ∧ WD.nm a b t n (x - m * WD.bx t) (y - m * WD.by_ t) ≤ 4194320) ∧ WD.Near (WD.nm a b t n (x - m * WD.bx t) (y - m * WD.by_ t), x - m * WD.bx t, y - m * WD.by_ t) := fun he => by
  have hs : (WD.nm a b t n (x - m * WD.bx t) (y - m * WD.by_ t), x - m * WD.bx t, y - m * WD.by_ t) ∈ WD.al n t a b := (DM.mem_steps _).2 ⟨he, rfl⟩
  exact ⟨WD.al_num ha hb hn hs, WD.al_near ha hb hn hs⟩
 have FK := @WD.fnd_skip a b t r n ds d x y m
 have FI := @WD.fnd_ins a b t r n ds d x y m hh hm
 cases hz : WD.ex a b t n (x - m * WD.bx t) (y - m * WD.by_ t)
 ·
  rw [hz] at CN FK
  refine ⟨false, _, _, _, 0, 0, M.zero, hIJ, rfl, fun w => CN w, fun h => (by cases h), fun h => (by cases h), fun _ L hL => ?_, fun h => (by cases h)⟩
  exact (FK (fun h => (by cases h.1))).trans hL
 ·
  rw [hz] at CN FK FI
  obtain ⟨⟨n0, n1⟩, hnear⟩ := hex hz
  refine ⟨true, _, _, _, WD.nm a b t n (x - m * WD.bx t) (y - m * WD.by_ t), WD.zz a b (x - m * WD.bx t) (y - m * WD.by_ t), WD.cc a b (x - m * WD.bx t) (y - m * WD.by_ t), hIJ, rfl, fun w => CN w, fun _ w => rlit_any d _ hd (by omega) w, fun _ w => ?_, fun h L hL => ?_, fun _ hl L hL k hk h1 h2 => ?_⟩
  ·
   unfold WD.Near at hnear
   dsimp only at hnear
   exact ralong_any a b _ _ ha hb (by omega) (by omega) w
  · exact (FK h).trans hL
  · exact FI rfl hl rfl hL hk h1 h2
/-- A mark's fragment in memory. -/
theorem kC_frag {l : List (Nat → Int)} {i : Nat} {u : Nat → Int} (h : l[i]? = some u) : ∀ j v, (M.mat 8 (WD.frag u))[j]? = some v → (kC l)[i * 10 + 2 + j]? = some v := by
 intro j v hv
 have hj : j < 8 := by
  have := (List.getElem?_eq_some_iff.1 hv).1
  rwa [M.mat_len] at this
 rw [M.mat_get hj] at hv
 have := kC_at h (2 + j) v (by rw [M.mat_get (by omega), ← hv, Nat.add_comm 2 j]; rfl)
 rwa [← Nat.add_assoc] at this
theorem frag_take {l : List (Nat → Int)} {i : Nat} {u : Nat → Int} (h : l[i]? = some u) : (l.take (i + 1)).map WD.frag = (l.take i).map WD.frag ++ [WD.frag u] := by
 rw [List.take_add_one, h, List.map_append]
 rfl
end Go.Proofs.YtpfhaocmcfnhnaaGreat
