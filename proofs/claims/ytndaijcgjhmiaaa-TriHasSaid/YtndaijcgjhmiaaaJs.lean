/- Types: corners, spans, pairs; spans in memory. -/
import Derived.Test.YtndaijcgjhmiaaaJa
import Derived.Test.YtndaijcgjhmiaaaTw
namespace Go.Proofs.Ytndaijcgjhmiaaa
open Go.ChangeShapes Go.WideShapes Go.ChangeAt Go.RowKit
set_option linter.unusedVariables false
set_option linter.unusedSimpArgs false

theorem sizeN20 : (Try.prog.info? 23).map (·.size) = some 2 := by kernel_rfl
theorem sN20 (a : Nat → Int) : (Try.prog.info? 23).map (·.size) = some (M.mat 2 a).length := by rw [M.mat_len]; exact sizeN20
theorem zeroN20 : (Try.prog.info? 23).map (·.zero) = some (some (.agg (M.mat 2 M.zero).toArray)) := by kernel_rfl
theorem sizeS20 : (Try.prog.info? 52).map (·.size) = some 3 := by kernel_rfl
theorem sS20 (a : Nat → Int) : (Try.prog.info? 52).map (·.size) = some (M.mat 3 a).length := by rw [M.mat_len]; exact sizeS20
theorem zeroS20 : (Try.prog.info? 52).map (·.zero) = some (some (.agg (M.mat 3 M.zero).toArray)) := by kernel_rfl
theorem sizeA20 : (Try.prog.info? 41).map (·.size) = some 2 := by kernel_rfl
theorem sA20 (a : Nat → Int) : (Try.prog.info? 41).map (·.size) = some (M.mat 2 a).length := by rw [M.mat_len]; exact sizeA20
theorem zeroA20 : (Try.prog.info? 41).map (·.zero) = some (some (.agg (M.mat 2 M.zero).toArray)) := by kernel_rfl
theorem sizeT20 : (Try.prog.info? 25).map (·.size) = some 6 := by kernel_rfl
theorem sT20 (a : Nat → Int) : (Try.prog.info? 25).map (·.size) = some (M.mat 6 a).length := by rw [M.mat_len]; exact sizeT20
theorem zeroT20 : (Try.prog.info? 25).map (·.zero) = some (some (.agg (M.mat 6 M.zero).toArray)) := by kernel_rfl
theorem sizeOfS20 (w : World) : (sizeOf 52).run Try.prog w = .ok 3 w := by kernel_rfl
theorem infoS20 : (Try.prog.info? 52).map (fun i => (i.zero, i.size)) = some (some (.agg (M.mat 3 M.zero).toArray), 3) := by kernel_rfl
theorem infoS20b : (Try.prog.info? 52).map (fun i => (i.zero, i.size, i.bytes)) = some (some (.agg (M.mat 3 M.zero).toArray), 3, 24) := by kernel_rfl
theorem builtW20 (x y : Int) : Try.prog.built 34 [(0, .int .i64 x), (1, .int .i64 y)] = some (M.mat 7 (TR.wn x y)).toArray := by kernel_rfl
theorem builtS20 (y p q : Int) : Try.prog.built 52 [(0, .int .i64 y), (1, .int .i64 p), (2, .int .i64 q)] = some (M.mat 3 (TR.sp y p q)).toArray := by kernel_rfl
theorem builtS20y (y : Int) : Try.prog.built 52 [(0, .int .i64 y)] = some (M.mat 3 (TR.sp y 0 0)).toArray := by kernel_rfl
namespace TR
theorem sp_set1 (y p q n : Int) : (M.mat 3 (sp y p q)).set 1 (.int .i64 n) = M.mat 3 (sp y n q) :=
  M.mat_set_to (by decide) rfl fun j hj8 hj => by
    rcases (by omega : j = 0 ∨ j = 2) with rfl | rfl <;> rfl
theorem sp_set2 (y p q n : Int) : (M.mat 3 (sp y p q)).set 2 (.int .i64 n) = M.mat 3 (sp y p n) :=
  M.mat_set_to (by decide) rfl fun j hj8 hj => by
    rcases (by omega : j = 0 ∨ j = 1) with rfl | rfl <;> rfl
end TR
set_option maxRecDepth 100000 in
theorem run_eqS20 (a b : Nat → Int) (w : World) : (Op.equalIn 10000 52 (arr 3 a) (arr 3 b)).run Try.prog w = .ok (M.eqB 3 a b) w := by
  have hf : (Try.prog.fieldsOf 52).toList = [⟨"Y", 3, 0, false, "", "", 0⟩, ⟨"X0", 3, 1, false, "", "", 8⟩, ⟨"X1", 3, 2, false, "", "", 16⟩] := by kernel_rfl
  rw [show (10000 : Nat) = 9997 + 2 + 1 from rfl, run_equalIn_struct w (9997 + 2) 52 _ _ (by kernel_rfl) Try.stoodInHeld52, hf,
    eqF_int (d := 9997 + 1) w (by decide) rfl 0 rfl (by decide), eqF_int (d := 9997 + 1) w (by decide) rfl 1 rfl (by decide), eqF_int (d := 9997 + 1) w (by decide) rfl 2 rfl (by decide)]
  have e : M.eqB 3 a b = ((a 0 == b 0) && ((a 1 == b 1) && (a 2 == b 2))) := by
    rw [Bool.eq_iff_iff]
    simp only [Bool.and_eq_true, M.eqB_iff, beq_iff_eq]
    refine ⟨fun h => ⟨h 0 (by omega), h 1 (by omega), h 2 (by omega)⟩, fun ⟨h0, h1, h2⟩ i hi => ?_⟩
    rcases (by omega : i = 0 ∨ i = 1 ∨ i = 2) with rfl | rfl | rfl
    · exact h0
    · exact h1
    · exact h2
  rw [e]
  cases h0 : a 0 == b 0
  · simp
  cases h1 : a 1 == b 1
  · simp
  cases h2 : a 2 == b 2
  · simp
  · simp [Op.eqFields]
section
variable {ops : Array Oper} {Q : Exit → Act → World → Prop} {a : Act} {w : World} {rest : List Oper} {dst : Option Tmp} {ty : TypeId} {pos : String} {after : Array Edge} {K : Act → World → Prop}
theorem wp_neqS20 {t' : TypeId} {x y : Operand} {gd : Option (Nat × Bool)} (p q : Nat → Int) (hx : a.eval x = arr 3 p) (hy : a.eval y = arr 3 q)
    (h : K (a.put dst (.bool (!M.eqB 3 p q))) w) : Oper.wp Try.prog ⟨dst, .binOp .neq 52 x y t', ty, pos, after, gd⟩ a w K Q := by
  unfold Oper.wp execOp
  simp only [hx, hy, Sem.run_bind, run_eqGuard_agg _ _ _ _ _ _ _ Try.eqGuardType52, run_neq_struct, run_eqS20, Result.andThen_ok]
  exact h
end
/-- Spans in memory. -/
def sC_ (l : List (Nat → Int)) : List Value := l.flatMap (fun f => M.mat 3 f)
theorem sC_len (l : List (Nat → Int)) : (sC_ l).length = l.length * 3 := flat_len _ 3 (fun f => M.mat_len 3 f) l
theorem sC_at {l : List (Nat → Int)} {i : Nat} {x : Nat → Int} (h : l[i]? = some x) : ∀ j v, (M.mat 3 x)[j]? = some v → (sC_ l)[i * 3 + j]? = some v := flat_at (fun f => M.mat 3 f) 3 (fun f => M.mat_len 3 f) h
theorem sC_app (a b : List (Nat → Int)) : sC_ (a ++ b) = sC_ a ++ sC_ b := by simp [sC_]
theorem sC_one (l : List (Nat → Int)) : ∀ v ∈ sC_ l, v.oneCell' = true := by
  intro v hv
  obtain ⟨a, _, ha⟩ := List.mem_flatMap.1 hv
  exact M.mat_one 3 _ v ha
def sE_ (lo : Nat) (A : Option Addr) (c : Nat) (l : List (Nat → Int)) : Ent := ⟨lo, A, l.length, c, 3, sC_ l⟩
/-- A row of spans that grows. -/
def sR_ (A : Option Addr) (c : Nat) (l : List (Nat → Int)) : RowD := ⟨.slice A l.length c, 52, 3, l.length, sC_ l⟩
section
variable {w0 w : World} {bs : List (Nat × TypeId × List Value)} {es : List Ent} {A : Option Addr} {n c : Nat}
theorem sR_of {l m : List (Nat → Int)} {v : Value} {n : Nat} (hn : n = l.length + m.length) (O : Held w0 w bs ⟨v, 52, 3, n, sC_ l ++ sC_ m⟩ es) : ∃ A c, v = .slice A (l ++ m).length c ∧ Held w0 w bs (sR_ A c (l ++ m)) es := by
  subst hn
  obtain ⟨A, c, hv⟩ := O.row_val'
  dsimp only at hv
  subst hv
  refine ⟨A, c, by simp, ?_⟩
  unfold sR_
  rw [sC_app, List.length_append]
  exact O
end
def RetS (w : World) (l : List (Nat → Int)) (e : Ending) (w' : World) : Prop := ∃ A c, e = .returned (.slice A l.length c) ∧ Lies w' free (sE_ w.heap.size A c l) ∧ Below w.heap.size w w'
theorem retS_nil {w w' : World} (hb : Below w.heap.size w w') : RetS w [] (.returned (.slice none 0 0)) w' := ⟨none, 0, rfl, Lies.nil, hb⟩
set_option maxRecDepth 100000 in
set_option maxHeartbeats 4000000 in
theorem rsameS20 (l : List (Nat → Int)) {lo1 lo2 : Nat} {A1 A2 : Option Addr} {c1 c2 : Nat} (h9 : l.length ≤ 1000000000) (w : World) (h1 : Lies w free (sE_ lo1 A1 c1 l)) (h2 : Lies w free (sE_ lo2 A2 c2 l)) :
    Calls Try.prog 12 #[.slice A1 l.length c1, .slice A2 l.length c2] w fun e w' => e = .returned (.bool true) ∧ Below w.heap.size w w' := by
  have O := Held.start w [sE_ lo1 A1 c1 l, sE_ lo2 A2 c2 l] (by
    intro x hx
    simp only [List.mem_cons, List.not_mem_nil, or_false] at hx
    rcases hx with rfl | rfl
    · exact h1
    · exact h2)
  clear h1 h2
  have k1 : ((l.length : Int) != (l.length : Int)) = false := by simp
  go_enter Try.func12, Try.ntmps12
  go_wp2_with fail
  clear k1
  go_loopw [5] (fun t wr => ∃ k : Nat, k ≤ l.length ∧ t = .int .i64 k ∧ Held w wr [] nilRow [sE_ lo1 A1 c1 l, sE_ lo2 A2 c2 l]) (fun t _ => l.length - (intOf t).toNat)
  case atStart => exact ⟨0, Nat.zero_le _, rfl, O⟩
  case round =>
    clear O
    obtain ⟨k, hk, rfl, O⟩ := hrel
    have q0 : (0 : Int) ≤ k := by omega
    by_cases hlt : k < l.length
    · have q1 : (k : Int) < l.length := by omega
      have W1 : wrap64 ((k : Int) + 1) = (k : Int) + 1 := IntWalk.wrap64_in _ (by omega)
      obtain ⟨x, hx⟩ : ∃ x, l[k]? = some x := ⟨_, List.getElem?_eq_getElem hlt⟩
      have HX := Lib.hid hx
      clear hx
      go_wp2_with fail
      refine region_T (fun w2 => Held w w2 [] nilRow [sE_ lo1 A1 c1 l, sE_ lo2 A2 c2 l]) [0, 1, 2, 3, 4, 5, 6, 7, 8] 12 [some 17, some 18, some 19, some 20, some 21, some 22, some 23, some 24, some 25] [.slice A1 l.length c1, .int .i64 (k), .pointer (some ((adr A1).add (k * 3))), arr 3 x, .slice A2 l.length c2, .int .i64 (k), .pointer (some ((adr A2).add (k * 3))), arr 3 x, .bool false] 0 (by kernel_rfl) (by rfl) (by kernel_rfl) (by rfl) (by rfl) (O.drew) (fun F hF => ?_)
      simp only [fillD, Act.put, List.setIfInBounds_toArray, List.set_cons_zero, List.set_cons_succ] at hF
      subst hF
      refine ⟨⟨does_want rfl (by rfl) (fun w' O K hK => ?_), does_want rfl (by rfl) (fun w' O K hK => ?_), does_want rfl (by rfl) (fun w' O K hK => ?_), does_want rfl (by rfl) (fun w' O K hK => ?_), does_want rfl (by rfl) (fun w' O K hK => ?_), does_want rfl (by rfl) (fun w' O K hK => ?_), does_want rfl (by rfl) (fun w' O K hK => ?_), does_want rfl (by rfl) (fun w' O K hK => ?_), does_want rfl (by rfl) (fun w' O K hK => ?_), trivial⟩, fun w' O => ?_⟩
      · go_simp
        exact hK _ O
      · go_simp
        exact hK _ O
      · exact wp_at_h Try.underlying37 sizeOfS20 _ (O.mem List.mem_cons_self) rfl k rfl rfl (by omega) rfl (hK _ O)
      · exact wp_elem_h _ (O.mem List.mem_cons_self) (k * 3) (M.mat 3 x) (sC_at HX.out) (by rw [M.mat_len]; decide) rfl Try.underlying52 rfl (sS20 _) (hK _ O)
      · go_simp
        exact hK _ O
      · go_simp
        exact hK _ O
      · exact wp_at_h Try.underlying37 sizeOfS20 _ (O.mem (List.mem_cons_of_mem _ List.mem_cons_self)) rfl k rfl rfl (by omega) rfl (hK _ O)
      · exact wp_elem_h _ (O.mem (List.mem_cons_of_mem _ List.mem_cons_self)) (k * 3) (M.mat 3 x) (sC_at HX.out) (by rw [M.mat_len]; decide) rfl Try.underlying52 rfl (sS20 _) (hK _ O)
      · refine wp_neqS20 x x rfl rfl ?_
        rw [M.eqB_refl]
        exact hK _ O
      refine wpAny_done (by kernel_rfl) ?_ _
      go_wp2_with fail
      go_roundw
      case rel => exact ⟨k + 1, by omega, by first | rfl | exact congrArg (Value.int IntKind.i64) W1, O⟩
      case measure => first | (rw [W1]; simp only [intOf]; omega) | (simp only [intOf]; omega)
    · have q1 : ¬ (k : Int) < l.length := by omega
      obtain rfl : k = l.length := by omega
      go_wp2_with fail
      go_ret
      exact ⟨rfl, O.below⟩
end Go.Proofs.Ytndaijcgjhmiaaa
