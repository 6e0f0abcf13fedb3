/- Types; arrays and structs of numbers by value, compared; elements of an array within a block. -/
import Derived.Test.YtbjbafhlmcnceaaPl
import Derived.Test.YtbjbafhlmcnceaaHd
import Derived.Test.YtbjbafhlmcnceaaAnyA
import Derived.WalkLawsBesides
import Derived.ChangeKeysEq
import Derived.Deep.DeepCutAuto
namespace Go.Proofs.Ytbjbafhlmcnceaa
open Go.ChangeShapes Go.WideShapes Go.ChangeAt Go.RowKit
set_option linter.unusedVariables false
set_option linter.unusedSimpArgs false

theorem size22 : (Try.prog.info? 22).map (·.size) = some 4 := by kernel_rfl
theorem s22 (a : Nat → Int) : (Try.prog.info? 22).map (·.size) = some (M.mat 4 a).length := by rw [M.mat_len]; exact size22
theorem zero22 : (Try.prog.info? 22).map (·.zero) = some (some (.agg (M.mat 4 M.zero).toArray)) := by kernel_rfl
theorem size25 : (Try.prog.info? 25).map (·.size) = some 4 := by kernel_rfl
theorem s25 (a : Nat → Int) : (Try.prog.info? 25).map (·.size) = some (M.mat 4 a).length := by rw [M.mat_len]; exact size25
theorem zero25 : (Try.prog.info? 25).map (·.zero) = some (some (.agg (M.mat 4 M.zero).toArray)) := by kernel_rfl
theorem size24 : (Try.prog.info? 24).map (·.size) = some 5 := by kernel_rfl
theorem s24 (a : Nat → Int) : (Try.prog.info? 24).map (·.size) = some (M.mat 5 a).length := by rw [M.mat_len]; exact size24
theorem zero24 : (Try.prog.info? 24).map (·.zero) = some (some (.agg (M.mat 5 M.zero).toArray)) := by kernel_rfl
theorem size27 : (Try.prog.info? 27).map (·.size) = some 8 := by kernel_rfl
theorem s27 (a : Nat → Int) : (Try.prog.info? 27).map (·.size) = some (M.mat 8 a).length := by rw [M.mat_len]; exact size27
theorem zero27 : (Try.prog.info? 27).map (·.zero) = some (some (.agg (M.mat 8 M.zero).toArray)) := by kernel_rfl
theorem size38 : (Try.prog.info? 38).map (·.size) = some 2 := by kernel_rfl
theorem s38 (a : Nat → Int) : (Try.prog.info? 38).map (·.size) = some (M.mat 2 a).length := by rw [M.mat_len]; exact size38
theorem zero38 : (Try.prog.info? 38).map (·.zero) = some (some (.agg (M.mat 2 M.zero).toArray)) := by kernel_rfl
theorem size3 : (Try.prog.info? 3).map (·.size) = some 1 := by kernel_rfl
theorem size50 : (Try.prog.info? 50).map (·.size) = some 2 := by kernel_rfl
theorem size54 : (Try.prog.info? 54).map (·.size) = some 2 := by kernel_rfl
theorem zero50 : (Try.prog.info? 50).map (·.zero) = some (some (.agg #[.bool false, .slice none 0 0])) := by kernel_rfl
theorem zero54 : (Try.prog.info? 54).map (·.zero) = some (some (.agg #[.int .i64 0, .int .u64 0])) := by kernel_rfl
theorem agg3 (w : World) : (isAgg 3).run Try.prog w = .ok false w := by kernel_rfl
theorem sizeOf3 (w : World) : (sizeOf 3).run Try.prog w = .ok 1 w := by kernel_rfl
theorem sizeOf24 (w : World) : (sizeOf 24).run Try.prog w = .ok 5 w := by kernel_rfl
theorem cells3 : Try.prog.cellsOf 3 = 1 := by kernel_rfl
theorem Own.held {w0 w : World} {bs : List (Nat × TypeId × List Value)} (h : Own w0 w bs) : Held w0 w bs nilRow [] :=
  ⟨h, World.ownsRow_nil _ _ _ _, by simp [nilRow, Value.ownBlock], by simp⟩
/-- An array, or a struct of numbers, by value. -/
abbrev arr (n : Nat) (a : Nat → Int) : Value := .agg (M.mat n a).toArray
theorem run_part_mat {n : Nat} (a : Nat → Int) {i : Nat} (h : i < n) (w : World) : (part 3 (M.mat n a).toArray i).run Try.prog w = .ok (.int .i64 (a i)) w := by
  have : (M.mat n a).toArray[i]? = some (.int .i64 (a i)) := by simpa using M.mat_get (a := a) h
  simp [part, Sem.run_bind, agg3 w, this]
theorem run_eqItems_mat {n : Nat} (a b : Nat → Int) (d : Nat) (w : World) : ∀ is : List Nat, (∀ i ∈ is, i < n) → (Op.eqItems (d + 1) 3 (Try.prog.cellsOf 3) (M.mat n a).toArray (M.mat n b).toArray is).run Try.prog w = .ok (is.all fun i => a i == b i) w
  | [], _ => by simp [Op.eqItems]
  | i :: is, h => by
    have hi : i < n := h i List.mem_cons_self
    have ih := run_eqItems_mat a b d w is (fun j hj => h j (List.mem_cons_of_mem _ hj))
    rw [cells3] at ih ⊢
    unfold Op.eqItems
    simp only [Sem.run_bind, Nat.mul_one, run_part_mat a hi, run_part_mat b hi, Result.andThen_ok, run_equalIn_int w d 3 .i64 .i64 _ _ Try.underlying3]
    cases h : a i == b i
    · simp [h]
    · simpa [h] using ih
theorem run_eq_arr (d : Nat) {t : TypeId} {n : Nat} (hu : Try.prog.underlying t = some (.array n 3)) (a b : Nat → Int) (w : World) : (Op.equalIn (d + 2) t (arr n a) (arr n b)).run Try.prog w = .ok (M.eqB n a b) w := by
  obtain ⟨i, hi⟩ : ∃ i, Try.prog.info? 3 = some i := by
    have := size3
    cases h : Try.prog.info? 3 with
    | none => simp [h] at this
    | some i => exact ⟨i, rfl⟩
  rw [show d + 2 = d + 1 + 1 from rfl, run_equalIn_array w (d + 1) _ _ hu hi]
  exact run_eqItems_mat a b d w (List.range n) (fun j hj => List.mem_range.1 hj)
theorem mat_cut {n k m : Nat} (a : Nat → Int) (h : k + m ≤ n) : ((M.mat n a).drop k).take m = M.mat m (D.sub k a) := by
  apply List.ext_getElem?
  intro i
  rw [List.getElem?_take]
  by_cases hi : i < m
  · rw [if_pos hi, List.getElem?_drop, M.mat_get (by omega), M.mat_get hi, D.sub]
  · rw [if_neg hi, List.getElem?_eq_none (by rw [M.mat_len]; omega)]
theorem eqF_int {n d : Nat} {a b : Nat → Int} {f : Field} {fs : List Field} (w : World) (hn : f.name ≠ "_") (ht : f.type = 3) (i : Nat) (ho : f.offset = i) (hi : i < n) :
    (Op.eqFields (d + 1) (M.mat n a).toArray (M.mat n b).toArray (f :: fs)).run Try.prog w = if (a i == b i) = true then (Op.eqFields (d + 1) (M.mat n a).toArray (M.mat n b).toArray fs).run Try.prog w else .ok false w := by
  rw [Op.eqFields, if_pos hn, ht, ho]
  simp only [Sem.run_bind, run_part_mat a hi, run_part_mat b hi, Result.andThen_ok, run_equalIn_int w d 3 .i64 .i64 _ _ Try.underlying3]
  cases h : a i == b i
  · simp
  · simp
theorem eqF_arr {n d m k : Nat} {a b : Nat → Int} {f : Field} {fs : List Field} (w : World) (hn : f.name ≠ "_") {t : TypeId} (ht : f.type = t) (hu : Try.prog.underlying t = some (.array m 3)) (hs : (sizeOf t).run Try.prog w = .ok m w) (ho : f.offset = k) (hi : k + m ≤ n) :
    (Op.eqFields (d + 2) (M.mat n a).toArray (M.mat n b).toArray (f :: fs)).run Try.prog w = if M.eqB m (D.sub k a) (D.sub k b) = true then (Op.eqFields (d + 2) (M.mat n a).toArray (M.mat n b).toArray fs).run Try.prog w else .ok false w := by
  rw [Op.eqFields, if_pos hn, ht, ho]
  have hagg : (isAgg t).run Try.prog w = .ok true w := by
    unfold isAgg
    rw [Sem.run_bind, run_underlying hu w]
    rfl
  have hp : ∀ c : Nat → Int, (part t (M.mat n c).toArray k).run Try.prog w = .ok (arr m (D.sub k c)) w := by
    intro c
    simp [part, Sem.run_bind, hagg, hs, mat_cut c hi]
  simp only [Sem.run_bind, hp, Result.andThen_ok, run_eq_arr d hu]
  cases h : M.eqB m (D.sub k a) (D.sub k b)
  · simp
  · simp
theorem run_eq24 (a b : Nat → Int) (w : World) : (Op.equalIn 10000 24 (arr 5 a) (arr 5 b)).run Try.prog w = .ok (M.eqB 5 a b) w := by
  have hf : (Try.prog.fieldsOf 24).toList = [⟨"Kind", 3, 0, false, "", "", 0⟩, ⟨"P", 22, 1, false, "", "", 8⟩] := by kernel_rfl
  rw [show (10000 : Nat) = 9997 + 2 + 1 from rfl, run_equalIn_struct w (9997 + 2) 24 _ _ (by kernel_rfl) Try.stoodInHeld24, hf,
    eqF_int (d := 9997 + 1) w (by decide) rfl 0 rfl (by decide), eqF_arr (d := 9997) w (by decide) rfl Try.underlying22 (Try.sizeOf22 w) rfl (by decide)]
  have e : M.eqB 5 a b = ((a 0 == b 0) && M.eqB 4 (D.sub 1 a) (D.sub 1 b)) := by
    rw [Bool.eq_iff_iff, Bool.and_eq_true, M.eqB_iff, M.eqB_iff, beq_iff_eq]
    exact ⟨fun h => ⟨h 0 (by omega), fun i hi => h (1 + i) (by omega)⟩, fun h i hi => by
      by_cases h0 : i = 0
      · subst h0; exact h.1
      · have := h.2 (i - 1) (by omega)
        simp only [D.sub] at this
        rwa [show 1 + (i - 1) = i by omega] at this⟩
  rw [e]
  cases h1 : a 0 == b 0
  · simp
  · cases h2 : M.eqB 4 (D.sub 1 a) (D.sub 1 b)
    · simp
    · simp [Op.eqFields]
theorem run_eq27 (a b : Nat → Int) (w : World) : (Op.equalIn 10000 27 (arr 8 a) (arr 8 b)).run Try.prog w = .ok (M.eqB 8 a b) w := by
  have hf : (Try.prog.fieldsOf 27).toList = [⟨"X", 3, 0, false, "", "", 0⟩, ⟨"Y", 3, 1, false, "", "", 8⟩, ⟨"Z", 3, 2, false, "", "", 16⟩, ⟨"W", 3, 3, false, "", "", 24⟩, ⟨"C", 25, 4, false, "", "", 32⟩] := by kernel_rfl
  rw [show (10000 : Nat) = 9997 + 2 + 1 from rfl, run_equalIn_struct w (9997 + 2) 27 _ _ (by kernel_rfl) Try.stoodInHeld27, hf,
    eqF_int (d := 9997 + 1) w (by decide) rfl 0 rfl (by decide), eqF_int (d := 9997 + 1) w (by decide) rfl 1 rfl (by decide), eqF_int (d := 9997 + 1) w (by decide) rfl 2 rfl (by decide), eqF_int (d := 9997 + 1) w (by decide) rfl 3 rfl (by decide),
    eqF_arr (d := 9997) w (by decide) rfl Try.underlying25 (Try.sizeOf25 w) rfl (by decide)]
  have e : M.eqB 8 a b = ((a 0 == b 0) && ((a 1 == b 1) && ((a 2 == b 2) && ((a 3 == b 3) && M.eqB 4 (D.sub 4 a) (D.sub 4 b))))) := by
    rw [Bool.eq_iff_iff]
    simp only [Bool.and_eq_true, M.eqB_iff, beq_iff_eq]
    refine ⟨fun h => ⟨h 0 (by omega), h 1 (by omega), h 2 (by omega), h 3 (by omega), fun i hi => h (4 + i) (by omega)⟩, fun ⟨h0, h1, h2, h3, h4⟩ i hi => ?_⟩
    rcases (by omega : i = 0 ∨ i = 1 ∨ i = 2 ∨ i = 3 ∨ 4 ≤ i) with rfl | rfl | rfl | rfl | h5
    · exact h0
    · exact h1
    · exact h2
    · exact h3
    · have := h4 (i - 4) (by omega)
      simp only [D.sub] at this
      rwa [show 4 + (i - 4) = i by omega] at this
  rw [e]
  cases h0 : a 0 == b 0
  · simp
  cases h1 : a 1 == b 1
  · simp
  cases h2 : a 2 == b 2
  · simp
  cases h3 : a 3 == b 3
  · simp
  cases h4 : M.eqB 4 (D.sub 4 a) (D.sub 4 b)
  · simp
  · simp [Op.eqFields]
theorem run_eq22 (a b : Nat → Int) (w : World) : (Op.equalIn 10000 22 (arr 4 a) (arr 4 b)).run Try.prog w = .ok (M.eqB 4 a b) w := run_eq_arr 9998 Try.underlying22 a b w
theorem run_index_mat {t : TypeId} {n : Nat} (hu : Try.prog.underlying t = some (.array n 3)) (a : Nat → Int) {i : Nat} (h : i < n) (w : World) : (Instr.index t (arr n a) (.int .i64 i)).run Try.prog w = .ok (.int .i64 (a i)) w := by
  unfold Instr.index
  have h1 : (0 : Int) ≤ i ∧ (i : Int) < n := by omega
  simp [asIntOf, Sem.run_bind, run_underlying hu, h1, sizeOf3, run_part_mat a h, show ¬ n ≤ i by omega]
theorem mat_sub {n k m : Nat} (a : Nat → Int) (h : k + m ≤ n) : ∀ j v, (M.mat m (D.sub k a))[j]? = some v → (M.mat n a)[k + j]? = some v := by
  intro j v hv
  have hj : j < m := by
    have := (List.getElem?_eq_some_iff.1 hv).1
    rwa [M.mat_len] at this
  rw [M.mat_get hj] at hv
  rw [M.mat_get (by omega)]
  exact hv
theorem mat_pre {n m : Nat} (a : Nat → Int) (h : m ≤ n) : ∀ j v, (M.mat m a)[j]? = some v → (M.mat n a)[0 + j]? = some v := by
  intro j v hv
  have hj : j < m := by
    have := (List.getElem?_eq_some_iff.1 hv).1
    rwa [M.mat_len] at this
  rw [M.mat_get hj] at hv
  rw [Nat.zero_add, M.mat_get (by omega)]
  exact hv
theorem built22 (a : Nat → Int) : Try.prog.built 22 [(0, .int .i64 (a 0)), (1, .int .i64 (a 1)), (2, .int .i64 (a 2)), (3, .int .i64 (a 3))] = some (M.mat 4 a).toArray := by kernel_rfl
theorem built22z : Try.prog.built 22 [] = some (M.mat 4 M.zero).toArray := by kernel_rfl
theorem built27z : Try.prog.built 27 [] = some (M.mat 8 M.zero).toArray := by kernel_rfl
section
variable {ops : Array Oper} {Q : Exit → Act → World → Prop} {a : Act} {w : World} {rest : List Oper} {dst : Option Tmp} {ty : TypeId} {pos : String} {after : Array Edge} {K : Act → World → Prop}
theorem wp_eq22 {t' : TypeId} {x y : Operand} {gd : Option (Nat × Bool)} (p q : Nat → Int) (hx : a.eval x = arr 4 p) (hy : a.eval y = arr 4 q)
    (h : K (a.put dst (.bool (M.eqB 4 p q))) w) : Oper.wp Try.prog ⟨dst, .binOp .eql 22 x y t', ty, pos, after, gd⟩ a w K Q := by
  unfold Oper.wp execOp
  simp only [hx, hy, Sem.run_bind, run_eqGuard_agg _ _ _ _ _ _ _ Try.eqGuardType22, run_eql_struct, run_eq22, Result.andThen_ok]
  exact h
theorem wpList_eq22 {t' : TypeId} {x y : Operand} {gd : Option (Nat × Bool)} (hw : Region.wanted ⟨dst, .binOp .eql 22 x y t', ty, pos, after, gd⟩ (yielded ops a.tmps) = true) (p q : Nat → Int) (hx : a.eval x = arr 4 p) (hy : a.eval y = arr 4 q)
    (h : wpList Try.prog ops Q rest (a.put dst (.bool (M.eqB 4 p q))) w) : wpList Try.prog ops Q (⟨dst, .binOp .eql 22 x y t', ty, pos, after, gd⟩ :: rest) a w :=
  wpList_step fun K hK => by rw [if_pos hw]; exact wp_eq22 p q hx hy (hK _ _ h)
theorem wp_neq22 {t' : TypeId} {x y : Operand} {gd : Option (Nat × Bool)} (p q : Nat → Int) (hx : a.eval x = arr 4 p) (hy : a.eval y = arr 4 q)
    (h : K (a.put dst (.bool (!M.eqB 4 p q))) w) : Oper.wp Try.prog ⟨dst, .binOp .neq 22 x y t', ty, pos, after, gd⟩ a w K Q := by
  unfold Oper.wp execOp
  simp only [hx, hy, Sem.run_bind, run_eqGuard_agg _ _ _ _ _ _ _ Try.eqGuardType22, run_neq_struct, run_eq22, Result.andThen_ok]
  exact h
theorem wpList_neq22 {t' : TypeId} {x y : Operand} {gd : Option (Nat × Bool)} (hw : Region.wanted ⟨dst, .binOp .neq 22 x y t', ty, pos, after, gd⟩ (yielded ops a.tmps) = true) (p q : Nat → Int) (hx : a.eval x = arr 4 p) (hy : a.eval y = arr 4 q)
    (h : wpList Try.prog ops Q rest (a.put dst (.bool (!M.eqB 4 p q))) w) : wpList Try.prog ops Q (⟨dst, .binOp .neq 22 x y t', ty, pos, after, gd⟩ :: rest) a w :=
  wpList_step fun K hK => by rw [if_pos hw]; exact wp_neq22 p q hx hy (hK _ _ h)
theorem wp_eq24 {t' : TypeId} {x y : Operand} {gd : Option (Nat × Bool)} (p q : Nat → Int) (hx : a.eval x = arr 5 p) (hy : a.eval y = arr 5 q)
    (h : K (a.put dst (.bool (M.eqB 5 p q))) w) : Oper.wp Try.prog ⟨dst, .binOp .eql 24 x y t', ty, pos, after, gd⟩ a w K Q := by
  unfold Oper.wp execOp
  simp only [hx, hy, Sem.run_bind, run_eqGuard_agg _ _ _ _ _ _ _ Try.eqGuardType24, run_eql_struct, run_eq24, Result.andThen_ok]
  exact h
theorem wpList_eq24 {t' : TypeId} {x y : Operand} {gd : Option (Nat × Bool)} (hw : Region.wanted ⟨dst, .binOp .eql 24 x y t', ty, pos, after, gd⟩ (yielded ops a.tmps) = true) (p q : Nat → Int) (hx : a.eval x = arr 5 p) (hy : a.eval y = arr 5 q)
    (h : wpList Try.prog ops Q rest (a.put dst (.bool (M.eqB 5 p q))) w) : wpList Try.prog ops Q (⟨dst, .binOp .eql 24 x y t', ty, pos, after, gd⟩ :: rest) a w :=
  wpList_step fun K hK => by rw [if_pos hw]; exact wp_eq24 p q hx hy (hK _ _ h)
theorem wp_neq24 {t' : TypeId} {x y : Operand} {gd : Option (Nat × Bool)} (p q : Nat → Int) (hx : a.eval x = arr 5 p) (hy : a.eval y = arr 5 q)
    (h : K (a.put dst (.bool (!M.eqB 5 p q))) w) : Oper.wp Try.prog ⟨dst, .binOp .neq 24 x y t', ty, pos, after, gd⟩ a w K Q := by
  unfold Oper.wp execOp
  simp only [hx, hy, Sem.run_bind, run_eqGuard_agg _ _ _ _ _ _ _ Try.eqGuardType24, run_neq_struct, run_eq24, Result.andThen_ok]
  exact h
theorem wpList_neq24 {t' : TypeId} {x y : Operand} {gd : Option (Nat × Bool)} (hw : Region.wanted ⟨dst, .binOp .neq 24 x y t', ty, pos, after, gd⟩ (yielded ops a.tmps) = true) (p q : Nat → Int) (hx : a.eval x = arr 5 p) (hy : a.eval y = arr 5 q)
    (h : wpList Try.prog ops Q rest (a.put dst (.bool (!M.eqB 5 p q))) w) : wpList Try.prog ops Q (⟨dst, .binOp .neq 24 x y t', ty, pos, after, gd⟩ :: rest) a w :=
  wpList_step fun K hK => by rw [if_pos hw]; exact wp_neq24 p q hx hy (hK _ _ h)
theorem wp_eq27 {t' : TypeId} {x y : Operand} {gd : Option (Nat × Bool)} (p q : Nat → Int) (hx : a.eval x = arr 8 p) (hy : a.eval y = arr 8 q)
    (h : K (a.put dst (.bool (M.eqB 8 p q))) w) : Oper.wp Try.prog ⟨dst, .binOp .eql 27 x y t', ty, pos, after, gd⟩ a w K Q := by
  unfold Oper.wp execOp
  simp only [hx, hy, Sem.run_bind, run_eqGuard_agg _ _ _ _ _ _ _ Try.eqGuardType27, run_eql_struct, run_eq27, Result.andThen_ok]
  exact h
theorem wpList_eq27 {t' : TypeId} {x y : Operand} {gd : Option (Nat × Bool)} (hw : Region.wanted ⟨dst, .binOp .eql 27 x y t', ty, pos, after, gd⟩ (yielded ops a.tmps) = true) (p q : Nat → Int) (hx : a.eval x = arr 8 p) (hy : a.eval y = arr 8 q)
    (h : wpList Try.prog ops Q rest (a.put dst (.bool (M.eqB 8 p q))) w) : wpList Try.prog ops Q (⟨dst, .binOp .eql 27 x y t', ty, pos, after, gd⟩ :: rest) a w :=
  wpList_step fun K hK => by rw [if_pos hw]; exact wp_eq27 p q hx hy (hK _ _ h)
theorem wp_neq27 {t' : TypeId} {x y : Operand} {gd : Option (Nat × Bool)} (p q : Nat → Int) (hx : a.eval x = arr 8 p) (hy : a.eval y = arr 8 q)
    (h : K (a.put dst (.bool (!M.eqB 8 p q))) w) : Oper.wp Try.prog ⟨dst, .binOp .neq 27 x y t', ty, pos, after, gd⟩ a w K Q := by
  unfold Oper.wp execOp
  simp only [hx, hy, Sem.run_bind, run_eqGuard_agg _ _ _ _ _ _ _ Try.eqGuardType27, run_neq_struct, run_eq27, Result.andThen_ok]
  exact h
theorem wpList_neq27 {t' : TypeId} {x y : Operand} {gd : Option (Nat × Bool)} (hw : Region.wanted ⟨dst, .binOp .neq 27 x y t', ty, pos, after, gd⟩ (yielded ops a.tmps) = true) (p q : Nat → Int) (hx : a.eval x = arr 8 p) (hy : a.eval y = arr 8 q)
    (h : wpList Try.prog ops Q rest (a.put dst (.bool (!M.eqB 8 p q))) w) : wpList Try.prog ops Q (⟨dst, .binOp .neq 27 x y t', ty, pos, after, gd⟩ :: rest) a w :=
  wpList_step fun K hK => by rw [if_pos hw]; exact wp_neq27 p q hx hy (hK _ _ h)
end
section
variable {P : Program} {ops : Array Oper} {Q : Exit → Act → World → Prop} {a : Act} {w w0 : World} {rest : List Oper} {bs : List (Nat × TypeId × List Value)} {dst : Option Tmp} {ty : TypeId} {pos : String} {after : Array Edge} {K : Act → World → Prop}
/-- The address of an element of an array within a block. -/
theorem wp_ino {t e : TypeId} {x y : Operand} {gd : Option (Nat × Bool)} {n : Nat} (hu : P.underlying t = some (.array n e)) (hs : ∀ w, (sizeOf e).run P w = .ok 1 w) (hn : 1 < n) {g o : Nat} {kd : IntKind} {z : Int} (i : Nat)
    (hx : a.eval x = .pointer (some ⟨g, o, none⟩)) (hy : a.eval y = .int kd z) (hz : z = (i : Int)) (hi : i < n) (h : K (a.put dst (.pointer (some ⟨g, o + i, none⟩))) w) : Oper.wp P ⟨dst, .indexAddr t x y, ty, pos, after, gd⟩ a w K Q := by
  subst hz
  have hr : (Instr.indexAt t (.pointer (some ⟨g, o, none⟩)) (.int kd i)).run P w = .ok (.pointer (some ⟨g, o + i, none⟩)) w := by
    have h1 : (0 : Int) ≤ i ∧ (i : Int) < n := by omega
    unfold Instr.indexAt
    simp [asIntOf, Sem.run_bind, run_underlying hu, Instr.sureAddr, hs w, add_zero_off, show ¬ n ≤ i by omega, show ¬ n ≤ 1 by omega]
  unfold Oper.wp execOp
  simp only [hx, hy, Sem.run_bind, hr, Result.andThen_ok]
  exact h
theorem wpList_ino {t e : TypeId} {x y : Operand} {gd : Option (Nat × Bool)} {n : Nat} (hw : Region.wanted ⟨dst, .indexAddr t x y, ty, pos, after, gd⟩ (yielded ops a.tmps) = true) (hu : P.underlying t = some (.array n e)) (hs : ∀ w, (sizeOf e).run P w = .ok 1 w) (hn : 1 < n) {g o : Nat} {kd : IntKind} {z : Int} (i : Nat)
    (hx : a.eval x = .pointer (some ⟨g, o, none⟩)) (hy : a.eval y = .int kd z) (hz : z = (i : Int)) (hi : i < n) (h : wpList P ops Q rest (a.put dst (.pointer (some ⟨g, o + i, none⟩))) w) : wpList P ops Q (⟨dst, .indexAddr t x y, ty, pos, after, gd⟩ :: rest) a w :=
  wpList_step fun K hK => by rw [if_pos hw]; exact wp_ino hu hs hn i hx hy hz hi (hK _ _ h)
/-- A block of the call's own as one value. -/
theorem wp_whole {t : TypeId} {x : Operand} {gd : Option (Nat × Bool)} (O : Own w0 w bs) (k : Nat) {g : Nat} {t' : TypeId} {cs : List Value} (hk : bs[k]? = some (g, t', cs)) (hx : a.eval x = .pointer (some ⟨g, 0, none⟩))
    {d : TypeDesc} (hu : P.underlying t = some d) (hd : (match d with | .struct _ | .array _ _ => true | _ => false) = true) (hi : (P.info? t).map (·.size) = some cs.length) (h : K (a.put dst (.agg cs.toArray)) w) : Oper.wp P ⟨dst, .load t x, ty, pos, after, gd⟩ a w K Q :=
  wp_mid_h O.held k hk cs (fun j v h => by rw [Nat.zero_add]; exact h) hx hu hd hi h
theorem wpList_whole {t : TypeId} {x : Operand} {gd : Option (Nat × Bool)} (hw : Region.wanted ⟨dst, .load t x, ty, pos, after, gd⟩ (yielded ops a.tmps) = true) (O : Own w0 w bs) (k : Nat) {g : Nat} {t' : TypeId} {cs : List Value} (hk : bs[k]? = some (g, t', cs)) (hx : a.eval x = .pointer (some ⟨g, 0, none⟩))
    {d : TypeDesc} (hu : P.underlying t = some d) (hd : (match d with | .struct _ | .array _ _ => true | _ => false) = true) (hi : (P.info? t).map (·.size) = some cs.length) (h : wpList P ops Q rest (a.put dst (.agg cs.toArray)) w) : wpList P ops Q (⟨dst, .load t x, ty, pos, after, gd⟩ :: rest) a w :=
  wpList_step fun K hK => by rw [if_pos hw]; exact wp_whole O k hk hx hu hd hi (hK _ _ h)
/-- A literal, guarded or not. -/
theorem wpList_build_g {t : TypeId} {x : Array (Nat × Operand)} {gd : Option (Nat × Bool)} (hw : Region.wanted ⟨dst, .build t x, ty, pos, after, gd⟩ (yielded ops a.tmps) = true) (l : List (Nat × Value)) (cs : Array Value) (hx : (x.map fun (i, y) => (i, a.eval y)).toList = l) (hb : P.built t l = some cs) (h : wpList P ops Q rest (a.put dst (.agg cs)) w) :
    wpList P ops Q (⟨dst, .build t x, ty, pos, after, gd⟩ :: rest) a w :=
  wpList_step fun K hK => by rw [if_pos hw]; exact wp_build_own l cs hx hb (hK _ _ h)
end
end Go.Proofs.Ytbjbafhlmcnceaa
