/- Contracts of package guard: Fail, Try, Need. -/
import Derived.Test.YtlggclehakcdaaaRows
import Derived.WalkKit
import Derived.ProofKit
import Derived.Tactics
import Derived.Tactics2
import Derived.Defers
import Derived.Recover
import Derived.Outline
import Derived.WalkLawsBesides
import Derived.Laws.Pointers
import Derived.Below
import Derived.Lib.Hide
namespace Go.Proofs.Ytlggclehakcdaaa
open Go.ChangeShapes Go.WideShapes Go.ChangeAt Go.RowKit
set_option linter.unusedVariables false

/-- How a call ends that gives up with an error, or doesn't. -/
def Ends : Option Int → Ending
  | none => .returned (.tuple #[])
  | some n => .panicked [{ v := .iface 40 (.int .i64 n), recovered := false }]
def errno : Option Int → Int
  | none => 0
  | some n => n

theorem fail_any (n : Int) (w : World) : Calls Try.prog 16 #[.int .i64 n] w fun e w' => e = .panicked [{ v := .iface 40 (.int .i64 n), recovered := false }] ∧ w = w' := by
  go_enter Try.func16, Try.ntmps16
  go_wp2
  exact ⟨rfl, rfl, rfl⟩
theorem catch_panicking (p : Addr) (x n : Int) (older : List PanicEntry) (w : World) (hc : w.cell? p = some (.int .i64 x)) (hz : w.frozen? p = false) :
    CallsD Try.prog 20 #[.pointer (some p)] (.panicking ({ v := .iface 40 (.int .i64 n), recovered := false } :: older)) w fun e u' w' =>
      e = .returned (.tuple #[]) ∧ u' = .panicking ({ v := .iface 40 (.int .i64 n), recovered := true } :: older) ∧ w' = w.setCell p (.int .i64 n) := by
  have hta : ∀ w, (Instr.typeAssert (.iface 40 (.int .i64 n)) 20 40 true).run Try.prog w = .ok (.tuple #[.int .i64 n, .bool true]) w := fun _ => by kernel_rfl
  refine callsD_of_wpS Try.func20 rfl fun c₀ cs hu => ?_
  apply wpS_seq
  apply wpS_region
  simp [wpOpsS, go_sem, recoverD, hu, Try.ntmps20, Exit.thenS, Array.replicate]
  refine wpS_of_wp ?_
  go_wp2
  cases c₀
  simp_all [bodyPostS, results, Try.results20]
theorem catch_idle (p : Addr) (w : World) :
    CallsD Try.prog 20 #[.pointer (some p)] .returning w fun e u' w' => e = .returned (.tuple #[]) ∧ u' = .returning ∧ w' = w := by
  refine callsD_of_wpS Try.func20 rfl fun c₀ cs hu => ?_
  apply wpS_seq
  apply wpS_region
  simp [wpOpsS, go_sem, recoverD, hu, Try.ntmps20, Exit.thenS, Array.replicate]
  refine wpS_of_wp ?_
  go_wp2
  cases c₀
  simp_all [bodyPostS, results, Try.results20]
theorem try_any (f : FuncId) (cap : Array Value) (o : Option Int) (w : World) (R : World → Prop) (hf : ∀ w, (callFunc f cap).run Try.prog w = .ok (.enter f cap) w)
    (h : Calls Try.prog f cap (w.alloc (.cells #[.int .i64 0] 25)) fun e w' => e = Ends o ∧ w'.cell? ⟨w.heap.size, 0, none⟩ = some (.int .i64 0) ∧ w'.frozen? ⟨w.heap.size, 0, none⟩ = false ∧ R w') :
    Calls Try.prog 7 #[.func (.func f) #[] cap] w fun e w' => e = .returned (.int .i64 (errno o)) ∧ ∃ w1, R w1 ∧ w' = w1.setCell ⟨w.heap.size, 0, none⟩ (.int .i64 (errno o)) := by
  have hmf : ∀ (fn : Fn) (first cap : Array Value) (w : World), (Instr.makeFunc fn first cap).run Try.prog w = .ok (.func fn first cap) w := fun _ _ _ _ => rfl
  rcases o with _ | n
  · go_enter_defers Try.func7, Try.ntmps7
    go_wp2_with fail
    refine h.mono ?_
    rintro e w1 ⟨he, hc, hz, hR⟩
    have he : e = .returned (.tuple #[]) := he
    subst he
    go_wp2_with fail
    refine leaves_cons (f := 20) (args := #[.pointer (some ⟨w.heap.size, 0, none⟩)]) (by simp) (by simp [go_sem]) ?_
    refine (catch_idle ⟨w.heap.size, 0, none⟩ _).mono ?_
    rintro e u' w'' ⟨rfl, rfl, rfl⟩
    have hc' := World.cell?_setCell_same w1 ⟨w.heap.size, 0, none⟩ (.int .i64 0) hc
    simp [Leaves, settle, results, Try.results7, go_sem, hc', errno]
    exact ⟨w1, hR, rfl⟩
  · go_enter_defers Try.func7, Try.ntmps7
    go_wp2_with fail
    refine h.mono ?_
    rintro e w1 ⟨he, hc, hz, hR⟩
    have he : e = .panicked [{ v := .iface 40 (.int .i64 n), recovered := false }] := he
    subst he
    go_wp2_with fail
    refine leaves_cons (f := 20) (args := #[.pointer (some ⟨w.heap.size, 0, none⟩)]) (by simp) (by simp [go_sem]) ?_
    refine (catch_panicking ⟨w.heap.size, 0, none⟩ 0 n [] _ hc hz).mono ?_
    rintro e u' w'' ⟨rfl, rfl, rfl⟩
    have hc' := World.cell?_setCell_same w1 ⟨w.heap.size, 0, none⟩ (.int .i64 n) hc
    simp [Leaves, settle, results, Try.results7, go_sem, hc', errno]
    exact ⟨w1, hR, rfl⟩
/-- Need. -/
theorem need_no (n : Int) (w : World) : Calls Try.prog 13 #[.bool false, .int .i64 n] w fun e w' => e = .panicked [{ v := .iface 40 (.int .i64 n), recovered := false }] ∧ w = w' := by
  go_enter Try.func13, Try.ntmps13
  go_wp2_with fail
  refine (fail_any n _).mono ?_
  rintro e w1 ⟨rfl, rfl⟩
  go_wp2_with fail
  exact ⟨rfl, rfl, rfl⟩
theorem need_yes (n : Int) (w : World) : Calls Try.prog 13 #[.bool true, .int .i64 n] w fun e w' => e = .returned (.tuple #[]) ∧ w = w' := by
  go_enter Try.func13, Try.ntmps13
  go_wp2_with fail
  first | go_end0 | refine bodyPost_ret (results_none rfl _ _ _) rfl ?_
  exact ⟨rfl, rfl⟩
end Go.Proofs.Ytlggclehakcdaaa
