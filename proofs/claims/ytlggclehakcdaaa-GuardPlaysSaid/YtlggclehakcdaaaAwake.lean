/- The law's own example: a function that gives up with 1, and one that doesn't. -/
import Derived.Test.YtlggclehakcdaaaTry
namespace Go.Proofs.Ytlggclehakcdaaa
open Go.ChangeShapes Go.WideShapes Go.ChangeAt Go.RowKit
set_option linter.unusedVariables false

theorem c18 (w : World) : Calls Try.prog 18 #[] w fun e w' => e = Ends (some 1) ∧ w = w' := by
  go_enter Try.func18, Try.ntmps18
  go_wp2_with fail
  refine (fail_any 1 _).mono ?_
  rintro e w1 ⟨rfl, rfl⟩
  go_wp2_with fail
  exact ⟨rfl, rfl, rfl⟩
theorem c19 (w : World) : Calls Try.prog 19 #[] w fun e w' => e = Ends none ∧ w = w' := by
  go_enter Try.func19, Try.ntmps19
  go_wp2_with fail
  first | go_end0 | refine bodyPost_ret (results_none rfl _ _ _) rfl ?_
  exact ⟨rfl, rfl⟩
/-- A call of Try of a function that leaves the world alone. -/
theorem try_same (f : FuncId) (cap : Array Value) (o : Option Int) (w : World) (hf : ∀ w, (callFunc f cap).run Try.prog w = .ok (.enter f cap) w)
    (h : ∀ w, Calls Try.prog f cap w fun e w' => e = Ends o ∧ w = w') :
    Calls Try.prog 7 #[.func (.func f) #[] cap] w fun e w' => e = .returned (.int .i64 (errno o)) ∧ Below w.heap.size w w' := by
  refine (try_any f cap o w (fun w1 => w1 = w.alloc (.cells #[.int .i64 0] 25)) hf ((h _).mono ?_)).mono ?_
  · rintro e w1 ⟨he, rfl⟩
    exact ⟨he, by simp [World.cell?_alloc_new], by simp [World.frozen?_alloc_new], rfl⟩
  · rintro e w1 ⟨he, w2, rfl, rfl⟩
    exact ⟨he, ((Below.refl _ w).alloc (Nat.le_refl _) _).setCell (Nat.le_refl _) _⟩
theorem awake_any (w : World) : Calls Try.prog 6 #[] w fun e w' => e = .returned (.bool true) ∧ Below w.heap.size w w' := by
  go_enter Try.func6, Try.ntmps6
  go_wp2_with fail
  refine (try_same 18 #[] (some 1) _ (fun _ => by kernel_rfl) c18).mono ?_
  rintro e w1 ⟨rfl, hb⟩
  have E : errno (some 1) = 1 := rfl
  rw [E]
  have K := hb
  clear hb
  go_wp2_with fail
  refine (try_same 19 #[] none _ (fun _ => by kernel_rfl) c19).mono ?_
  rintro e w2 ⟨rfl, hb⟩
  have E0 : errno none = 0 := rfl
  rw [E0]
  replace K := K.trans (hb.mono K.size)
  clear hb
  go_wp2_with fail
  go_ret
  exact ⟨rfl, K⟩
end Go.Proofs.Ytlggclehakcdaaa
