/-
  For every bool and every int the law GuardNeeds returns true: Need gives up just if something is lacking, with any error. No condition.
-/
import Derived.Test.YtlggclehakcdaaaRow
import Derived.Test.YtlggclehakcdaaaTry
import Derived.Test.YtlggclehakcdaaaAwake
import Derived.Deep.DeepCutAuto
namespace Go.Proofs.Ytlggclehakcdaaa.guardNeeds
open Go.ChangeShapes Go.WideShapes Go.ChangeAt Go.RowKit
set_option linter.unusedVariables false

theorem own : ownKnob Try.prog.godebug = none := by kernel_rfl
theorem c12_no (a0 a1 a2 : Addr) (n : Int) (w : World) (h0 : w.cell? a0 = some (.bool false)) (h1 : w.cell? a1 = some (.int .i64 n)) :
    Calls Try.prog 12 #[.pointer (some a0), .pointer (some a1), .pointer (some a2)] w fun e w' => e = Ends (some n) ∧ w = w' := by
  go_enter Try.func12, Try.ntmps12
  go_wp2_with fail
  refine (need_no n _).mono ?_
  rintro e w1 ⟨rfl, rfl⟩
  go_wp2_with fail
  exact ⟨rfl, rfl, rfl⟩
theorem c12_yes (a0 a1 a2 : Addr) (n m : Int) (w : World) (h0 : w.cell? a0 = some (.bool true)) (h1 : w.cell? a1 = some (.int .i64 n)) (h2 : w.cell? a2 = some (.int .i64 m)) (f2 : w.frozen? a2 = false) :
    Calls Try.prog 12 #[.pointer (some a0), .pointer (some a1), .pointer (some a2)] w fun e w' => e = Ends none ∧ w.setCell a2 (.int .i64 1) = w' := by
  go_enter Try.func12, Try.ntmps12
  go_wp2_with fail
  refine (need_yes n _).mono ?_
  rintro e w1 ⟨rfl, rfl⟩
  go_wp2_with fail
  first | go_end0 | refine bodyPost_ret (results_none rfl _ _ _) rfl ?_
  exact ⟨rfl, rfl⟩

set_option maxRecDepth 100000 in
set_option maxHeartbeats 4000000 in
theorem walk (ok : Bool) (n : Int) (r1 : -9223372036854775808 ≤ n) (s1 : n < 9223372036854775808) (w : World) :
    Calls Try.prog 4 #[.bool ok, .int .i64 n] w fun e w' => e = .returned (.bool true) ∧ Below w.heap.size w w' := by
  have aw := awake_any
  have hmf : ∀ (fn : Fn) (first cap : Array Value) (w : World), (Instr.makeFunc fn first cap).run Try.prog w = .ok (.func fn first cap) w := fun _ _ _ _ => rfl
  have hcf : ∀ (w : World) (cap : Array Value), (callFunc 12 cap).run Try.prog w = .ok (.enter 12 cap) w := fun _ _ => by kernel_rfl
  have S : w.heap.size + 1 < ((w.alloc (.cells #[.bool ok] 4)).alloc (.cells #[.int .i64 n] 3)).heap.size := by simp
  have C0 : ((w.alloc (.cells #[.bool ok] 4)).alloc (.cells #[.int .i64 n] 3)).cell? ⟨w.heap.size, 0, none⟩ = some (.bool ok) := by simp
  have C1 : ((w.alloc (.cells #[.bool ok] 4)).alloc (.cells #[.int .i64 n] 3)).cell? ⟨w.heap.size + 1, 0, none⟩ = some (.int .i64 n) := by simp
  have HC := Lib.hid (And.intro C0 C1)
  have K0 : Below w.heap.size w ((w.alloc (.cells #[.bool ok] 4)).alloc (.cells #[.int .i64 n] 3)) := ((Below.refl _ w).alloc (Nat.le_refl _) _).alloc (by simp) _
  clear C0 C1
  cases ok
  all_goals
    go_enter Try.func4, Try.ntmps4
    go_wp2_with fail
    refine (aw _).mono ?_; rintro e w1 ⟨rfl, hb⟩
    have c0 := (hb.cell (p := ⟨w.heap.size, 0, none⟩) (by simp; omega)).trans HC.out.1
    have c1 := (hb.cell (p := ⟨w.heap.size + 1, 0, none⟩) (by simp)).trans HC.out.2
    have hz := Nat.lt_of_lt_of_le S hb.size
    have K := K0.trans (hb.mono K0.size)
    have d0 : ((w1.alloc (.cells #[.int .i64 0] 3)).alloc (.cells #[.int .i64 0] 25)).cell? ⟨w.heap.size, 0, none⟩ = _ := (World.cell?_alloc_lt _ _ ⟨w.heap.size, 0, none⟩ (by simp; omega)).trans ((World.cell?_alloc_lt w1 _ ⟨w.heap.size, 0, none⟩ (by dsimp only; omega)).trans c0)
    have d1 : ((w1.alloc (.cells #[.int .i64 0] 3)).alloc (.cells #[.int .i64 0] 25)).cell? ⟨w.heap.size + 1, 0, none⟩ = _ := (World.cell?_alloc_lt _ _ ⟨w.heap.size + 1, 0, none⟩ (by simp; omega)).trans ((World.cell?_alloc_lt w1 _ ⟨w.heap.size + 1, 0, none⟩ (by dsimp only; omega)).trans c1)
    clear hb
    go_wp2_with fail
  · refine ((try_any 12 _ (some n) _ (fun w2 => w2 = (w1.alloc (.cells #[.int .i64 0] 3)).alloc (.cells #[.int .i64 0] 25)) (fun _ => hcf _ _) ((c12_no _ _ _ n _ d0 d1).mono ?_)).mono (R' := fun e w' => e = .returned (.int .i64 n) ∧ w'.cell? ⟨w.heap.size, 0, none⟩ = some (.bool false) ∧ w'.cell? ⟨w.heap.size + 1, 0, none⟩ = some (.int .i64 n) ∧ w'.cell? ⟨w1.heap.size, 0, none⟩ = some (.int .i64 0) ∧ Below w.heap.size w w') ?_).mono ?_
    · rintro e w2 ⟨he, rfl⟩
      exact ⟨he, by simp, by simp, rfl⟩
    · rintro e w2 ⟨rfl, w3, rfl, rfl⟩
      exact ⟨rfl, (World.cell?_setCell_other _ _ _ _ (by simp <;> omega)).trans d0, (World.cell?_setCell_other _ _ _ _ (by simp <;> omega)).trans d1, (World.cell?_setCell_other _ _ _ _ (by simp)).trans (by simp),
        (((K.alloc K.size _).alloc (by have := K.size; simp; omega) _).setCell (by have := K.size; simp; omega) _)⟩
    clear d0 d1
    rintro e w2 ⟨rfl, e0, e1, e2, K2⟩
    go_wp2_with fail
    go_ret
    exact ⟨rfl, K2⟩
  · refine ((try_any 12 _ none _ (fun w2 => w2 = ((w1.alloc (.cells #[.int .i64 0] 3)).alloc (.cells #[.int .i64 0] 25)).setCell ⟨w1.heap.size, 0, none⟩ (.int .i64 1)) (fun _ => hcf _ _) ((c12_yes _ _ _ n 0 _ d0 d1 (by simp) (by simp)).mono ?_)).mono (R' := fun e w' => e = .returned (.int .i64 0) ∧ w'.cell? ⟨w.heap.size, 0, none⟩ = some (.bool true) ∧ w'.cell? ⟨w1.heap.size, 0, none⟩ = some (.int .i64 1) ∧ Below w.heap.size w w') ?_).mono ?_
    · rintro e w2 ⟨he, rfl⟩
      refine ⟨he, ?_, ?_, rfl⟩
      · exact (World.cell?_setCell_other _ _ _ _ (by simp)).trans (by simp)
      · exact (World.frozen?_setCell _ _ _ _).trans (by simp)
    · rintro e w2 ⟨rfl, w3, rfl, rfl⟩
      exact ⟨rfl, (World.cell?_setCell_other _ _ _ _ (by simp <;> omega)).trans ((World.cell?_setCell_other _ _ _ _ (by simp <;> omega)).trans d0), (World.cell?_setCell_other _ _ _ _ (by simp)).trans (World.cell?_setCell_same _ _ _ (u := .int .i64 0) (by simp)),
        ((((K.alloc K.size _).alloc (by have := K.size; simp; omega) _).setCell (by have := K.size; simp; omega) _).setCell (by have := K.size; simp; omega) _)⟩
    clear d0 d1
    rintro e w2 ⟨rfl, e0, e2, K2⟩
    go_wp2_with fail
    go_ret
    exact ⟨rfl, K2⟩

theorem readable : ∀ t ∈ Try.f4.params.toList, Try.prog.readableRec t = true ∧ t < Try.prog.types.size := by
  intro t ht
  rw [Try.params4] at ht
  simp only [List.mem_cons, List.not_mem_nil, or_false] at ht
  repeat (first | (rcases ht with rfl | ht; exact ⟨by kernel_rfl, of_decide_eq_true (by kernel_rfl)⟩) | (subst ht; exact ⟨by kernel_rfl, of_decide_eq_true (by kernel_rfl)⟩))
set_option maxRecDepth 100000 in
theorem lifted (os : Os) (started : os.Started) (H : Type) (enc : TypeId × Value → H) :
    ReturnsInHanded {} Try.checked os 4 .any (Rows.guardNeedsSpec.pre6 enc Try.prog Try.f4 Rows.guardNeedsRow.domain false) (Rows.guardNeedsSpec.post enc Try.prog Try.f4 false true false false) := by
  refine returnsInHanded_of_change (C := Try.checked) own started (by kernel_rfl) Try.func4
    (ChangeSpec.witness6 (enc := enc) (C := Try.checked) false ⟨#[], #[.bool false, .int .i64 0], []⟩ 8 (by kernel_rfl) (by kernel_rfl) (by kernel_rfl) (by kernel_rfl)) ?_
  intro W base args ds gs before hval0 hW hcnd _
  have hval : ∀ (j : Nat) t v, Try.f4.params[j]? = some t → args[j]? = some v → Value.okWide Try.prog W .any base t v := hval0
  have hW' := hW
  obtain ⟨p, q, hA0, hV, rfl, hfz, hnd⟩ := hW
  have hA : DataW.TrodAll enc Try.prog W 0 (fun _ => true) true Try.f4.params.toList args.toList ds p := hA0
  rw [Try.params4] at hA hval
  obtain ⟨v0, v1, d0, d1, p0, p1, rfl, rfl, rfl, h0, h1⟩ := trodAll_two hA
  obtain ⟨rfl, rfl⟩ := trodVars_none hV
  obtain ⟨ok, rfl, rfl, rfl⟩ := open_bool Try.underlying4 (hval 0 4 v0 rfl rfl) h0
  obtain ⟨n, rfl, rfl, rfl, x1⟩ := open_int Try.underlying3 (hval 1 3 v1 rfl rfl) h1
  clear hA0 hval0
  refine (walk ok n (wf_rng x1).1 (wf_rng x1).2 W).mono fun e W' ⟨he, hg⟩ => ?_
  subst he
  exact ⟨_, rfl, post_true (tb := 4) laid readable (by kernel_rfl) Try.underlying4 rfl (fun l hl => by
    match l, hl with
    | [_, _], _ => exact ⟨rfl, rfl, rfl⟩) hW' hg⟩

theorem over : Rows.guardNeedsRow.holds Try.pinned (OpenSpec.ofChange Rows.guardNeedsSpec) :=
  OpenClaim.holds_of_wide 4 Try.f4 rfl rfl rfl rfl rfl rfl rfl ⟨rfl, rfl, rfl, rfl, rfl⟩ rfl rfl rfl rfl rfl (by kernel_rfl) Try.func4 (by kernel_rfl)
    (of_decide_eq_true (by kernel_rfl)) (by unfold Func.isWrapper; first | (rw [if_pos (by decide +kernel)]; kernel_rfl) | (rw [if_neg (by decide +kernel)]; exact ⟨rfl, rfl⟩))
    (fun os started H enc _ => lifted os started H enc)

theorem proved : Rows.GuardNeedsSaid :=
  over
#print axioms proved
end Go.Proofs.Ytlggclehakcdaaa.guardNeeds
