/-
  For every int, row of flags and bool the law BuildTells returns true: Prims and Count are the document's. No condition.
-/
import Derived.Test.YtadpejblhkcjgaaRow
import Derived.Test.YtadpejblhkcjgaaOpen7
import Derived.Deep.DeepCutAuto
namespace Go.Proofs.Ytadpejblhkcjgaa.buildTells
open Go.ChangeShapes Go.WideShapes Go.ChangeAt Go.RowKit
set_option linter.unusedVariables false
set_option linter.unusedSimpArgs false

theorem own : ownKnob Try.prog.godebug = none := by kernel_rfl

set_option maxRecDepth 100000 in
set_option maxHeartbeats 16000000 in
theorem walk (w : World) (m : Int) (A0 : Option Addr) (c0 : Nat) (fl : List Bool) (first : Bool) (hF : Lies w free (bE 0 A0 c0 fl)) :
    Calls Try.prog 3 #[.int .i64 m, .slice A0 fl.length c0, .bool first] w fun e w' => e = .returned (.bool true) ∧ Below w.heap.size w w' := by
  have O := Held.start w [bE 0 A0 c0 fl] (by simpa using hF)
  clear hF
  by_cases h300 : 300 < fl.length
  · have q1 : (300 : Int) < fl.length := by omega
    go_enter Try.func3, Try.ntmps3
    go_wp2_with (go_at_call 8; refine (awake_any _).mono ?_; rintro e w6 ⟨rfl, hb⟩; replace O := O.call hb; clear hb)
    go_ret
    exact ⟨rfl, O.below⟩
  have q1 : ¬ (300 : Int) < fl.length := by omega
  have HLE := Lib.hid (P.prims_le m fl first)
  have HFEW := Lib.hid (P.prims_few m fl first)
  obtain ⟨⟨ps, r⟩, hp⟩ : ∃ p, P.prims m fl first = p := ⟨_, rfl⟩
  rw [hp] at HLE HFEW
  have HP := Lib.hid hp
  obtain ⟨N, hN⟩ : ∃ N, P.count m fl.length = N := ⟨_, rfl⟩
  have HC := Lib.hid hN
  clear hp hN h300
  go_enter Try.func3, Try.ntmps3
  go_wp2_with (first | (go_at_call 9; have hpr := prims_any m fl first _ (O.arg (x := bE 0 A0 c0 fl) (by simp)); rw [HP.out] at hpr; refine hpr.mono ?_; clear hpr; rintro e w3 hr; obtain ⟨A1, c1, l1, hl1, rfl, O2⟩ := O.gainP hr; clear O hr; have O := O2; clear O2; have Hl1 := Lib.hid hl1; clear hl1) | (go_at_call 10; have hpr := rprims_any m fl first _ (O.arg (x := bE 0 A0 c0 fl) (by simp)); rw [HP.out] at hpr; refine hpr.mono ?_; clear hpr; rintro e w4 hr; obtain ⟨A2, c2, l2, hl2, rfl, O2⟩ := O.gainP hr; clear O hr; have O := O2; clear O2; have Hl2 := Lib.hid hl2; clear hl2) | (go_at_call 8; refine (awake_any _).mono ?_; rintro e w6 ⟨rfl, hb⟩; replace O := O.call hb; clear hb) | (go_at_call 11; refine (same_any l1 l2 _ (Hl1.out.trans Hl2.out.symm) (O.arg (x := pE w.heap.size A1 c1 l1) (mem_one (List.mem_append_right _ List.mem_cons_self))) (O.arg (x := pE w.heap.size A2 c2 l2) List.mem_cons_self) (fun y hy => O.arg (mem_one (List.mem_append_right _ (mem_one (List.mem_append_left _ hy))))) (fun y hy => O.arg (mem_one (List.mem_append_left _ hy))) (Nat.le_trans (few_of Hl1.out HFEW.out) (by decide)) (short_of Hl1.out HLE.out)).mono ?_; rintro e w6 ⟨rfl, hb⟩; replace O := O.call hb; clear hb) | (go_at_call 12; refine (count_any m fl.length _).mono ?_; rw [HC.out]; rintro e w7 ⟨rfl, hb⟩; replace O := O.call hb; clear hb) | (go_at_call 13; refine (rcount_any m fl.length _).mono ?_; rw [HC.out]; rintro e w8 ⟨rfl, hb⟩; replace O := O.call hb; clear hb))
  go_ret
  exact ⟨rfl, O.below⟩

theorem readable : ∀ t ∈ Try.f3.params.toList, Try.prog.readableRec t = true ∧ t < Try.prog.types.size := by
  intro t ht
  rw [Try.params3] at ht
  simp only [List.mem_cons, List.not_mem_nil, or_false] at ht
  repeat (first | (rcases ht with rfl | ht; exact ⟨by kernel_rfl, of_decide_eq_true (by kernel_rfl)⟩) | (subst ht; exact ⟨by kernel_rfl, of_decide_eq_true (by kernel_rfl)⟩))
set_option maxRecDepth 100000 in
theorem lifted (os : Os) (started : os.Started) (H : Type) (enc : TypeId × Value → H) :
    ReturnsInHanded {} Try.checked os 3 .any (Rows.buildTellsSpec.pre6 enc Try.prog Try.f3 Rows.buildTellsRow.domain false) (Rows.buildTellsSpec.post enc Try.prog Try.f3 false true false false) := by
  refine returnsInHanded_of_change (C := Try.checked) own started (by kernel_rfl) Try.func3
    (ChangeSpec.witness6 (enc := enc) (C := Try.checked) false ⟨#[], #[.int .i64 0, .slice none 0 0, .bool false], []⟩ 8 (by kernel_rfl) (by kernel_rfl) (by kernel_rfl) (by kernel_rfl)) ?_
  intro W base args ds gs before hval0 hW hcnd _
  have hval : ∀ (j : Nat) t v, Try.f3.params[j]? = some t → args[j]? = some v → Value.okWide Try.prog W .any base t v := hval0
  have hW' := hW
  obtain ⟨p, q, hA0, hV, rfl, hfz, hnd⟩ := hW
  have hA : DataW.TrodAll enc Try.prog W 0 (fun _ => true) true Try.f3.params.toList args.toList ds p := hA0
  rw [Try.params3] at hA hval
  have hlt : ∀ x ∈ p ++ q, x.block < W.heap.size := fun x hx => hW'.lt x hx
  obtain ⟨v0, vs0, d0, ds0, p0, q0, hargs, rfl, rfl, h0, rr0⟩ := trodAll_cons hA
  obtain ⟨v1, vs1, d1, ds1, p1, q1, rfl, rfl, rfl, h1, rr1⟩ := trodAll_cons rr0
  obtain ⟨v2, vs2, d2, ds2, p2, q2, rfl, rfl, rfl, h2, rr2⟩ := trodAll_cons rr1
  obtain ⟨rfl, rfl, rfl⟩ := trodAll_nil rr2
  obtain rfl : args = #[v0, v1, v2] := by cases args; simp_all
  obtain ⟨rfl, rfl⟩ := trodVars_none hV
  obtain ⟨i0, rfl, rfl, rfl, x0⟩ := open_int Try.underlying3 (hval 0 3 v0 rfl rfl) h0
  obtain ⟨A1, n1, c1, rfl⟩ := okWide_slice Try.underlying22 (hval 1 22 v1 rfl rfl)
  obtain ⟨B1, k1, fl, e1, hF⟩ := openFlags h1 (fun x hx => hlt x (by simp [hx]))
  obtain ⟨rfl, rfl, rfl⟩ := Value.slice.inj e1
  obtain ⟨b2, rfl, rfl, rfl⟩ := open_bool Try.underlying4 (hval 2 4 v2 rfl rfl) h2
  clear hA0 hval0
  refine (walk W i0 A1 c1 fl b2 hF).mono fun e W' ⟨he, hg⟩ => ?_
  subst he
  exact ⟨_, rfl, post_true (tb := 4) laid readable (by kernel_rfl) Try.underlying4 rfl (fun l hl => by
    match l, hl with
    | [_, _, _], _ => exact ⟨rfl, rfl, rfl⟩) hW' hg⟩

theorem over : Rows.buildTellsRow.holds Try.pinned (OpenSpec.ofChange Rows.buildTellsSpec) :=
  OpenClaim.holds_of_wide 3 Try.f3 rfl rfl rfl rfl rfl rfl rfl ⟨rfl, rfl, rfl, rfl, rfl⟩ rfl rfl rfl rfl rfl (by kernel_rfl) Try.func3 (by kernel_rfl)
    (of_decide_eq_true (by kernel_rfl)) (by unfold Func.isWrapper; first | (rw [if_pos (by decide +kernel)]; kernel_rfl) | (rw [if_neg (by decide +kernel)]; exact ⟨rfl, rfl⟩))
    (fun os started H enc _ => lifted os started H enc)

theorem proved : Rows.BuildTellsSaid :=
  over
#print axioms proved
end Go.Proofs.Ytadpejblhkcjgaa.buildTells
