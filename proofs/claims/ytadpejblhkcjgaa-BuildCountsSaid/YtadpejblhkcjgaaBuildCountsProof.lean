/-
  For every two ints the law BuildCounts returns true: Count is how many primitives Prims answers. No condition.
-/
import Derived.Test.YtadpejblhkcjgaaRow
import Derived.Test.YtadpejblhkcjgaaOpen7
import Derived.Deep.DeepCutAuto
namespace Go.Proofs.Ytadpejblhkcjgaa.buildCounts
open Go.ChangeShapes Go.WideShapes Go.ChangeAt Go.RowKit
set_option linter.unusedVariables false
set_option linter.unusedSimpArgs false

theorem own : ownKnob Try.prog.godebug = none := by kernel_rfl
theorem len_of {l : List PA} {ps : List Pm} (h : l.map (·.1) = ps) {n : Nat} (hp : ps.length = n) : l.length = n := by rw [← hp, ← h, List.length_map]
set_option maxRecDepth 100000 in
set_option maxHeartbeats 16000000 in
theorem walk (w : World) (m n : Int) :
    Calls Try.prog 4 #[.int .i64 m, .int .i64 n] w fun e w' => e = .returned (.bool true) ∧ Below w.heap.size w w' := by
  have O := Held.start w [] (by simp)
  by_cases hm0 : m < 0
  · have HC : Hid (P.count m n = 0) := by show _ = _; unfold P.count; rw [if_pos (by omega)]
    have q1 : decide ((m : Int) < 0) = true := by simpa using hm0
    clear hm0
    go_enter Try.func4, Try.ntmps4
    go_wp2_with (first | (go_at_call 12; refine (count_any m n _).mono ?_; rw [HC.out]; rintro e w7 ⟨rfl, hb⟩; replace O := O.call hb; clear hb) | (go_at_call 8; refine (awake_any _).mono ?_; rintro e w6 ⟨rfl, hb⟩; replace O := O.call hb; clear hb))
    go_ret
    exact ⟨rfl, O.below⟩
  have q1 : decide ((m : Int) < 0) = false := by simp; omega
  by_cases hm9 : 9 < m
  · have HC : Hid (P.count m n = 0) := by show _ = _; unfold P.count; rw [if_pos (by omega)]
    have q2 : decide ((9 : Int) < m) = true := by simpa using hm9
    clear hm0 hm9
    go_enter Try.func4, Try.ntmps4
    go_wp2_with (first | (go_at_call 12; refine (count_any m n _).mono ?_; rw [HC.out]; rintro e w7 ⟨rfl, hb⟩; replace O := O.call hb; clear hb) | (go_at_call 8; refine (awake_any _).mono ?_; rintro e w6 ⟨rfl, hb⟩; replace O := O.call hb; clear hb))
    go_ret
    exact ⟨rfl, O.below⟩
  have q2 : decide ((9 : Int) < m) = false := by simp; omega
  obtain ⟨k, rfl⟩ : ∃ k : Nat, m = k := ⟨m.toNat, by omega⟩
  by_cases hn1 : n < 1
  · have HC : Hid (P.count k n = 0) := by show _ = _; exact P.count_low (show k ≤ 9 by omega) (by have := (P.need_pos (show k ≤ 9 by omega)).1; omega)
    have q3 : decide ((n : Int) < 1) = true := by simpa using hn1
    clear hm0 hm9 hn1
    go_enter Try.func4, Try.ntmps4
    go_wp2_with (first | (go_at_call 12; refine (count_any k n _).mono ?_; rw [HC.out]; rintro e w7 ⟨rfl, hb⟩; replace O := O.call hb; clear hb) | (go_at_call 8; refine (awake_any _).mono ?_; rintro e w6 ⟨rfl, hb⟩; replace O := O.call hb; clear hb))
    go_ret
    exact ⟨rfl, O.below⟩
  have q3 : decide ((n : Int) < 1) = false := by simp; omega
  by_cases hn2 : 256 < n
  · have HC : Hid (P.count k n = 0) := by show _ = _; unfold P.count; rw [if_pos (by omega)]
    have q4 : decide ((256 : Int) < n) = true := by simpa using hn2
    clear hm0 hm9 hn1 hn2
    go_enter Try.func4, Try.ntmps4
    go_wp2_with (first | (go_at_call 12; refine (count_any k n _).mono ?_; rw [HC.out]; rintro e w7 ⟨rfl, hb⟩; replace O := O.call hb; clear hb) | (go_at_call 8; refine (awake_any _).mono ?_; rintro e w6 ⟨rfl, hb⟩; replace O := O.call hb; clear hb))
    go_ret
    exact ⟨rfl, O.below⟩
  have q4 : decide ((256 : Int) < n) = false := by simp; omega
  obtain ⟨j, rfl⟩ : ∃ j : Nat, n = j := ⟨n.toNat, by omega⟩
  have hj : j ≤ 256 := by omega
  have hk : k ≤ 9 := by omega
  have HP : Hid (P.prims k (List.replicate j false) true = (P.list (P.shp k) (List.replicate j false) true, 0)) := by
    show _ = _
    unfold P.prims
    rw [if_neg (by omega), if_neg (by rw [List.length_replicate]; omega)]
    rfl
  have HPL : Hid ((P.list (P.shp k) (List.replicate j false) true).length = P.count k j) := by
    show _ = _
    have := P.prims_len k (List.replicate j false) true
    rw [HP.out, List.length_replicate] at this
    exact this
  obtain ⟨N, hN⟩ : ∃ N, P.count k j = N := ⟨_, rfl⟩
  have HC := Lib.hid hN
  rw [hN] at HPL
  clear hm0 hm9 hn1 hn2 hN
  go_enter Try.func4, Try.ntmps4
  go_wp2_with (first | (go_at_call 12; refine (count_any k j _).mono ?_; rw [HC.out]; rintro e w7 ⟨rfl, hb⟩; replace O := O.call hb; clear hb) | ((with_reducible refine at_make_ 33 ?_); refine wpList_make_h rfl O (.bool false) 1 info4b rfl Try.underlying22 (j) rfl rfl (by omega) (by decide) ?_; clear O; intro A0 w2 O; rw [bE_rep] at O) | (go_at_call 9; have hpr := prims_any k (List.replicate j false) true _ (O.arg List.mem_cons_self); rw [HP.out, List.length_replicate] at hpr; refine hpr.mono ?_; clear hpr; rintro e w3 hr; obtain ⟨A, c, l, hl, rfl, O2⟩ := O.gainP hr; clear O hr; have O := O2; clear O2; dsimp only at hl; obtain rfl := len_of hl HPL.out; clear hl) | (go_at_call 8; refine (awake_any _).mono ?_; rintro e w6 ⟨rfl, hb⟩; replace O := O.call hb; clear hb))
  go_ret
  exact ⟨rfl, O.below⟩

theorem readable : ∀ t ∈ Try.f4.params.toList, Try.prog.readableRec t = true ∧ t < Try.prog.types.size := by
  intro t ht
  rw [Try.params4] at ht
  simp only [List.mem_cons, List.not_mem_nil, or_false] at ht
  repeat (first | (rcases ht with rfl | ht; exact ⟨by kernel_rfl, of_decide_eq_true (by kernel_rfl)⟩) | (subst ht; exact ⟨by kernel_rfl, of_decide_eq_true (by kernel_rfl)⟩))
set_option maxRecDepth 100000 in
theorem lifted (os : Os) (started : os.Started) (H : Type) (enc : TypeId × Value → H) :
    ReturnsInHanded {} Try.checked os 4 .any (Rows.buildCountsSpec.pre6 enc Try.prog Try.f4 Rows.buildCountsRow.domain false) (Rows.buildCountsSpec.post enc Try.prog Try.f4 false true false false) := by
  refine returnsInHanded_of_change (C := Try.checked) own started (by kernel_rfl) Try.func4
    (ChangeSpec.witness6 (enc := enc) (C := Try.checked) false ⟨#[], #[.int .i64 0, .int .i64 0], []⟩ 8 (by kernel_rfl) (by kernel_rfl) (by kernel_rfl) (by kernel_rfl)) ?_
  intro W base args ds gs before hval0 hW hcnd _
  have hval : ∀ (j : Nat) t v, Try.f4.params[j]? = some t → args[j]? = some v → Value.okWide Try.prog W .any base t v := hval0
  have hW' := hW
  obtain ⟨p, q, hA0, hV, rfl, hfz, hnd⟩ := hW
  have hA : DataW.TrodAll enc Try.prog W 0 (fun _ => true) true Try.f4.params.toList args.toList ds p := hA0
  rw [Try.params4] at hA hval
  have hlt : ∀ x ∈ p ++ q, x.block < W.heap.size := fun x hx => hW'.lt x hx
  obtain ⟨v0, vs0, d0, ds0, p0, q0, hargs, rfl, rfl, h0, rr0⟩ := trodAll_cons hA
  obtain ⟨v1, vs1, d1, ds1, p1, q1, rfl, rfl, rfl, h1, rr1⟩ := trodAll_cons rr0
  obtain ⟨rfl, rfl, rfl⟩ := trodAll_nil rr1
  obtain rfl : args = #[v0, v1] := by cases args; simp_all
  obtain ⟨rfl, rfl⟩ := trodVars_none hV
  obtain ⟨i0, rfl, rfl, rfl, x0⟩ := open_int Try.underlying3 (hval 0 3 v0 rfl rfl) h0
  obtain ⟨i1, rfl, rfl, rfl, x1⟩ := open_int Try.underlying3 (hval 1 3 v1 rfl rfl) h1
  clear hA0 hval0
  refine (walk W i0 i1).mono fun e W' ⟨he, hg⟩ => ?_
  subst he
  exact ⟨_, rfl, post_true (tb := 4) laid readable (by kernel_rfl) Try.underlying4 rfl (fun l hl => by
    match l, hl with
    | [_, _], _ => exact ⟨rfl, rfl, rfl⟩) hW' hg⟩

theorem over : Rows.buildCountsRow.holds Try.pinned (OpenSpec.ofChange Rows.buildCountsSpec) :=
  OpenClaim.holds_of_wide 4 Try.f4 rfl rfl rfl rfl rfl rfl rfl ⟨rfl, rfl, rfl, rfl, rfl⟩ rfl rfl rfl rfl rfl (by kernel_rfl) Try.func4 (by kernel_rfl)
    (of_decide_eq_true (by kernel_rfl)) (by unfold Func.isWrapper; first | (rw [if_pos (by decide +kernel)]; kernel_rfl) | (rw [if_neg (by decide +kernel)]; exact ⟨rfl, rfl⟩))
    (fun os started H enc _ => lifted os started H enc)

theorem proved : Rows.BuildCountsSaid :=
  over
#print axioms proved
end Go.Proofs.Ytadpejblhkcjgaa.buildCounts
