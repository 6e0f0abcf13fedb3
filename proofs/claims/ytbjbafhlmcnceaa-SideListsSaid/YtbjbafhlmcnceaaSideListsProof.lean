/-
  For every list of sides the law SideLists returns true: all sides with the user's, or why there are none, are the document's. No condition.
-/
import Derived.Test.YtbjbafhlmcnceaaRow
import Derived.Test.YtbjbafhlmcnceaaOpen8
import Derived.Test.YtbjbafhlmcnceaaW9
import Derived.Deep.DeepCutAuto
namespace Go.Proofs.Ytbjbafhlmcnceaa.sideLists
open Go.ChangeShapes Go.WideShapes Go.ChangeAt Go.RowKit
set_option linter.unusedVariables false
set_option linter.unusedSimpArgs false

theorem own : ownKnob Try.prog.godebug = none := by kernel_rfl
theorem list_len (l : List (Nat → Int)) : (D.list l).1.length ≤ 9 := by
  unfold D.list
  split
  · rename_i h
    rw [Bool.and_eq_true, decide_eq_true_eq] at h
    simp [D.given]
    omega
  · simp
set_option maxRecDepth 100000 in
set_option maxHeartbeats 16000000 in
theorem walk (w : World) (l : List (Nat → Int)) {A : Option Addr} {c : Nat} (hl : Lies w free (sE 0 A c l)) :
    Calls Try.prog 4 #[.slice A l.length c] w fun e w' => e = .returned (.bool true) ∧ Below w.heap.size w w' := by
  have O := Held.start w [sE 0 A c l] (by simpa using hl)
  clear hl
  by_cases h20 : 20 < l.length
  · have q : (20 : Int) < l.length := by omega
    go_enter Try.func4, Try.ntmps4
    go_wp2_with (go_at_call 12; refine (awake_any _).mono ?_; rintro e w1 ⟨rfl, hb⟩; replace O := O.call hb; clear hb)
    go_ret
    exact ⟨rfl, O.below⟩
  · have q : ¬ (20 : Int) < l.length := by omega
    have ca := fun w hl => list_any (lo := 0) (A := A) (c := c) l w hl
    have cb := fun w hl => rlist_any (lo := 0) (A := A) (c := c) l w hl
    have hn := list_len l
    obtain ⟨r, hr⟩ : ∃ r, D.list l = r := ⟨_, rfl⟩
    rw [hr] at ca cb hn
    clear hr
    obtain ⟨L, z⟩ := r
    unfold RetS at ca cb
    dsimp only at ca cb hn
    have HN := Lib.hid hn
    clear hn
    go_enter Try.func4, Try.ntmps4
    go_wp2_with (first | (go_at_call 15; refine (ca _ (O.arg List.mem_cons_self)).mono ?_; rintro e w1 ⟨A1, c1, rfl, hl2, hb⟩; have O2 := O.gain hb hl2; clear O hb hl2; have O := O2; clear O2) | (go_at_call 16; refine (cb _ (O.arg (List.mem_cons_of_mem _ List.mem_cons_self))).mono ?_; rintro e w2 ⟨A2, c2, rfl, hl2, hb⟩; have O2 := O.gain hb hl2; clear O hb hl2; have O := O2; clear O2))
    replace O : Held w w2 [] nilRow [sE w.heap.size A2 c2 L, sE w.heap.size A1 c1 L, sE 0 A c l] := O
    go_loopw [7] (fun t wr => ∃ k : Nat, k ≤ L.length ∧ t = .int .i64 k ∧ Held w wr [] nilRow [sE w.heap.size A2 c2 L, sE w.heap.size A1 c1 L, sE 0 A c l]) (fun t _ => L.length - (intOf t).toNat)
    case atStart => exact ⟨0, Nat.zero_le _, rfl, O⟩
    case round =>
      clear O
      obtain ⟨k, hk, rfl, O⟩ := hrel
      have q0 : (0 : Int) ≤ k := by omega
      by_cases hlt : k < L.length
      · have q1 : (k : Int) < L.length := by omega
        have q2 : (k : Int) < 9 := by have := HN.out; omega
        obtain ⟨x, hx⟩ : ∃ x, L[k]? = some x := ⟨_, List.getElem?_eq_getElem hlt⟩
        have HX := Lib.hid hx
        clear hx
        go_wp2_with fail
        refine region_T ((fun w2 => Held w w2 [] nilRow [sE w.heap.size A2 c2 L, sE w.heap.size A1 c1 L, sE 0 A c l])) [0, 1, 2, 3, 4, 5, 6, 7, 8] 12 [some 38, some 39, some 40, some 41, some 42, some 43, some 44, some 45, some 46] [.slice A1 L.length c1, .int .i64 k, .pointer (some ((adr A1).add (k * 5))), arr 5 x, .slice A2 L.length c2, .int .i64 k, .pointer (some ((adr A2).add (k * 5))), arr 5 x, .bool false] 0 (by kernel_rfl) (by rfl) (by kernel_rfl) (by rfl) (by rfl) (O.drew) (fun F hF => ?_)
        simp only [fillD, Act.put, List.setIfInBounds_toArray, List.set_cons_zero, List.set_cons_succ] at hF
        subst hF
        refine ⟨⟨does_want rfl (by rfl) (fun w' O K hK => ?_), does_want rfl (by rfl) (fun w' O K hK => ?_), does_want rfl (by rfl) (fun w' O K hK => ?_), does_want rfl (by rfl) (fun w' O K hK => ?_), does_want rfl (by rfl) (fun w' O K hK => ?_), does_want rfl (by rfl) (fun w' O K hK => ?_), does_want rfl (by rfl) (fun w' O K hK => ?_), does_want rfl (by rfl) (fun w' O K hK => ?_), does_want rfl (by rfl) (fun w' O K hK => ?_), trivial⟩, fun w' O => ?_⟩
        · go_simp
          exact hK _ O
        · go_simp
          exact hK _ O
        · exact wp_at_h Try.underlying33 sizeOf24 _ (O.mem (List.mem_cons_of_mem _ List.mem_cons_self)) rfl (k) rfl rfl (by omega) rfl (hK _ O)
        · exact wp_elem_h _ (O.mem (List.mem_cons_of_mem _ List.mem_cons_self)) (k * 5) (M.mat 5 x) (ss_at HX.out) (by rw [M.mat_len]; decide) rfl Try.underlying24 rfl (s24 _) (hK _ O)
        · go_simp
          exact hK _ O
        · go_simp
          exact hK _ O
        · exact wp_at_h Try.underlying33 sizeOf24 _ (O.mem List.mem_cons_self) rfl (k) rfl rfl (by omega) rfl (hK _ O)
        · exact wp_elem_h _ (O.mem List.mem_cons_self) (k * 5) (M.mat 5 x) (ss_at HX.out) (by rw [M.mat_len]; decide) rfl Try.underlying24 rfl (s24 _) (hK _ O)
        · refine wp_neq24 x x rfl rfl ?_
          rw [M.eqB_refl]
          exact hK _ O
        refine wpAny_done (by kernel_rfl) ?_ _
        go_wp2_with fail
        go_roundw
        case rel => exact ⟨k + 1, by omega, by go_num, O⟩
        case measure => simp [intOf]; omega
      · have q1 : ¬ (k : Int) < L.length := by omega
        obtain rfl : k = L.length := by omega
        go_wp2_with (go_at_call 12; refine (awake_any _).mono ?_; rintro e w3 ⟨rfl, hb⟩; replace O := O.call hb; clear hb)
        go_ret
        exact ⟨rfl, O.below⟩
theorem readable : ∀ t ∈ Try.f4.params.toList, Try.prog.readableRec t = true ∧ t < Try.prog.types.size := by
  intro t ht
  rw [Try.params4] at ht
  simp only [List.mem_cons, List.not_mem_nil, or_false] at ht
  repeat (first | (rcases ht with rfl | ht; exact ⟨by kernel_rfl, of_decide_eq_true (by kernel_rfl)⟩) | (subst ht; exact ⟨by kernel_rfl, of_decide_eq_true (by kernel_rfl)⟩))
set_option maxRecDepth 100000 in
theorem lifted (os : Os) (started : os.Started) (H : Type) (enc : TypeId × Value → H) :
    ReturnsInHanded {} Try.checked os 4 .any (Rows.sideListsSpec.pre6 enc Try.prog Try.f4 Rows.sideListsRow.domain false) (Rows.sideListsSpec.post enc Try.prog Try.f4 false true false false) := by
  refine returnsInHanded_of_change (C := Try.checked) own started (by kernel_rfl) Try.func4
    (ChangeSpec.witness6 (enc := enc) (C := Try.checked) false ⟨#[], #[.slice none 0 0], []⟩ 8 (by kernel_rfl) (by kernel_rfl) (by kernel_rfl) (by kernel_rfl)) ?_
  intro W base args ds gs before hval0 hW hcnd _
  have hval : ∀ (j : Nat) t v, Try.f4.params[j]? = some t → args[j]? = some v → Value.okWide Try.prog W .any base t v := hval0
  have hW' := hW
  obtain ⟨p, q, hA0, hV, rfl, hfz, hnd⟩ := hW
  have hA : DataW.TrodAll enc Try.prog W 0 (fun _ => true) true Try.f4.params.toList args.toList ds p := hA0
  rw [Try.params4] at hA hval
  have hlt : ∀ x ∈ p ++ q, x.block < W.heap.size := fun x hx => hW'.lt x hx
  obtain ⟨v0, vs0, d0, ds0, p0, q0, hargs, rfl, rfl, h0, rr0⟩ := trodAll_cons hA
  obtain ⟨rfl, rfl, rfl⟩ := trodAll_nil rr0
  obtain rfl : args = #[v0] := by cases args; simp_all
  obtain ⟨rfl, rfl⟩ := trodVars_none hV
  obtain ⟨A0, n0, c0, rfl⟩ := okWide_slice Try.underlying33 (hval 0 33 v0 rfl rfl)
  obtain ⟨B0, k0, l0, e0, hF⟩ := openSides h0 (fun x hx => hlt x (by simp [hx]))
  obtain ⟨rfl, rfl, rfl⟩ := Value.slice.inj e0
  clear hA0 hval0
  refine (walk W _ hF).mono fun e W' ⟨he, hg⟩ => ?_
  subst he
  exact ⟨_, rfl, post_true (tb := 4) laid readable (by kernel_rfl) Try.underlying4 rfl (fun l hl => by
    match l, hl with
    | [_], _ => exact ⟨rfl, rfl, rfl⟩) hW' hg⟩

theorem over : Rows.sideListsRow.holds Try.pinned (OpenSpec.ofChange Rows.sideListsSpec) :=
  OpenClaim.holds_of_wide 4 Try.f4 rfl rfl rfl rfl rfl rfl rfl ⟨rfl, rfl, rfl, rfl, rfl⟩ rfl rfl rfl rfl rfl (by kernel_rfl) Try.func4 (by kernel_rfl)
    (of_decide_eq_true (by kernel_rfl)) (by unfold Func.isWrapper; first | (rw [if_pos (by decide +kernel)]; kernel_rfl) | (rw [if_neg (by decide +kernel)]; exact ⟨rfl, rfl⟩))
    (fun os started H enc _ => lifted os started H enc)

theorem proved : Rows.SideListsSaid :=
  over
#print axioms proved
end Go.Proofs.Ytbjbafhlmcnceaa.sideLists
