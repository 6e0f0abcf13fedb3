/-
  For every slice of commands the law CodePuts returns true: the stream of the commands, or why there is none, is the document's (60 commands at most). No condition.
-/
import Derived.Test.YtaegekmfndcflaaRow
import Derived.Test.YtaegekmfndcflaaAwake
import Derived.Test.YtaegekmfndcflaaPutDoc
import Derived.Test.YtaegekmfndcflaaOpen
import Derived.Deep.DeepCutAuto
namespace Go.Proofs.Ytaegekmfndcflaa.codePuts
open Go.ChangeShapes Go.WideShapes Go.ChangeAt Go.RowKit
set_option linter.unusedVariables false
set_option linter.unusedSimpArgs false

theorem own : ownKnob Try.prog.godebug = none := by kernel_rfl

set_option maxRecDepth 100000 in
set_option maxHeartbeats 4000000 in
theorem walk (A : Option Addr) (c : Nat) (l : List P.Rec) (w : World) (hA : RecsAt w w.heap.size A l) :
    Calls Try.prog 5 #[.slice A l.length c] w fun e w' => e = .returned (.bool true) ∧ Below w.heap.size w w' := by
  by_cases big : 60 < l.length
  · have q : (60 : Int) < (l.length : Int) := by omega
    clear hA
    go_enter Try.func5, Try.ntmps5
    go_wp2_with fail
    refine (awake_any _).mono ?_
    rintro e w1 ⟨rfl, hb⟩
    go_wp2_with fail
    go_ret
    exact ⟨rfl, hb⟩
  have q : ¬ (60 : Int) < (l.length : Int) := by omega
  have hl : l.length ≤ 4096 := by omega
  have T1 := put_code A l c w hA hl
  have T2 := fun (w' : World) (h : RecsAt w' w'.heap.size A l) => put_doc A l c w' h hl
  have HA := Lib.hid hA
  have hs : (P.put l).1.length ≤ 69632 := by
    rcases Classical.em ((P.put l).2 = 0) with h | h
    · obtain ⟨h1, h2⟩ := P.put_ok' h
      rw [h2]
      have := flat_le (l := l) (k := l.length) (by rw [List.take_length]; exact h1)
      rw [List.take_length] at this
      omega
    · rw [P.put_err h]; simp
  generalize P.put l = R at *
  obtain ⟨s, er⟩ := R
  unfold RetPut at T1 T2
  dsimp only at T1 T2 hs
  clear hA
  go_enter Try.func5, Try.ntmps5
  go_wp2_with fail
  refine T1.mono ?_
  rintro e w1 ⟨A1, c1, rfl, _, r1, K⟩
  clear T1
  go_wp2_with fail
  refine (T2 _ ((HA.out.below K).more K.size)).mono ?_
  rintro e w2 ⟨A2, c2, rfl, _, r2, hb⟩
  have r1' := (r1.below hb).more hb.size
  replace K := K.trans (hb.mono K.size)
  clear hb T2 r1
  have b1 : ((s.length : Int) != (s.length : Int)) = false := by simp
  have b2 : (s.length : Int) ≤ 69632 := by omega
  have b3 : (er == er) = true := by simp
  go_wp2_with fail
  clear b1
  go_loopw [7] (fun v wr => ∃ k : Nat, v = .int .i64 k ∧ k ≤ s.length ∧ Below w2.heap.size w2 wr) (fun v _ => s.length - (intOf v).toNat)
  case atStart => exact ⟨0, rfl, by omega, Below.refl _ _⟩
  case round =>
    obtain ⟨k, rfl, hk, hI⟩ := hrel
    have q2 : (0 : Int) ≤ (k : Int) := by omega
    by_cases hlk : k < s.length
    · obtain ⟨xd, u, rfl, _, hx, hcx⟩ := (r1'.below hI).at_ hlk
      obtain ⟨yd, v, rfl, _, hy, hcy⟩ := (r2.below hI).at_ hlk
      rw [ints_get hlk] at hx hy
      cases hx
      cases hy
      have q3 : (k : Int) < (s.length : Int) := by omega
      generalize s[k] = z at *
      have b4 : (z != z) = false := by simp
      clear r1' r2
      go_wp2_with fail
      go_quiet (fail)
      go_wp2_with fail
      exact ⟨⟨k + 1, rfl, by omega, bdrewN hI _⟩, by simp [intOf]; omega⟩
    · have q3 : ¬ (k : Int) < (s.length : Int) := by omega
      replace K := K.trans (hI.mono K.size)
      clear r1' r2
      go_wp2_with fail
      refine (awake_any _).mono ?_
      rintro e w5 ⟨rfl, hb⟩
      replace K := K.trans (hb.mono K.size)
      clear hb
      go_wp2_with fail
      go_ret
      exact ⟨rfl, K⟩

theorem readable : ∀ t ∈ Try.f5.params.toList, Try.prog.readableRec t = true ∧ t < Try.prog.types.size := by
  intro t ht
  rw [Try.params5] at ht
  simp only [List.mem_cons, List.not_mem_nil, or_false] at ht
  repeat (first | (rcases ht with rfl | ht; exact ⟨by kernel_rfl, of_decide_eq_true (by kernel_rfl)⟩) | (subst ht; exact ⟨by kernel_rfl, of_decide_eq_true (by kernel_rfl)⟩))
set_option maxRecDepth 100000 in
theorem lifted (os : Os) (started : os.Started) (H : Type) (enc : TypeId × Value → H) :
    ReturnsInHanded {} Try.checked os 5 .any (Rows.codePutsSpec.pre6 enc Try.prog Try.f5 Rows.codePutsRow.domain false) (Rows.codePutsSpec.post enc Try.prog Try.f5 false true false false) := by
  refine returnsInHanded_of_change (C := Try.checked) own started (by kernel_rfl) Try.func5
    (ChangeSpec.witness6 (enc := enc) (C := Try.checked) false ⟨#[], #[.slice none 0 0], []⟩ 8 (by kernel_rfl) (by kernel_rfl) (by kernel_rfl) (by kernel_rfl)) ?_
  intro W base args ds gs before hval0 hW hcnd _
  have hval : ∀ (j : Nat) t v, Try.f5.params[j]? = some t → args[j]? = some v → Value.okWide Try.prog W .any base t v := hval0
  have hW' := hW
  obtain ⟨p, q, hA0, hV, rfl, hfz, hnd⟩ := hW
  have hA : DataW.TrodAll enc Try.prog W 0 (fun _ => true) true Try.f5.params.toList args.toList ds p := hA0
  rw [Try.params5] at hA hval
  have hlt : ∀ x ∈ p ++ q, x.block < W.heap.size := fun x hx => hW'.lt x hx
  obtain ⟨v0, d0, rfl, rfl, h0⟩ := trodAll_one hA
  obtain ⟨rfl, rfl⟩ := trodVars_none hV
  obtain ⟨A0, n0, c0, rfl⟩ := okWide_slice Try.underlying34 (hval 0 34 v0 rfl rfl)
  obtain ⟨fuel, hf⟩ := h0
  obtain ⟨A, c, l, e0, hc, hm, rdA⟩ := open_recs (v := .slice A0 n0 c0) hf (fun x hx => hlt x (by simpa using hx))
  cases e0
  clear hA0 hval0
  refine (walk A0 c0 l W rdA).mono fun e W' ⟨he, hg⟩ => ?_
  subst he
  exact ⟨_, rfl, post_true (tb := 4) laid readable (by kernel_rfl) Try.underlying4 rfl (fun l hl => by
    match l, hl with
    | [_], _ => exact ⟨rfl, rfl, rfl⟩) hW' hg⟩

theorem over : Rows.codePutsRow.holds Try.pinned (OpenSpec.ofChange Rows.codePutsSpec) :=
  OpenClaim.holds_of_wide 5 Try.f5 rfl rfl rfl rfl rfl rfl rfl ⟨rfl, rfl, rfl, rfl, rfl⟩ rfl rfl rfl rfl rfl (by kernel_rfl) Try.func5 (by kernel_rfl)
    (of_decide_eq_true (by kernel_rfl)) (by unfold Func.isWrapper; first | (rw [if_pos (by decide +kernel)]; kernel_rfl) | (rw [if_neg (by decide +kernel)]; exact ⟨rfl, rfl⟩))
    (fun os started H enc _ => lifted os started H enc)

theorem proved : Rows.CodePutsSaid :=
  over
#print axioms proved
end Go.Proofs.Ytaegekmfndcflaa.codePuts
