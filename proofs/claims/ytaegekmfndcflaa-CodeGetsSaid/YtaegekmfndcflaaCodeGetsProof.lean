/-
  For every slice of ints the law CodeGets returns true: the commands of the stream, or where and why there are none, are the document's (600 numbers at most). No condition.
-/
import Derived.Test.YtaegekmfndcflaaRow
import Derived.Test.YtaegekmfndcflaaAwake
import Derived.Test.YtaegekmfndcflaaGetDoc
import Derived.Test.YtaegekmfndcflaaSame
import Derived.Test.YtaegekmfndcflaaOpen
import Derived.Test.YtaegekmfndcflaaMb
import Derived.Deep.DeepCutAuto
namespace Go.Proofs.Ytaegekmfndcflaa.codeGets
open Go.ChangeShapes Go.WideShapes Go.ChangeAt Go.RowKit
set_option linter.unusedVariables false
set_option linter.unusedSimpArgs false

theorem own : ownKnob Try.prog.godebug = none := by kernel_rfl

set_option maxRecDepth 100000 in
set_option maxHeartbeats 4000000 in
theorem walk (A : Option Addr) (c : Nat) (a : List Int) (hc : a.length ≤ c) (hcm : c ≤ 9223372036854775807) (w : World) (hA : Reads w w.heap.size 1 A a.length (ints a)) :
    Calls Try.prog 6 #[.slice A a.length c] w fun e w' => e = .returned (.bool true) ∧ Below w.heap.size w w' := by
  by_cases big : 600 < a.length
  · have q : (600 : Int) < (a.length : Int) := by omega
    clear hA
    go_enter Try.func6, Try.ntmps6
    go_wp2_with fail
    refine (awake_any _).mono ?_
    rintro e w1 ⟨rfl, hb⟩
    go_wp2_with fail
    go_ret
    exact ⟨rfl, hb⟩
  have q : ¬ (600 : Int) < (a.length : Int) := by omega
  have T1 := get_code A a c w hA (by omega)
  have T2 := fun (w' : World) (h : Reads w' w'.heap.size 1 A a.length (ints a)) => get_doc A a c w' h (by omega) hc
  obtain ⟨g1, g2, g3⟩ := P.get_small a
  have HA := Lib.hid hA
  have hl : (P.get a).1.length ≤ 5000 := by omega
  have hm : Hid (∀ r ∈ (P.get a).1, r.2.length ≤ 5000) := Lib.hid fun r hr => by have := g1 r hr; omega
  clear g1 g2 g3 hA hc
  generalize P.get a = R at *
  obtain ⟨L, at_, er⟩ := R
  unfold RetGet at T1 T2
  dsimp only at T1 T2 hl hm
  go_enter Try.func6, Try.ntmps6
  go_wp2_with fail
  refine T1.mono ?_
  rintro e w1 ⟨A1, c1, rfl, r1, K⟩
  clear T1
  go_wp2_with fail
  refine (T2 _ ((HA.out.below K).more K.size)).mono ?_
  rintro e w2 ⟨A2, c2, rfl, r2, hb⟩
  have r1' := (r1.below hb).more hb.size
  replace K := K.trans (hb.mono K.size)
  clear hb T2 r1
  go_wp2_with fail
  refine (awake_any _).mono ?_
  rintro e w3 ⟨rfl, hb⟩
  have s1 := (r1'.below hb).more hb.size
  have s2 := (r2.below hb).more hb.size
  replace K := K.trans (hb.mono K.size)
  have T3 := same_recs A1 A2 c1 c2 L w3 s1 s2 hl hm.out
  clear hb r1' r2 s1 s2
  go_wp2_with fail
  refine T3.mono ?_
  rintro e w4 ⟨rfl, hb⟩
  replace K := K.trans (hb.mono K.size)
  clear hb T3
  go_wp2_with fail
  go_ret
  exact ⟨rfl, K⟩

theorem readable : ∀ t ∈ Try.f6.params.toList, Try.prog.readableRec t = true ∧ t < Try.prog.types.size := by
  intro t ht
  rw [Try.params6] at ht
  simp only [List.mem_cons, List.not_mem_nil, or_false] at ht
  repeat (first | (rcases ht with rfl | ht; exact ⟨by kernel_rfl, of_decide_eq_true (by kernel_rfl)⟩) | (subst ht; exact ⟨by kernel_rfl, of_decide_eq_true (by kernel_rfl)⟩))
set_option maxRecDepth 100000 in
theorem lifted (os : Os) (started : os.Started) (H : Type) (enc : TypeId × Value → H) :
    ReturnsInHanded {} Try.checked os 6 .any (Rows.codeGetsSpec.pre6 enc Try.prog Try.f6 Rows.codeGetsRow.domain false) (Rows.codeGetsSpec.post enc Try.prog Try.f6 false true false false) := by
  refine returnsInHanded_of_change (C := Try.checked) own started (by kernel_rfl) Try.func6
    (ChangeSpec.witness6 (enc := enc) (C := Try.checked) false ⟨#[], #[.slice none 0 0], []⟩ 8 (by kernel_rfl) (by kernel_rfl) (by kernel_rfl) (by kernel_rfl)) ?_
  intro W base args ds gs before hval0 hW hcnd _
  have hval : ∀ (j : Nat) t v, Try.f6.params[j]? = some t → args[j]? = some v → Value.okWide Try.prog W .any base t v := hval0
  have hW' := hW
  obtain ⟨p, q, hA0, hV, rfl, hfz, hnd⟩ := hW
  have hA : DataW.TrodAll enc Try.prog W 0 (fun _ => true) true Try.f6.params.toList args.toList ds p := hA0
  rw [Try.params6] at hA hval
  have hlt : ∀ x ∈ p ++ q, x.block < W.heap.size := fun x hx => hW'.lt x hx
  obtain ⟨v0, d0, rfl, rfl, h0⟩ := trodAll_one hA
  obtain ⟨rfl, rfl⟩ := trodVars_none hV
  obtain ⟨A0, n0, c0, rfl⟩ := okWide_slice Try.underlying28 (hval 0 28 v0 rfl rfl)
  obtain ⟨fuel, hf⟩ := h0
  obtain ⟨A, c, a, e0, hc, hm, rdA⟩ := open_nums (v := .slice A0 n0 c0) hf (fun x hx => hlt x (by simpa using hx))
  cases e0
  clear hA0 hval0
  refine (walk A0 c0 a hc hm W rdA).mono fun e W' ⟨he, hg⟩ => ?_
  subst he
  exact ⟨_, rfl, post_true (tb := 4) laid readable (by kernel_rfl) Try.underlying4 rfl (fun l hl => by
    match l, hl with
    | [_], _ => exact ⟨rfl, rfl, rfl⟩) hW' hg⟩

theorem over : Rows.codeGetsRow.holds Try.pinned (OpenSpec.ofChange Rows.codeGetsSpec) :=
  OpenClaim.holds_of_wide 6 Try.f6 rfl rfl rfl rfl rfl rfl rfl ⟨rfl, rfl, rfl, rfl, rfl⟩ rfl rfl rfl rfl rfl (by kernel_rfl) Try.func6 (by kernel_rfl)
    (of_decide_eq_true (by kernel_rfl)) (by unfold Func.isWrapper; first | (rw [if_pos (by decide +kernel)]; kernel_rfl) | (rw [if_neg (by decide +kernel)]; exact ⟨rfl, rfl⟩))
    (fun os started H enc _ => lifted os started H enc)

theorem proved : Rows.CodeGetsSaid :=
  over
#print axioms proved
end Go.Proofs.Ytaegekmfndcflaa.codeGets
