/-
  For every slice of commands the law CodeBack returns true: commands that have a stream are what is got of it (60 commands at most). No condition.
-/
import Derived.Test.YtaegekmfndcflaaRow
import Derived.Test.YtaegekmfndcflaaAwake
import Derived.Test.YtaegekmfndcflaaPut
import Derived.Test.YtaegekmfndcflaaSame
import Derived.Test.YtaegekmfndcflaaOpen
import Derived.Test.YtaegekmfndcflaaMb
import Derived.Deep.DeepCutAuto
namespace Go.Proofs.Ytaegekmfndcflaa.codeBack
open Go.ChangeShapes Go.WideShapes Go.ChangeAt Go.RowKit
set_option linter.unusedVariables false
set_option linter.unusedSimpArgs false

theorem own : ownKnob Try.prog.godebug = none := by kernel_rfl

set_option maxRecDepth 100000 in
set_option maxHeartbeats 4000000 in
theorem walk (A : Option Addr) (c : Nat) (l : List P.Rec) (w : World) (hA : RecsAt w w.heap.size A l) :
    Calls Try.prog 7 #[.slice A l.length c] w fun e w' => e = .returned (.bool true) ∧ Below w.heap.size w w' := by
  by_cases big : 60 < l.length
  · have q : (60 : Int) < (l.length : Int) := by omega
    clear hA
    go_enter Try.func7, Try.ntmps7
    go_wp2_with fail
    refine (awake_any _).mono ?_
    rintro e w1 ⟨rfl, hb⟩
    go_wp2_with fail
    go_ret
    exact ⟨rfl, hb⟩
  have q : ¬ (60 : Int) < (l.length : Int) := by omega
  have hl : l.length ≤ 4096 := by omega
  have T1 := put_code A l c w hA hl
  have HA := Lib.hid hA
  unfold RetPut at T1
  rcases Classical.em ((P.put l).2 = 0) with h | h
  · obtain ⟨h1, h2⟩ := P.put_ok' h
    have hs : (P.flat l).length ≤ 5000 := by
      have := flat_le (l := l) (k := l.length) (by rw [List.take_length]; exact h1)
      rw [List.take_length] at this
      omega
    have G := P.get_flat h1 (by omega)
    have hm : Hid (∀ r ∈ l, r.2.length ≤ 5000) := Lib.hid fun r hr => by
      obtain ⟨b, ht, hb⟩ := P.bad_not (h1 r hr)
      have := P.tab_len ht
      omega
    rw [h, h2] at T1
    have T2 := fun (A' : Option Addr) (c' : Nat) (w' : World) (h : Reads w' w'.heap.size 1 A' (P.flat l).length (ints (P.flat l))) => get_code A' (P.flat l) c' w' h hs
    rw [G] at T2
    unfold RetGet at T2
    dsimp only at T2
    clear h h1 h2 G hA
    generalize P.flat l = s at *
    go_enter Try.func7, Try.ntmps7
    go_wp2_with fail
    refine T1.mono ?_
    rintro e w1 ⟨A1, c1, rfl, _, r1, K⟩
    clear T1
    go_wp2_with fail
    refine (T2 A1 c1 _ r1).mono ?_
    rintro e w2 ⟨A2, c2, rfl, r2, hb⟩
    replace K := K.trans (hb.mono K.size)
    clear hb T2 r1
    go_wp2_with fail
    refine (awake_any _).mono ?_
    rintro e w3 ⟨rfl, hb⟩
    have s2 := (r2.below hb).more hb.size
    replace K := K.trans (hb.mono K.size)
    have s1 := (HA.out.below K).more K.size
    have T3 := same_recs A A2 c c2 l w3 s1 s2 (by omega) hm.out
    clear hb r2 s1 s2
    go_wp2_with fail
    refine T3.mono ?_
    rintro e w4 ⟨rfl, hb⟩
    replace K := K.trans (hb.mono K.size)
    clear hb T3
    go_wp2_with fail
    go_ret
    exact ⟨rfl, K⟩
  · rw [P.put_err h] at T1
    generalize (P.put l).2 = er at *
    have b1 : (er != 0) = true := by simp [h]
    simp only [List.length_nil] at T1
    clear hA h
    go_enter Try.func7, Try.ntmps7
    go_wp2_with fail
    refine T1.mono ?_
    rintro e w1 ⟨A1, c1, rfl, _, r1, K⟩
    clear T1 r1
    go_wp2_with fail
    refine (awake_any _).mono ?_
    rintro e w3 ⟨rfl, hb⟩
    replace K := K.trans (hb.mono K.size)
    clear hb
    go_wp2_with fail
    go_ret
    exact ⟨rfl, K⟩

theorem readable : ∀ t ∈ Try.f7.params.toList, Try.prog.readableRec t = true ∧ t < Try.prog.types.size := by
  intro t ht
  rw [Try.params7] at ht
  simp only [List.mem_cons, List.not_mem_nil, or_false] at ht
  repeat (first | (rcases ht with rfl | ht; exact ⟨by kernel_rfl, of_decide_eq_true (by kernel_rfl)⟩) | (subst ht; exact ⟨by kernel_rfl, of_decide_eq_true (by kernel_rfl)⟩))
set_option maxRecDepth 100000 in
theorem lifted (os : Os) (started : os.Started) (H : Type) (enc : TypeId × Value → H) :
    ReturnsInHanded {} Try.checked os 7 .any (Rows.codeBackSpec.pre6 enc Try.prog Try.f7 Rows.codeBackRow.domain false) (Rows.codeBackSpec.post enc Try.prog Try.f7 false true false false) := by
  refine returnsInHanded_of_change (C := Try.checked) own started (by kernel_rfl) Try.func7
    (ChangeSpec.witness6 (enc := enc) (C := Try.checked) false ⟨#[], #[.slice none 0 0], []⟩ 8 (by kernel_rfl) (by kernel_rfl) (by kernel_rfl) (by kernel_rfl)) ?_
  intro W base args ds gs before hval0 hW hcnd _
  have hval : ∀ (j : Nat) t v, Try.f7.params[j]? = some t → args[j]? = some v → Value.okWide Try.prog W .any base t v := hval0
  have hW' := hW
  obtain ⟨p, q, hA0, hV, rfl, hfz, hnd⟩ := hW
  have hA : DataW.TrodAll enc Try.prog W 0 (fun _ => true) true Try.f7.params.toList args.toList ds p := hA0
  rw [Try.params7] at hA hval
  have hlt : ∀ x ∈ p ++ q, x.block < W.heap.size := fun x hx => hW'.lt x hx
  obtain ⟨v0, d0, rfl, rfl, h0⟩ := trodAll_one hA
  obtain ⟨rfl, rfl⟩ := trodVars_none hV
  obtain ⟨A0, n0, c0, rfl⟩ := okWide_slice Try.underlying34 (hval 0 34 v0 rfl rfl)
  obtain ⟨fuel, hf⟩ := h0
  obtain ⟨A, c, l, e0, hc, hm, rdA⟩ := open_recs (v := .slice A0 n0 c0) hf (fun x hx => hlt x (by simpa using hx))
  cases e0
  clear hA0 hval0
  refine (walk A0 c0 l W rdA).mono fun e W' ⟨he, hg⟩ => ?_
  subst he
  exact ⟨_, rfl, post_true (tb := 4) laid readable (by kernel_rfl) Try.underlying4 rfl (fun l hl => by
    match l, hl with
    | [_], _ => exact ⟨rfl, rfl, rfl⟩) hW' hg⟩

theorem over : Rows.codeBackRow.holds Try.pinned (OpenSpec.ofChange Rows.codeBackSpec) :=
  OpenClaim.holds_of_wide 7 Try.f7 rfl rfl rfl rfl rfl rfl rfl ⟨rfl, rfl, rfl, rfl, rfl⟩ rfl rfl rfl rfl rfl (by kernel_rfl) Try.func7 (by kernel_rfl)
    (of_decide_eq_true (by kernel_rfl)) (by unfold Func.isWrapper; first | (rw [if_pos (by decide +kernel)]; kernel_rfl) | (rw [if_neg (by decide +kernel)]; exact ⟨rfl, rfl⟩))
    (fun os started H enc _ => lifted os started H enc)

theorem proved : Rows.CodeBackSaid :=
  over
#print axioms proved
end Go.Proofs.Ytaegekmfndcflaa.codeBack
