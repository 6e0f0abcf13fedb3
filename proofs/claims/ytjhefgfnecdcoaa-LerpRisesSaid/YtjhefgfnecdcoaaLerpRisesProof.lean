/-
  LerpRises: a pixel further on is not nearer to a's depth.
-/
import Derived.Test.YtjhefgfnecdcoaaRg1
import Derived.Test.YtjhefgfnecdcoaaRg2
import Derived.Test.YtjhefgfnecdcoaaRs110
import Derived.Test.YtjhefgfnecdcoaaRs111
import Derived.Test.YtjhefgfnecdcoaaRs112
import Derived.Test.YtjhefgfnecdcoaaRs100
import Derived.Test.YtjhefgfnecdcoaaRs101
import Derived.Test.YtjhefgfnecdcoaaRs102
import Derived.Test.YtjhefgfnecdcoaaRs010
import Derived.Test.YtjhefgfnecdcoaaRs011
import Derived.Test.YtjhefgfnecdcoaaRs012
import Derived.Test.YtjhefgfnecdcoaaRs000
import Derived.Test.YtjhefgfnecdcoaaRs001
import Derived.Test.YtjhefgfnecdcoaaRs002
import Derived.Deep.DeepCutAuto
namespace Go.Proofs.Ytjhefgfnecdcoaa.lerpRises
open Go.ChangeShapes Go.WideShapes Go.ChangeAt Go.RowKit
set_option linter.unusedVariables false
set_option linter.unusedSimpArgs false

theorem own : ownKnob Try.prog.godebug = none := by kernel_rfl

set_option maxRecDepth 100000 in
set_option maxHeartbeats 16000000 in
theorem walk (w : World) (a b p q : Nat → Int) :
    Calls Try.prog 6 #[.agg (VM.fu a b p q).toArray] w fun e w' => e = .returned (.bool true) ∧ Below w.heap.size w w' := by
  cases h1 : VM.fit a
  · exact rises_g1 a b p q h1 w
  cases h2 : VM.fit b
  · exact rises_g2 a b p q h1 h2 w
  cases h3 : VM.near p
  · exact rises_g3 a b p q h1 h2 h3 w
  by_cases k0 : q 0 < 0
  · exact rises_g4 a b p q h1 h2 h3 k0 w
  by_cases k1 : 1048576 < q 0
  · exact rises_g5 a b p q h1 h2 h3 k0 k1 w
  by_cases k2 : q 1 < 0
  · exact rises_g6 a b p q h1 h2 h3 k0 k1 k2 w
  by_cases k3 : 1048576 < q 1
  · exact rises_g7 a b p q h1 h2 h3 k0 k1 k2 k3 w
  by_cases hs : a 2 ≤ b 2
  · by_cases sw : b 0 - a 0 < 0
    · by_cases sh : b 1 - a 1 < 0
      · cases h5 : VM.near (VM.t2 (p 0 - q 0) (p 1 - q 1))
        · exact rises_110 a b p q h1 h2 h3 k0 k1 k2 k3 sw sh h5 w
        · exact rises_111 a b p q h1 h2 h3 k0 k1 k2 k3 sw sh h5 hs w
      · cases h5 : VM.near (VM.t2 (p 0 - q 0) (p 1 + q 1))
        · exact rises_100 a b p q h1 h2 h3 k0 k1 k2 k3 sw sh h5 w
        · exact rises_101 a b p q h1 h2 h3 k0 k1 k2 k3 sw sh h5 hs w
    · by_cases sh : b 1 - a 1 < 0
      · cases h5 : VM.near (VM.t2 (p 0 + q 0) (p 1 - q 1))
        · exact rises_010 a b p q h1 h2 h3 k0 k1 k2 k3 sw sh h5 w
        · exact rises_011 a b p q h1 h2 h3 k0 k1 k2 k3 sw sh h5 hs w
      · cases h5 : VM.near (VM.t2 (p 0 + q 0) (p 1 + q 1))
        · exact rises_000 a b p q h1 h2 h3 k0 k1 k2 k3 sw sh h5 w
        · exact rises_001 a b p q h1 h2 h3 k0 k1 k2 k3 sw sh h5 hs w
  · by_cases sw : b 0 - a 0 < 0
    · by_cases sh : b 1 - a 1 < 0
      · cases h5 : VM.near (VM.t2 (p 0 - q 0) (p 1 - q 1))
        · exact rises_110 a b p q h1 h2 h3 k0 k1 k2 k3 sw sh h5 w
        · exact rises_112 a b p q h1 h2 h3 k0 k1 k2 k3 sw sh h5 hs w
      · cases h5 : VM.near (VM.t2 (p 0 - q 0) (p 1 + q 1))
        · exact rises_100 a b p q h1 h2 h3 k0 k1 k2 k3 sw sh h5 w
        · exact rises_102 a b p q h1 h2 h3 k0 k1 k2 k3 sw sh h5 hs w
    · by_cases sh : b 1 - a 1 < 0
      · cases h5 : VM.near (VM.t2 (p 0 + q 0) (p 1 - q 1))
        · exact rises_010 a b p q h1 h2 h3 k0 k1 k2 k3 sw sh h5 w
        · exact rises_012 a b p q h1 h2 h3 k0 k1 k2 k3 sw sh h5 hs w
      · cases h5 : VM.near (VM.t2 (p 0 + q 0) (p 1 + q 1))
        · exact rises_000 a b p q h1 h2 h3 k0 k1 k2 k3 sw sh h5 w
        · exact rises_002 a b p q h1 h2 h3 k0 k1 k2 k3 sw sh h5 hs w

theorem readable : ∀ t ∈ Try.f6.params.toList, Try.prog.readableRec t = true ∧ t < Try.prog.types.size := by
  intro t ht
  rw [Try.params6] at ht
  simp only [List.mem_cons, List.not_mem_nil, or_false] at ht
  repeat (first | (rcases ht with rfl | ht; exact ⟨by kernel_rfl, of_decide_eq_true (by kernel_rfl)⟩) | (subst ht; exact ⟨by kernel_rfl, of_decide_eq_true (by kernel_rfl)⟩))
set_option maxRecDepth 100000 in
theorem lifted (os : Os) (started : os.Started) (H : Type) (enc : TypeId × Value → H) :
    ReturnsInHanded {} Try.checked os 6 .any (Rows.lerpRisesSpec.pre6 enc Try.prog Try.f6 Rows.lerpRisesRow.domain false) (Rows.lerpRisesSpec.post enc Try.prog Try.f6 false true false false) := by
  refine returnsInHanded_of_change (C := Try.checked) own started (by kernel_rfl) Try.func6
    (ChangeSpec.witness6 (enc := enc) (C := Try.checked) false ⟨#[], #[.agg #[.int .i64 0, .int .i64 0, .int .i64 0, .int .i64 0, .int .i64 0, .int .i64 0, .int .i64 0, .int .i64 0, .int .i64 0, .int .i64 0, .int .i64 0, .int .i64 0, .int .i64 0, .int .i64 0, .int .i64 0, .int .i64 0, .int .i64 0, .int .i64 0]], []⟩ 8 (by kernel_rfl) (by kernel_rfl) (by kernel_rfl) (by kernel_rfl)) ?_
  intro W base args ds gs before hval0 hW hcnd _
  have hval : ∀ (j : Nat) t v, Try.f6.params[j]? = some t → args[j]? = some v → Value.okWide Try.prog W .any base t v := hval0
  have hW' := hW
  obtain ⟨p, q, hA0, hV, rfl, hfz, hnd⟩ := hW
  have hA : DataW.TrodAll enc Try.prog W 0 (fun _ => true) true Try.f6.params.toList args.toList ds p := hA0
  rw [Try.params6] at hA hval
  have hlt : ∀ x ∈ p ++ q, x.block < W.heap.size := fun x hx => hW'.lt x hx
  obtain ⟨v0, vs0, d0, ds0, p0, q0, hargs, rfl, rfl, h0, rr0⟩ := trodAll_cons hA
  obtain ⟨rfl, rfl, rfl⟩ := trodAll_nil rr0
  obtain rfl : args = #[v0] := by cases args; simp_all
  obtain ⟨rfl, rfl⟩ := trodVars_none hV
  obtain ⟨a0, b0, c0, e0, rfl⟩ := openFur (hval 0 37 v0 rfl rfl) h0
  clear hA0 hval0
  refine (walk W a0 b0 c0 e0).mono fun e W' ⟨he, hg⟩ => ?_
  subst he
  exact ⟨_, rfl, post_true (tb := 4) laid readable (by kernel_rfl) Try.underlying4 rfl (fun l hl => by
    match l, hl with
    | [_], _ => exact ⟨rfl, rfl, rfl⟩) hW' hg⟩

theorem over : Rows.lerpRisesRow.holds Try.pinned (OpenSpec.ofChange Rows.lerpRisesSpec) :=
  OpenClaim.holds_of_wide 6 Try.f6 rfl rfl rfl rfl rfl rfl rfl ⟨rfl, rfl, rfl, rfl, rfl⟩ rfl rfl rfl rfl rfl (by kernel_rfl) Try.func6 (by kernel_rfl)
    (of_decide_eq_true (by kernel_rfl)) (by unfold Func.isWrapper; first | (rw [if_pos (by decide +kernel)]; kernel_rfl) | (rw [if_neg (by decide +kernel)]; exact ⟨rfl, rfl⟩))
    (fun os started H enc _ => lifted os started H enc)

theorem proved : Rows.LerpRisesSaid :=
  over
#print axioms proved
end Go.Proofs.Ytjhefgfnecdcoaa.lerpRises
