/- Contract: the document's Mid. -/
import Derived.Test.YtdkppkdoconfhaaVb
import Derived.Test.YtdkppkdoconfhaaVm
import Derived.Test.YtdkppkdoconfhaaTy
namespace Go.Proofs.Ytdkppkdoconfhaa
open Go.ChangeShapes Go.WideShapes Go.ChangeAt Go.RowKit
set_option linter.unusedVariables false
set_option linter.unusedSimpArgs false

theorem VM.mid_wt {p q n d : Int} (hd : 1 ≤ d) : VM.mid p q n d = D.wt p q (VM.cl n d) d := by
  unfold VM.mid VM.top D.wt
  rw [if_neg (by omega)]
set_option maxHeartbeats 4000000 in
theorem rmid_any (p q n d : Int) (hp : -1099511627776 ≤ p ∧ p ≤ 1099511627776) (hq : -1099511627776 ≤ q ∧ q ≤ 1099511627776) (hd : d < 9223372036854775808) (w : World) :
    Calls Try.prog 69 #[.int .i64 p, .int .i64 q, .int .i64 n, .int .i64 d] w fun e w' => e = .returned (.int .i64 (VM.mid p q n d)) ∧ Below w.heap.size w w' := by
  by_cases h1 : d < 1
  · have HE := Lib.hid (show VM.mid p q n d = p from if_pos h1)
    have c1 : decide (d < 1) = true := decide_eq_true h1
    clear hp hq hd h1
    go_enter Try.func69, Try.ntmps69
    go_wp2_with fail
    go_ret
    exact ⟨by rw [HE.out]; rfl, Below.refl _ _⟩
  · have CM := fun w => rmid8_any p q (VM.cl n d) d hp hq (VM.cl_lim (by omega)).1 (VM.cl_lim (by omega)).2 (by omega) hd w
    rw [← VM.mid_wt (by omega)] at CM
    have c1 : decide (d < 1) = false := decide_eq_false h1
    generalize VM.mid p q n d = y at *
    unfold VM.cl at CM
    obtain ⟨k1, hk1⟩ : ∃ z, min n d = z := ⟨_, rfl⟩
    rw [hk1] at CM
    obtain ⟨k2, hk2⟩ : ∃ z, max 0 k1 = z := ⟨_, rfl⟩
    rw [hk2] at CM
    have FM := Lib.hid (And.intro (congrArg (Value.int IntKind.i64) hk1) (And.intro (congrArg (Value.int IntKind.i64) hk2) (And.intro (congrArg (Value.int IntKind.i64) ((min_if n d).trans hk1)) (congrArg (Value.int IntKind.i64) ((max_if 0 k1).trans hk2)))))
    clear hp hq hd h1 hk1 hk2
    obtain ⟨m1, m2, m3, m4⟩ := FM.out
    clear FM
    go_enter Try.func69, Try.ntmps69
    go_wp2_with (go_at_call 76; refine (CM _).mono ?_; rintro e w2 ⟨rfl, hb⟩)
    go_ret
    exact ⟨rfl, hb⟩
end Go.Proofs.Ytdkppkdoconfhaa
