/-
  For every list of vertices, of flags and of sides the law CarveTells returns true: what the sides leave of the polygon is the document's. No condition.
-/
import Derived.Test.YtbpignicffkaoaaFi
import Derived.Test.YtbpignicffkaoaaFh
import Derived.Deep.DeepCutAuto
namespace Go.Proofs.Ytbpignicffkaoaa.carveTells
open Go.ChangeShapes Go.WideShapes Go.ChangeAt Go.RowKit
set_option linter.unusedVariables false
set_option linter.unusedSimpArgs false

theorem own : ownKnob Try.prog.godebug = none := by kernel_rfl
theorem res_len (l : List (Nat → Int)) (e : List Bool) (s : List (Nat → Int)) : (C.res l e s).length ≤ 200000 := by
  unfold C.res
  split
  · rename_i h
    rw [C.may, Bool.and_eq_true] at h
    obtain ⟨h1, h2⟩ := h
    obtain ⟨p1, p2, p3, p4⟩ := C.okP_iff.1 h1
    obtain ⟨s1, s2⟩ := C.okS_iff.1 h2
    have h3 := C.carve_len s (l.zip e)
    have h4 : (2 : Nat) ^ s.length ≤ 2 ^ 9 := Nat.pow_le_pow_right (by decide) s1
    have h5 : (l.zip e).length ≤ 256 := by rw [List.length_zip]; omega
    have h6 := Nat.mul_le_mul h4 h5
    exact Nat.le_trans h3 (Nat.le_trans h6 (by decide))
  · simp

set_option maxRecDepth 100000 in
set_option maxHeartbeats 16000000 in
theorem walk (w : World) (l : List (Nat → Int)) (e : List Bool) (s : List (Nat → Int)) {A : Option Addr} {c : Nat} {B : Option Addr} {d : Nat} {D_ : Option Addr} {g : Nat} (hV : Lies w free (vE 0 A c l)) (hB : Lies w free (bE 0 B d e)) (hS : Lies w free (sE 0 D_ g s)) :
    Calls Try.prog 3 #[.slice A l.length c, .slice B e.length d, .slice D_ s.length g] w fun e w' => e = .returned (.bool true) ∧ Below w.heap.size w w' := by
  have O := Held.start w [bE 0 B d e, vE 0 A c l, sE 0 D_ g s] (by
    intro x hx
    simp only [List.mem_cons, List.not_mem_nil, or_false] at hx
    rcases hx with rfl | rfl | rfl
    · exact hB
    · exact hV
    · exact hS)
  clear hV hB hS
  have cf := fun w => few_any l.length e.length s.length (A := A) (B := B) (D_ := D_) (c := c) (d := d) (g := g) w
  cases hf : C.few l.length e.length s.length
  all_goals rw [hf] at cf
  · clear hf
    go_enter Try.func3, Try.ntmps3
    go_wp2_with (first | (go_at_call 8; refine (cf _).mono ?_; rintro r w1 ⟨rfl, rfl⟩) | (go_at_call 9; refine (awake_any _).mono ?_; rintro e w5 ⟨rfl, hb⟩; replace O := O.call hb; clear hb))
    go_ret
    exact ⟨rfl, O.below⟩
  · clear hf
    have c1 := fun w h1 h2 h3 => pcarve_any l e s (lo := 0) (lo2 := 0) (lo3 := 0) (A := A) (B := B) (D_ := D_) (c := c) (d := d) (g := g) w h1 h2 h3
    have c2 := fun w h1 h2 h3 => rcarve_any l e s (lo := 0) (lo2 := 0) (lo3 := 0) (A := A) (B := B) (D_ := D_) (c := c) (d := d) (g := g) w h1 h2 h3
    have hl : (C.vs (C.res l e s)).length = (C.fs (C.res l e s)).length := by rw [vs_len, fs_len]
    have h9 : (C.vs (C.res l e s)).length ≤ 1000000 := by rw [vs_len]; have := res_len l e s; omega
    generalize C.vs (C.res l e s) = L at *
    generalize C.fs (C.res l e s) = N at *
    generalize C.err l e s = z at *
    have cs := fun {lo1 lo2 lo3 lo4 : Nat} {A1 A2 A3 A4 : Option Addr} {c1 c2 c3 c4 : Nat} w h1 h2 h3 h4 => rsame_any L L N N (lo1 := lo1) (lo2 := lo2) (lo3 := lo3) (lo4 := lo4) (A1 := A1) (A2 := A2) (A3 := A3) (A4 := A4) (c1 := c1) (c2 := c2) (c3 := c3) (c4 := c4) h9 w h1 h2 h3 h4
    have HL := Lib.hid hl
    clear hl h9
    go_enter Try.func3, Try.ntmps3
    go_wp2_with (first | (go_at_call 8; refine (cf _).mono ?_; rintro r w1 ⟨rfl, rfl⟩) | (go_at_call 10; refine (c1 _ (O.arg (List.mem_cons_of_mem _ List.mem_cons_self)) (O.arg List.mem_cons_self) (O.arg (List.mem_cons_of_mem _ (List.mem_cons_of_mem _ List.mem_cons_self)))).mono ?_; rintro r w2 ⟨VA, va, WA, wa, rfl, hV, hW, hb⟩; have O2 := O.gains hb (ns := [vE _ VA va _, bE _ WA wa _]) (two_lies hV hW); clear O hV hW hb; have O := O2; clear O2) | (go_at_call 11; refine (c2 _ (O.arg (List.mem_cons_of_mem _ (List.mem_cons_of_mem _ (List.mem_cons_of_mem _ List.mem_cons_self)))) (O.arg (List.mem_cons_of_mem _ (List.mem_cons_of_mem _ List.mem_cons_self))) (O.arg (List.mem_cons_of_mem _ (List.mem_cons_of_mem _ (List.mem_cons_of_mem _ (List.mem_cons_of_mem _ List.mem_cons_self)))))).mono ?_; rintro r w3 ⟨VB, vb, WB, wb, rfl, hV, hW, hb⟩; have O2 := O.gains hb (ns := [vE _ VB vb _, bE _ WB wb _]) (two_lies hV hW); clear O hV hW hb; have O := O2; clear O2) | (go_at_call 9; refine (awake_any _).mono ?_; rintro e w4 ⟨rfl, hb⟩; replace O := O.call hb; clear hb) | (go_at_call 12; refine (cs _ (O.arg (List.mem_cons_of_mem _ (List.mem_cons_of_mem _ List.mem_cons_self))) (O.arg List.mem_cons_self) (O.arg (List.mem_cons_of_mem _ (List.mem_cons_of_mem _ (List.mem_cons_of_mem _ List.mem_cons_self)))) (O.arg (List.mem_cons_of_mem _ List.mem_cons_self))).mono ?_; rintro r w5 ⟨⟨zz, rfl, hz⟩, hb⟩; obtain rfl := hz rfl rfl HL.out; replace O := O.call hb; clear hb hz))
    go_ret
    exact ⟨rfl, O.below⟩
theorem readable : ∀ t ∈ Try.f3.params.toList, Try.prog.readableRec t = true ∧ t < Try.prog.types.size := by
  intro t ht
  rw [Try.params3] at ht
  simp only [List.mem_cons, List.not_mem_nil, or_false] at ht
  repeat (first | (rcases ht with rfl | ht; exact ⟨by kernel_rfl, of_decide_eq_true (by kernel_rfl)⟩) | (subst ht; exact ⟨by kernel_rfl, of_decide_eq_true (by kernel_rfl)⟩))
set_option maxRecDepth 100000 in
theorem lifted (os : Os) (started : os.Started) (H : Type) (enc : TypeId × Value → H) :
    ReturnsInHanded {} Try.checked os 3 .any (Rows.carveTellsSpec.pre6 enc Try.prog Try.f3 Rows.carveTellsRow.domain false) (Rows.carveTellsSpec.post enc Try.prog Try.f3 false true false false) := by
  refine returnsInHanded_of_change (C := Try.checked) own started (by kernel_rfl) Try.func3
    (ChangeSpec.witness6 (enc := enc) (C := Try.checked) false ⟨#[], #[.slice none 0 0, .slice none 0 0, .slice none 0 0], []⟩ 8 (by kernel_rfl) (by kernel_rfl) (by kernel_rfl) (by kernel_rfl)) ?_
  intro W base args ds gs before hval0 hW hcnd _
  have hval : ∀ (j : Nat) t v, Try.f3.params[j]? = some t → args[j]? = some v → Value.okWide Try.prog W .any base t v := hval0
  have hW' := hW
  obtain ⟨p, q, hA0, hV, rfl, hfz, hnd⟩ := hW
  have hA : DataW.TrodAll enc Try.prog W 0 (fun _ => true) true Try.f3.params.toList args.toList ds p := hA0
  rw [Try.params3] at hA hval
  have hlt : ∀ x ∈ p ++ q, x.block < W.heap.size := fun x hx => hW'.lt x hx
  obtain ⟨v0, vs0, d0, ds0, p0, q0, hargs, rfl, rfl, h0, rr0⟩ := trodAll_cons hA
  obtain ⟨v1, vs1, d1, ds1, p1, q1, rfl, rfl, rfl, h1, rr1⟩ := trodAll_cons rr0
  obtain ⟨v2, vs2, d2, ds2, p2, q2, rfl, rfl, rfl, h2, rr2⟩ := trodAll_cons rr1
  obtain ⟨rfl, rfl, rfl⟩ := trodAll_nil rr2
  obtain rfl : args = #[v0, v1, v2] := by cases args; simp_all
  obtain ⟨rfl, rfl⟩ := trodVars_none hV
  obtain ⟨A0, n0, c0, rfl⟩ := okWide_slice Try.underlying22 (hval 0 22 v0 rfl rfl)
  obtain ⟨B0, k0, l0, e0, hF0⟩ := openVerts Try.underlying22 h0 (fun x hx => hlt x (by simp [hx]))
  obtain ⟨rfl, rfl, rfl⟩ := Value.slice.inj e0
  obtain ⟨A1, n1, c1, rfl⟩ := okWide_slice Try.underlying23 (hval 1 23 v1 rfl rfl)
  obtain ⟨B1, k1, l1, e1, hF1⟩ := openBools Try.underlying23 h1 (fun x hx => hlt x (by simp [hx]))
  obtain ⟨rfl, rfl, rfl⟩ := Value.slice.inj e1
  obtain ⟨A2, n2, c2, rfl⟩ := okWide_slice Try.underlying24 (hval 2 24 v2 rfl rfl)
  obtain ⟨B2, k2, l2, e2, hF2⟩ := openSides h2 (fun x hx => hlt x (by simp [hx]))
  obtain ⟨rfl, rfl, rfl⟩ := Value.slice.inj e2
  clear hA0 hval0
  refine (walk W _ _ _ hF0 hF1 hF2).mono fun e W' ⟨he, hg⟩ => ?_
  subst he
  exact ⟨_, rfl, post_true (tb := 4) laid readable (by kernel_rfl) Try.underlying4 rfl (fun l hl => by
    match l, hl with
    | [_, _, _], _ => exact ⟨rfl, rfl, rfl⟩) hW' hg⟩

theorem over : Rows.carveTellsRow.holds Try.pinned (OpenSpec.ofChange Rows.carveTellsSpec) :=
  OpenClaim.holds_of_wide 3 Try.f3 rfl rfl rfl rfl rfl rfl rfl ⟨rfl, rfl, rfl, rfl, rfl⟩ rfl rfl rfl rfl rfl (by kernel_rfl) Try.func3 (by kernel_rfl)
    (of_decide_eq_true (by kernel_rfl)) (by unfold Func.isWrapper; first | (rw [if_pos (by decide +kernel)]; kernel_rfl) | (rw [if_neg (by decide +kernel)]; exact ⟨rfl, rfl⟩))
    (fun os started H enc _ => lifted os started H enc)

theorem proved : Rows.CarveTellsSaid :=
  over
#print axioms proved
end Go.Proofs.Ytbpignicffkaoaa.carveTells
