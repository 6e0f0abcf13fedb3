/- Contracts: Inside, the document's In. -/
import Derived.Test.YtpfhaocmcfnhnaaGreatWa
import Derived.Test.YtpfhaocmcfnhnaaGreatNb
import Derived.OwnWalk
namespace Go.Proofs.YtpfhaocmcfnhnaaGreat
open Go.ChangeShapes Go.WideShapes Go.ChangeAt Go.RowKit
set_option linter.unusedVariables false
set_option linter.unusedSimpArgs false

namespace DM
theorem inside_sg (u v : Int) : inside u v = (decide (sg (u + v - 128) (-1) (-1) < 0) && (decide (0 < sg (u + v + 128) (-1) (-1)) && (decide (sg (u - v - 128) (-1) 1 < 0) && decide (0 < sg (u - v + 128) (-1) 1)))) := by
 rw [Bool.eq_iff_iff, inside_iff]
 simp only [Bool.and_eq_true, decide_eq_true_eq, sg_neg, sg_pos]
 omega
theorem quo_lim {X : Int} (h1 : -1073741824 ≤ X) (h2 : X ≤ 1073741824) : (-4194304 ≤ X.tdiv 256 ∧ X.tdiv 256 ≤ 4194304) ∧ 256 * X.tdiv 256 - 256 < X ∧ X < 256 * X.tdiv 256 + 256 := by
 have e := Int.mul_tdiv_add_tmod X 256
 have e2 : -256 < X.tmod 256 ∧ X.tmod 256 < 256 := by
  rcases (by omega : 0 ≤ X ∨ X < 0) with h | h
  ·
   have h1 := Int.tmod_lt_of_pos X (show (0 : Int) < 256 by decide)
   have h2 := Int.tmod_nonneg (a := X) 256 h
   omega
  ·
   have h1 := Int.tmod_lt_of_pos (-X) (show (0 : Int) < 256 by decide)
   have h2 := Int.tmod_nonneg (a := -X) 256 (by omega)
   rw [Int.neg_tmod] at h1 h2
   omega
 omega
/-- What In answers. -/
def inr (X Y : Int) : Int × Int × Bool := match pix X Y with | some (x, y) => (x, y, true) | none => (0, 0, false)
theorem inr_yes {X Y x y : Int} (h : inside (rel X x) (rel Y y) = true) : inr X Y = (x, y, true) := by
 rw [inr, pix_iff.1 h]
theorem inr_no {X Y : Int} (h : ∀ x y, inside (rel X x) (rel Y y) = false) : inr X Y = (0, 0, false) := by
 unfold inr
 cases hp : pix X Y with
 | none => rfl
 | some z =>
  obtain ⟨x, y⟩ := z
  have := h x y
  rw [pix_iff.2 hp] at this
  cases this
theorem col_no {X Y x q : Int} (h1 : -1073741824 ≤ Y) (h2 : Y ≤ 1073741824) (hq : Y.tdiv 256 = q) (h : ∀ i : Nat, i < 5 → inside (rel X x) (rel Y (q - 2 + i)) = false) (y : Int) : inside (rel X x) (rel Y y) = false := by
 rw [← Bool.not_eq_true]
 intro hi
 have l := (inside_lim hi).2
 have m := (quo_lim h1 h2).2
 rw [hq] at m
 have := h (y - (q - 2)).toNat (by omega)
 rw [show q - 2 + ((y - (q - 2)).toNat : Int) = y by omega, hi] at this
 cases this
theorem all_no {X Y q : Int} (h1 : -1073741824 ≤ X) (h2 : X ≤ 1073741824) (hq : X.tdiv 256 = q) (h : ∀ i : Nat, i < 5 → ∀ y, inside (rel X (q - 2 + i)) (rel Y y) = false) (x y : Int) : inside (rel X x) (rel Y y) = false := by
 rw [← Bool.not_eq_true]
 intro hi
 have l := (inside_lim hi).1
 have m := (quo_lim h1 h2).2
 rw [hq] at m
 have := h (x - (q - 2)).toNat (by omega) y
 rw [show q - 2 + ((x - (q - 2)).toNat : Int) = x by omega, hi] at this
 cases this
end DM
set_option maxRecDepth 100000 in
set_option maxHeartbeats 8000000 in
theorem inside_any (p : Nat → Int) (x y : Int) (hp : (-1073741824 ≤ p 0 ∧ p 0 ≤ 1073741824) ∧ (-1073741824 ≤ p 1 ∧ p 1 ≤ 1073741824)) (hx : (-8388608 ≤ x ∧ x ≤ 8388608) ∧ (-8388608 ≤ y ∧ y ≤ 8388608)) (w : World) :
  Calls Tryz.prog 68 #[arr 2 p, .int .i64 x, .int .i64 y] w fun e w' => e = .returned (.bool (DM.inside (DM.rel (p 0) x) (DM.rel (p 1) y))) ∧ Below w.heap.size w w' := by
 have O := Own.start w
 obtain ⟨p0, ep0⟩ : ∃ z, p 0 = z := ⟨_, rfl⟩
 have Cp0 := cell_is (n := 2) ep0 (by decide)
 obtain ⟨p1, ep1⟩ : ∃ z, p 1 = z := ⟨_, rfl⟩
 have Cp1 := cell_is (n := 2) ep1 (by decide)
 rw [ep0, ep1] at hp ⊢
 clear ep0 ep1
 obtain ⟨⟨a1, a2⟩, a3, a4⟩ := hp
 obtain ⟨⟨b1, b2⟩, b3, b4⟩ := hx
 obtain ⟨m, hm⟩ : ∃ z, 256 * x = z := ⟨_, rfl⟩
 obtain ⟨ms, hms⟩ : ∃ z, p0 - m = z := ⟨_, rfl⟩
 obtain ⟨u, hu⟩ : ∃ z, ms - 128 = z := ⟨_, rfl⟩
 have Eu : DM.rel p0 x = u := by unfold DM.rel; omega
 have ru : -4294967296 ≤ u ∧ u ≤ 4294967296 := by omega
 have Hm : Hid (256 * x = m ∧ IntKind.i64.wrap m = m) := Lib.hid ⟨hm, IntWalk.i64_in _ (by omega)⟩
 have Hms : Hid (p0 - m = ms ∧ IntKind.i64.wrap ms = ms) := Lib.hid ⟨hms, IntWalk.i64_in _ (by omega)⟩
 have Hu : Hid (ms - 128 = u ∧ IntKind.i64.wrap u = u) := Lib.hid ⟨hu, IntWalk.i64_in _ (by omega)⟩
 obtain ⟨n, hn⟩ : ∃ z, 256 * y = z := ⟨_, rfl⟩
 obtain ⟨ns, hns⟩ : ∃ z, p1 - n = z := ⟨_, rfl⟩
 obtain ⟨v, hv⟩ : ∃ z, ns - 128 = z := ⟨_, rfl⟩
 have Ev : DM.rel p1 y = v := by unfold DM.rel; omega
 have rv : -4294967296 ≤ v ∧ v ≤ 4294967296 := by omega
 have Hn : Hid (256 * y = n ∧ IntKind.i64.wrap n = n) := Lib.hid ⟨hn, IntWalk.i64_in _ (by omega)⟩
 have Hns : Hid (p1 - n = ns ∧ IntKind.i64.wrap ns = ns) := Lib.hid ⟨hns, IntWalk.i64_in _ (by omega)⟩
 have Hv : Hid (ns - 128 = v ∧ IntKind.i64.wrap v = v) := Lib.hid ⟨hv, IntWalk.i64_in _ (by omega)⟩
 rw [Eu, Ev]
 clear hm hms hu hn hns hv Eu Ev a1 a2 a3 a4 b1 b2 b3 b4
 obtain ⟨c1, c2⟩ := ru
 obtain ⟨c3, c4⟩ := rv
 have W1 : wrap64 (u + v) = u + v := IntWalk.wrap64_in _ (by omega)
 have W2 : wrap64 (u - v) = u - v := IntWalk.wrap64_in _ (by omega)
 have W3 : wrap64 (u + v - 128) = u + v - 128 := IntWalk.wrap64_in _ (by omega)
 have S0 := fun w => sign3_any (u + v - 128) (-1) (-1) w
 obtain ⟨s0, hs0⟩ : ∃ z, DM.sg (u + v - 128) (-1) (-1) = z := ⟨_, rfl⟩
 rw [hs0] at S0
 have W4 : wrap64 (u + v + 128) = u + v + 128 := IntWalk.wrap64_in _ (by omega)
 have S1 := fun w => sign3_any (u + v + 128) (-1) (-1) w
 obtain ⟨s1, hs1⟩ : ∃ z, DM.sg (u + v + 128) (-1) (-1) = z := ⟨_, rfl⟩
 rw [hs1] at S1
 have W5 : wrap64 (u - v - 128) = u - v - 128 := IntWalk.wrap64_in _ (by omega)
 have S2 := fun w => sign3_any (u - v - 128) (-1) (1) w
 obtain ⟨s2, hs2⟩ : ∃ z, DM.sg (u - v - 128) (-1) (1) = z := ⟨_, rfl⟩
 rw [hs2] at S2
 have W6 : wrap64 (u - v + 128) = u - v + 128 := IntWalk.wrap64_in _ (by omega)
 have S3 := fun w => sign3_any (u - v + 128) (-1) (1) w
 obtain ⟨s3, hs3⟩ : ∃ z, DM.sg (u - v + 128) (-1) (1) = z := ⟨_, rfl⟩
 rw [hs3] at S3
 have HE := Lib.hid (DM.inside_sg u v)
 rw [hs0, hs1, hs2, hs3] at HE
 clear hs0 hs1 hs2 hs3 c1 c2 c3 c4
 have tok0 : True := trivial
 go_enter Tryz.func68, Tryz.ntmps68
 go_wp2_with ((with_reducible refine at_box 3 ?_); refine wpList_box_own O (M.mat 2 (p)) rfl ?_; clear O; intro g3 w1 O)
 refine region_T ((fun w2 => Own w w2 [(g3, 44, M.mat 2 p)])) [0, 1, 2, 3, 4, 5, 6, 7, 8, 9, 10, 11, 12] 12 [some 9, some 10, some 11, some 12, some 13, some 14, some 15, some 16, some 17, some 18, some 19, some 20, some 7] [.pointer (some ⟨g3, 0, none⟩), .int .i64 p0, .int .i64 x, .int .i64 m, .int .i64 ms, .int .i64 u, .pointer (some ⟨g3, 1, none⟩), .int .i64 p1, .int .i64 y, .int .i64 n, .int .i64 ns, .int .i64 v, .int .i64 u] 1 (by kernel_rfl) (by rfl) (by kernel_rfl) (by rfl) (by rfl) (O.drew) (fun F hF => ?_)
 simp only [fillD, Act.put, List.setIfInBounds_toArray, List.set_cons_zero, List.set_cons_succ] at hF
 subst hF
 refine ⟨⟨does_want rfl (by rfl) (fun w' O K hK => ?_), does_want rfl (by rfl) (fun w' O K hK => ?_), does_want rfl (by rfl) (fun w' O K hK => ?_), does_want rfl (by rfl) (fun w' O K hK => ?_), does_want rfl (by rfl) (fun w' O K hK => ?_), does_want rfl (by rfl) (fun w' O K hK => ?_), does_want rfl (by rfl) (fun w' O K hK => ?_), does_want rfl (by rfl) (fun w' O K hK => ?_), does_want rfl (by rfl) (fun w' O K hK => ?_), does_want rfl (by rfl) (fun w' O K hK => ?_), does_want rfl (by rfl) (fun w' O K hK => ?_), does_want rfl (by rfl) (fun w' O K hK => ?_), does_want rfl (by rfl) (fun w' O K hK => ?_), trivial⟩, fun w' O => ?_⟩
 ·
  go_simp
  exact hK _ O
 · exact wp_cell_h (v := .int .i64 (p0)) O.held 0 rfl Cp0.out rfl agg3 rfl (hK _ O)
 ·
  go_simp
  exact hK _ O
 ·
  obtain ⟨e1, e2⟩ := Hm.out
  go_simp
  first | exact hK _ O | (rw [e1, e2]; exact hK _ O) | (simp only [e1, e2]; exact hK _ O)
 ·
  obtain ⟨e1, e2⟩ := Hms.out
  go_simp
  first | exact hK _ O | (rw [e1, e2]; exact hK _ O) | (simp only [e1, e2]; exact hK _ O)
 ·
  obtain ⟨e1, e2⟩ := Hu.out
  go_simp
  first | exact hK _ O | (rw [e1, e2]; exact hK _ O) | (simp only [e1, e2]; exact hK _ O)
 ·
  go_simp
  exact hK _ O
 · exact wp_cell_h (v := .int .i64 (p1)) O.held 0 rfl Cp1.out rfl agg3 rfl (hK _ O)
 ·
  go_simp
  exact hK _ O
 ·
  obtain ⟨e1, e2⟩ := Hn.out
  go_simp
  first | exact hK _ O | (rw [e1, e2]; exact hK _ O) | (simp only [e1, e2]; exact hK _ O)
 ·
  obtain ⟨e1, e2⟩ := Hns.out
  go_simp
  first | exact hK _ O | (rw [e1, e2]; exact hK _ O) | (simp only [e1, e2]; exact hK _ O)
 ·
  obtain ⟨e1, e2⟩ := Hv.out
  go_simp
  first | exact hK _ O | (rw [e1, e2]; exact hK _ O) | (simp only [e1, e2]; exact hK _ O)
 ·
  go_simp
  exact hK _ O
 refine wpAny_one (i := 13) (by kernel_rfl) rfl (fun K hK => ?_)
 go_simp
 refine hK _ _ ?_
 clear hK K
 try simp only [Act.put, List.setIfInBounds_toArray, List.set_cons_zero, List.set_cons_succ]
 refine wpAny_done (by kernel_rfl) ?_ _
 clear Hm Hms Hu Hn Hns Hv
 cases h0 : decide (s0 < 0)
 ·
  rw [h0] at HE
  go_wp2_with (first | ((with_reducible refine at_build 25 ?_); refine wpList_build_g rfl ([(0, .int .i64 (u + v - 128)), (1, .int .i64 (-1)), (2, .int .i64 (-1))]) ((M.mat 3 (DM.t3 (u + v - 128) (-1) (-1))).toArray) ?_ (builtN _ _ _) ?_; (focus (simp only [List.map_toArray, List.map_cons, List.map_nil]; rfl))) | ((with_reducible refine at_build 33 ?_); refine wpList_build_g rfl ([(0, .int .i64 (u + v + 128)), (1, .int .i64 (-1)), (2, .int .i64 (-1))]) ((M.mat 3 (DM.t3 (u + v + 128) (-1) (-1))).toArray) ?_ (builtN _ _ _) ?_; (focus (simp only [List.map_toArray, List.map_cons, List.map_nil]; rfl))) | ((with_reducible refine at_build 42 ?_); refine wpList_build_g rfl ([(0, .int .i64 (u - v - 128)), (1, .int .i64 (-1)), (2, .int .i64 (1))]) ((M.mat 3 (DM.t3 (u - v - 128) (-1) (1))).toArray) ?_ (builtN _ _ _) ?_; (focus (simp only [List.map_toArray, List.map_cons, List.map_nil]; rfl))) | ((with_reducible refine at_build 51 ?_); refine wpList_build_g rfl ([(0, .int .i64 (u - v + 128)), (1, .int .i64 (-1)), (2, .int .i64 (1))]) ((M.mat 3 (DM.t3 (u - v + 128) (-1) (1))).toArray) ?_ (builtN _ _ _) ?_; (focus (simp only [List.map_toArray, List.map_cons, List.map_nil]; rfl))) | (go_at_call 79; clear tok0; have tok1 : True := trivial; refine (S0 _).mono ?_; rintro e v0 ⟨rfl, hb⟩; replace O := O.call hb; clear hb) | (go_at_call 79; clear tok1; have tok2 : True := trivial; refine (S1 _).mono ?_; rintro e v1 ⟨rfl, hb⟩; replace O := O.call hb; clear hb) | (go_at_call 79; clear tok2; have tok3 : True := trivial; refine (S2 _).mono ?_; rintro e v2 ⟨rfl, hb⟩; replace O := O.call hb; clear hb) | (go_at_call 79; clear tok3; have tok4 : True := trivial; refine (S3 _).mono ?_; rintro e v3 ⟨rfl, hb⟩; replace O := O.call hb; clear hb))
  go_ret
  exact ⟨by rw [HE.out]; rfl, O.below⟩
 ·
  cases h1 : decide (0 < s1)
  ·
   rw [h0, h1] at HE
   go_wp2_with (first | ((with_reducible refine at_build 25 ?_); refine wpList_build_g rfl ([(0, .int .i64 (u + v - 128)), (1, .int .i64 (-1)), (2, .int .i64 (-1))]) ((M.mat 3 (DM.t3 (u + v - 128) (-1) (-1))).toArray) ?_ (builtN _ _ _) ?_; (focus (simp only [List.map_toArray, List.map_cons, List.map_nil]; rfl))) | ((with_reducible refine at_build 33 ?_); refine wpList_build_g rfl ([(0, .int .i64 (u + v + 128)), (1, .int .i64 (-1)), (2, .int .i64 (-1))]) ((M.mat 3 (DM.t3 (u + v + 128) (-1) (-1))).toArray) ?_ (builtN _ _ _) ?_; (focus (simp only [List.map_toArray, List.map_cons, List.map_nil]; rfl))) | ((with_reducible refine at_build 42 ?_); refine wpList_build_g rfl ([(0, .int .i64 (u - v - 128)), (1, .int .i64 (-1)), (2, .int .i64 (1))]) ((M.mat 3 (DM.t3 (u - v - 128) (-1) (1))).toArray) ?_ (builtN _ _ _) ?_; (focus (simp only [List.map_toArray, List.map_cons, List.map_nil]; rfl))) | ((with_reducible refine at_build 51 ?_); refine wpList_build_g rfl ([(0, .int .i64 (u - v + 128)), (1, .int .i64 (-1)), (2, .int .i64 (1))]) ((M.mat 3 (DM.t3 (u - v + 128) (-1) (1))).toArray) ?_ (builtN _ _ _) ?_; (focus (simp only [List.map_toArray, List.map_cons, List.map_nil]; rfl))) | (go_at_call 79; clear tok0; have tok1 : True := trivial; refine (S0 _).mono ?_; rintro e v0 ⟨rfl, hb⟩; replace O := O.call hb; clear hb) | (go_at_call 79; clear tok1; have tok2 : True := trivial; refine (S1 _).mono ?_; rintro e v1 ⟨rfl, hb⟩; replace O := O.call hb; clear hb) | (go_at_call 79; clear tok2; have tok3 : True := trivial; refine (S2 _).mono ?_; rintro e v2 ⟨rfl, hb⟩; replace O := O.call hb; clear hb) | (go_at_call 79; clear tok3; have tok4 : True := trivial; refine (S3 _).mono ?_; rintro e v3 ⟨rfl, hb⟩; replace O := O.call hb; clear hb))
   go_ret
   exact ⟨by rw [HE.out]; rfl, O.below⟩
  ·
   cases h2 : decide (s2 < 0)
   ·
    rw [h0, h1, h2] at HE
    go_wp2_with (first | ((with_reducible refine at_build 25 ?_); refine wpList_build_g rfl ([(0, .int .i64 (u + v - 128)), (1, .int .i64 (-1)), (2, .int .i64 (-1))]) ((M.mat 3 (DM.t3 (u + v - 128) (-1) (-1))).toArray) ?_ (builtN _ _ _) ?_; (focus (simp only [List.map_toArray, List.map_cons, List.map_nil]; rfl))) | ((with_reducible refine at_build 33 ?_); refine wpList_build_g rfl ([(0, .int .i64 (u + v + 128)), (1, .int .i64 (-1)), (2, .int .i64 (-1))]) ((M.mat 3 (DM.t3 (u + v + 128) (-1) (-1))).toArray) ?_ (builtN _ _ _) ?_; (focus (simp only [List.map_toArray, List.map_cons, List.map_nil]; rfl))) | ((with_reducible refine at_build 42 ?_); refine wpList_build_g rfl ([(0, .int .i64 (u - v - 128)), (1, .int .i64 (-1)), (2, .int .i64 (1))]) ((M.mat 3 (DM.t3 (u - v - 128) (-1) (1))).toArray) ?_ (builtN _ _ _) ?_; (focus (simp only [List.map_toArray, List.map_cons, List.map_nil]; rfl))) | ((with_reducible refine at_build 51 ?_); refine wpList_build_g rfl ([(0, .int .i64 (u - v + 128)), (1, .int .i64 (-1)), (2, .int .i64 (1))]) ((M.mat 3 (DM.t3 (u - v + 128) (-1) (1))).toArray) ?_ (builtN _ _ _) ?_; (focus (simp only [List.map_toArray, List.map_cons, List.map_nil]; rfl))) | (go_at_call 79; clear tok0; have tok1 : True := trivial; refine (S0 _).mono ?_; rintro e v0 ⟨rfl, hb⟩; replace O := O.call hb; clear hb) | (go_at_call 79; clear tok1; have tok2 : True := trivial; refine (S1 _).mono ?_; rintro e v1 ⟨rfl, hb⟩; replace O := O.call hb; clear hb) | (go_at_call 79; clear tok2; have tok3 : True := trivial; refine (S2 _).mono ?_; rintro e v2 ⟨rfl, hb⟩; replace O := O.call hb; clear hb) | (go_at_call 79; clear tok3; have tok4 : True := trivial; refine (S3 _).mono ?_; rintro e v3 ⟨rfl, hb⟩; replace O := O.call hb; clear hb))
    go_ret
    exact ⟨by rw [HE.out]; rfl, O.below⟩
   ·
    cases h3 : decide (0 < s3)
    ·
     rw [h0, h1, h2, h3] at HE
     go_wp2_with (first | ((with_reducible refine at_build 25 ?_); refine wpList_build_g rfl ([(0, .int .i64 (u + v - 128)), (1, .int .i64 (-1)), (2, .int .i64 (-1))]) ((M.mat 3 (DM.t3 (u + v - 128) (-1) (-1))).toArray) ?_ (builtN _ _ _) ?_; (focus (simp only [List.map_toArray, List.map_cons, List.map_nil]; rfl))) | ((with_reducible refine at_build 33 ?_); refine wpList_build_g rfl ([(0, .int .i64 (u + v + 128)), (1, .int .i64 (-1)), (2, .int .i64 (-1))]) ((M.mat 3 (DM.t3 (u + v + 128) (-1) (-1))).toArray) ?_ (builtN _ _ _) ?_; (focus (simp only [List.map_toArray, List.map_cons, List.map_nil]; rfl))) | ((with_reducible refine at_build 42 ?_); refine wpList_build_g rfl ([(0, .int .i64 (u - v - 128)), (1, .int .i64 (-1)), (2, .int .i64 (1))]) ((M.mat 3 (DM.t3 (u - v - 128) (-1) (1))).toArray) ?_ (builtN _ _ _) ?_; (focus (simp only [List.map_toArray, List.map_cons, List.map_nil]; rfl))) | ((with_reducible refine at_build 51 ?_); refine wpList_build_g rfl ([(0, .int .i64 (u - v + 128)), (1, .int .i64 (-1)), (2, .int .i64 (1))]) ((M.mat 3 (DM.t3 (u - v + 128) (-1) (1))).toArray) ?_ (builtN _ _ _) ?_; (focus (simp only [List.map_toArray, List.map_cons, List.map_nil]; rfl))) | (go_at_call 79; clear tok0; have tok1 : True := trivial; refine (S0 _).mono ?_; rintro e v0 ⟨rfl, hb⟩; replace O := O.call hb; clear hb) | (go_at_call 79; clear tok1; have tok2 : True := trivial; refine (S1 _).mono ?_; rintro e v1 ⟨rfl, hb⟩; replace O := O.call hb; clear hb) | (go_at_call 79; clear tok2; have tok3 : True := trivial; refine (S2 _).mono ?_; rintro e v2 ⟨rfl, hb⟩; replace O := O.call hb; clear hb) | (go_at_call 79; clear tok3; have tok4 : True := trivial; refine (S3 _).mono ?_; rintro e v3 ⟨rfl, hb⟩; replace O := O.call hb; clear hb))
     go_ret
     exact ⟨by rw [HE.out]; rfl, O.below⟩
    ·
     rw [h0, h1, h2, h3] at HE
     go_wp2_with (first | ((with_reducible refine at_build 25 ?_); refine wpList_build_g rfl ([(0, .int .i64 (u + v - 128)), (1, .int .i64 (-1)), (2, .int .i64 (-1))]) ((M.mat 3 (DM.t3 (u + v - 128) (-1) (-1))).toArray) ?_ (builtN _ _ _) ?_; (focus (simp only [List.map_toArray, List.map_cons, List.map_nil]; rfl))) | ((with_reducible refine at_build 33 ?_); refine wpList_build_g rfl ([(0, .int .i64 (u + v + 128)), (1, .int .i64 (-1)), (2, .int .i64 (-1))]) ((M.mat 3 (DM.t3 (u + v + 128) (-1) (-1))).toArray) ?_ (builtN _ _ _) ?_; (focus (simp only [List.map_toArray, List.map_cons, List.map_nil]; rfl))) | ((with_reducible refine at_build 42 ?_); refine wpList_build_g rfl ([(0, .int .i64 (u - v - 128)), (1, .int .i64 (-1)), (2, .int .i64 (1))]) ((M.mat 3 (DM.t3 (u - v - 128) (-1) (1))).toArray) ?_ (builtN _ _ _) ?_; (focus (simp only [List.map_toArray, List.map_cons, List.map_nil]; rfl))) | ((with_reducible refine at_build 51 ?_); refine wpList_build_g rfl ([(0, .int .i64 (u - v + 128)), (1, .int .i64 (-1)), (2, .int .i64 (1))]) ((M.mat 3 (DM.t3 (u - v + 128) (-1) (1))).toArray) ?_ (builtN _ _ _) ?_; (focus (simp only [List.map_toArray, List.map_cons, List.map_nil]; rfl))) | (go_at_call 79; clear tok0; have tok1 : True := trivial; refine (S0 _).mono ?_; rintro e v0 ⟨rfl, hb⟩; replace O := O.call hb; clear hb) | (go_at_call 79; clear tok1; have tok2 : True := trivial; refine (S1 _).mono ?_; rintro e v1 ⟨rfl, hb⟩; replace O := O.call hb; clear hb) | (go_at_call 79; clear tok2; have tok3 : True := trivial; refine (S2 _).mono ?_; rintro e v2 ⟨rfl, hb⟩; replace O := O.call hb; clear hb) | (go_at_call 79; clear tok3; have tok4 : True := trivial; refine (S3 _).mono ?_; rintro e v3 ⟨rfl, hb⟩; replace O := O.call hb; clear hb))
     go_ret
     exact ⟨by rw [HE.out]; rfl, O.below⟩
set_option maxRecDepth 100000 in
set_option maxHeartbeats 8000000 in
theorem rin_any (p : Nat → Int) (hp : (-536870912 ≤ p 0 ∧ p 0 ≤ 536870912) ∧ (-536870912 ≤ p 1 ∧ p 1 ≤ 536870912)) (w : World) :
  Calls Tryz.prog 66 #[arr 2 p] w fun e w' => e = .returned (.tuple #[.int .i64 (DM.inr (p 0) (p 1)).1, .int .i64 (DM.inr (p 0) (p 1)).2.1, .bool (DM.inr (p 0) (p 1)).2.2]) ∧ Below w.heap.size w w' := by
 have O := Own.start w
 have CI := fun x y h w => inside_any p x y (by omega) h w
 obtain ⟨X, eX⟩ : ∃ z, p 0 = z := ⟨_, rfl⟩
 obtain ⟨Y, eY⟩ : ∃ z, p 1 = z := ⟨_, rfl⟩
 have CX := cell_is (n := 2) eX (by decide)
 have CY := cell_is (n := 2) eY (by decide)
 rw [eX, eY] at CI hp ⊢
 clear eX eY
 obtain ⟨qx, hqx⟩ : ∃ z, X.tdiv 256 = z := ⟨_, rfl⟩
 obtain ⟨qy, hqy⟩ : ∃ z, Y.tdiv 256 = z := ⟨_, rfl⟩
 have lx := (DM.quo_lim (X := X) (by omega) (by omega)).1
 have ly := (DM.quo_lim (X := Y) (by omega) (by omega)).1
 rw [hqx] at lx
 rw [hqy] at ly
 have HX := Lib.hid (fun h => DM.all_no (X := X) (Y := Y) (by omega) (by omega) hqx h)
 have HY := Lib.hid (fun x h => DM.col_no (X := X) (Y := Y) (x := x) (by omega) (by omega) hqy h)
 obtain ⟨lx1, lx2⟩ := lx
 obtain ⟨ly1, ly2⟩ := ly
 clear hp
 have V1 : wrap64 qx = qx := IntWalk.wrap64_in _ (by omega)
 have V2 : wrap64 qy = qy := IntWalk.wrap64_in _ (by omega)
 go_enter Tryz.func66, Tryz.ntmps66
 go_wp2_with (first | ((with_reducible refine at_box 1 ?_); refine wpList_box_own O (M.mat 2 (p)) rfl ?_; clear O; intro g1 w1 O) | ((with_reducible refine at_load 8 ?_); refine wpList_cell_h (v := .int .i64 (X)) rfl O.held 0 rfl CX.out rfl agg3 rfl ?_))
 go_loopw [5] (fun u wr => ∃ k : Nat, k ≤ 5 ∧ u = .int .i64 (qx - 2 + k) ∧ (∀ i : Nat, i < k → ∀ y, DM.inside (DM.rel X (qx - 2 + i)) (DM.rel Y y) = false) ∧ Own w wr [(g1, 44, M.mat 2 p)]) (fun u _ => (qx + 3 - intOf u).toNat)
 case atStart => exact ⟨0, by omega, by simp, fun i hi => absurd hi (by omega), O⟩
 case round =>
  clear O
  obtain ⟨k, hk, rfl, hall, O⟩ := hrel
  have HA := Lib.hid hall
  clear hall
  obtain ⟨x, hx⟩ : ∃ x, qx - 2 + (k : Int) = x := ⟨_, rfl⟩
  rw [hx]
  have r1 : qx - 2 ≤ x ∧ x ≤ qx + 3 := by omega
  obtain ⟨r1, r2⟩ := r1
  by_cases hlt : k < 5
  ·
   have q1 : x ≤ qx + 2 := by omega
   go_wp2_with (first | ((with_reducible refine at_load 13 ?_); refine wpList_cell_h (v := .int .i64 (X)) rfl O.held 0 rfl CX.out rfl agg3 rfl ?_) | ((with_reducible refine at_load 20 ?_); refine wpList_cell_h (v := .int .i64 (Y)) rfl O.held 0 rfl CY.out rfl agg3 rfl ?_))
   go_loopw [6] (fun u wr => ∃ j : Nat, j ≤ 5 ∧ u = .int .i64 (qy - 2 + j) ∧ (∀ i : Nat, i < j → DM.inside (DM.rel X x) (DM.rel Y (qy - 2 + i)) = false) ∧ Own w wr [(g1, 44, M.mat 2 p)]) (fun u _ => (qy + 3 - intOf u).toNat)
   case atStart => exact ⟨0, by omega, by simp, fun i hi => absurd hi (by omega), O⟩
   case round =>
    clear O
    obtain ⟨j, hj, rfl, hall, O⟩ := hrel
    have HB := Lib.hid hall
    clear hall
    obtain ⟨y, hy⟩ : ∃ y, qy - 2 + (j : Int) = y := ⟨_, rfl⟩
    rw [hy]
    have r3 : qy - 2 ≤ y ∧ y ≤ qy + 3 := by omega
    obtain ⟨r3, r4⟩ := r3
    by_cases hlj : j < 5
    ·
     have q2 : y ≤ qy + 2 := by omega
     have C := fun w => CI x y (by omega) w
     cases hi : DM.inside (DM.rel X x) (DM.rel Y y)
     ·
      have HN := Lib.hid hi
      rw [hi] at C
      clear hi
      go_wp2_with (first | ((with_reducible refine at_load 25 ?_); refine wpList_cell_h (v := .int .i64 (Y)) rfl O.held 0 rfl CY.out rfl agg3 rfl ?_) | ((with_reducible refine at_load 31 ?_); refine wpList_whole rfl O 0 rfl rfl Tryz.underlying44 rfl (sP _) ?_) | (go_at_call 68; refine (C _).mono ?_; rintro e v1 ⟨rfl, hb⟩; replace O := O.call hb; clear hb))
      go_roundw
      case rel => exact ⟨j + 1, by omega, by simp [← hy]; omega, fun i hi => by
       by_cases e : i = j
       · subst e; rw [hy]; exact HN.out
       · exact HB.out i (by omega), O⟩
      case measure => simp [intOf]; omega
     ·
      have HE := Lib.hid (DM.inr_yes hi)
      rw [hi] at C
      clear hi
      go_wp2_with (first | ((with_reducible refine at_load 25 ?_); refine wpList_cell_h (v := .int .i64 (Y)) rfl O.held 0 rfl CY.out rfl agg3 rfl ?_) | ((with_reducible refine at_load 31 ?_); refine wpList_whole rfl O 0 rfl rfl Tryz.underlying44 rfl (sP _) ?_) | (go_at_call 68; refine (C _).mono ?_; rintro e v1 ⟨rfl, hb⟩; replace O := O.call hb; clear hb))
      go_ret3
      rw [HE.out]
      exact ⟨rfl, O.below⟩
    ·
     have q2 : ¬ y ≤ qy + 2 := by omega
     obtain rfl : j = 5 := by omega
     have HN := Lib.hid (HY.out x HB.out)
     clear HB
     go_wp2_with ((with_reducible refine at_load 25 ?_); refine wpList_cell_h (v := .int .i64 (Y)) rfl O.held 0 rfl CY.out rfl agg3 rfl ?_)
     go_roundw
     case rel => exact ⟨k + 1, by omega, by simp [← hx]; omega, fun i hi => by
      by_cases e : i = k
      · subst e; rw [hx]; exact HN.out
      · exact HA.out i (by omega), O⟩
     case measure => simp [intOf]; omega
  ·
   have q1 : ¬ x ≤ qx + 2 := by omega
   obtain rfl : k = 5 := by omega
   have HE := Lib.hid (DM.inr_no (HX.out HA.out))
   clear HA
   go_wp2_with ((with_reducible refine at_load 13 ?_); refine wpList_cell_h (v := .int .i64 (X)) rfl O.held 0 rfl CX.out rfl agg3 rfl ?_)
   go_ret3
   rw [HE.out]
   exact ⟨rfl, O.below⟩
end Go.Proofs.YtpfhaocmcfnhnaaGreat
