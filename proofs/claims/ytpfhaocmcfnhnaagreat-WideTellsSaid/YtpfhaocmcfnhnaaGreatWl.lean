/- Contract of the program: Line, of a line that may not be. -/
import Derived.Test.YtpfhaocmcfnhnaaGreatWq
import Derived.Test.YtpfhaocmcfnhnaaGreatYh
import Derived.Test.YtpfhaocmcfnhnaaGreatXp
namespace Go.Proofs.YtpfhaocmcfnhnaaGreat
open Go.ChangeShapes Go.WideShapes Go.ChangeAt Go.RowKit
set_option linter.unusedVariables false
set_option linter.unusedSimpArgs false

theorem meas_lt {m j : Nat} (W : wrap64 ((j : Int) + 1) = (j : Int) + 1) (h : j < m) : m - (intOf (Value.int IntKind.i64 (wrap64 ((j : Int) + 1)))).toNat < m - (intOf (Value.int IntKind.i64 (j : Int))).toNat := by
 rw [W]
 simp only [intOf]
 omega
/-- How a line is handed back. -/
def RetL (w : World) (l : List (Nat → Int)) (d : Nat → Int) (e : Ending) (w' : World) : Prop := ∃ A c, e = .returned (.tuple #[.slice A l.length c, arr 3 d]) ∧ Lies w' free (gE w.heap.size A c l) ∧ Below w.heap.size w w'
/-- Blocks of the call's own, and steps that a call in a region hands back at any time (operation i). -/
def HS (w0 : World) (bs : List (Nat × TypeId × List Value)) (i : Nat) (l : List (Int × Int × Int)) (st : Nat → Option Value) (w : World) : Prop :=
 Own w0 w bs ∧ ∀ v, st i = some v → ∃ A c, v = .slice A l.length c ∧ Held w0 w bs nilRow [tE w0.heap.size A c l]
section
variable {w0 w w' : World} {bs : List (Nat × TypeId × List Value)} {i : Nat} {l : List (Int × Int × Int)} {st : Nat → Option Value}
theorem HS.start (O : Own w0 w bs) : HS w0 bs i l (fun _ => none) w := ⟨O, fun v hv => by cases hv⟩
theorem HS.call (h : HS w0 bs i l st w) (hb : Below w.heap.size w w') : HS w0 bs i l st w' := ⟨h.1.call hb, fun v hv => by
 obtain ⟨A, c, e, hH⟩ := h.2 v hv
 exact ⟨A, c, e, hH.call hb⟩⟩
theorem HS.gain (h : HS w0 bs i l st w) {A : Option Addr} {c : Nat} (hL : Lies w' free (tE w.heap.size A c l)) (hb : Below w.heap.size w w') : HS w0 bs i l (upd st i (.slice A l.length c)) w' := by
 refine ⟨h.1.call hb, fun v hv => ?_⟩
 rw [upd_same] at hv
 obtain rfl := Option.some.inj hv
 exact ⟨A, c, rfl, h.1.held.gain hb hL⟩
theorem HS.get (h : HS w0 bs i l st w) (ha : (st i).isSome = true) : ∃ A c, st i = some (.slice A l.length c) ∧ Held w0 w bs nilRow [tE w0.heap.size A c l] := by
 obtain ⟨v, hv⟩ := Option.isSome_iff_exists.1 ha
 obtain ⟨A, c, rfl, hH⟩ := h.2 v hv
 exact ⟨A, c, hv, hH⟩
end
set_option maxRecDepth 100000 in
set_option maxHeartbeats 16000000 in
theorem wline_bad (a b : Nat → Int) (n : Int) (dashed : Bool) (d r : Nat → Int) (hr : WD.right a b n d = false) (w : World) : Calls Tryz.prog 6 #[arr 7 a, arr 7 b, .int .i64 n, .bool dashed, arr 3 d, arr 4 r] w (RetL w [] d) := by
 have O := Own.start w
 have CR := fun w => wright_any a b n d w
 rw [hr] at CR
 clear hr
 go_enter Tryz.func6, Tryz.ntmps6
 go_wp2_with (first | ((with_reducible refine at_box 6 ?_); refine wpList_box_own O (M.mat 7 (a)) rfl ?_; clear O; intro g6 w1 O) | ((with_reducible refine at_box 7 ?_); refine wpList_box_own O (M.mat 7 (b)) rfl ?_; clear O; intro g7 w2 O) | ((with_reducible refine at_box 10 ?_); refine wpList_box_own O (M.mat 3 (d)) rfl ?_; clear O; intro g10 w3 O) | ((with_reducible refine at_box 11 ?_); refine wpList_box_own O (M.mat 4 (r)) rfl ?_; clear O; intro g11 w4 O) | ((with_reducible refine at_alloc 13 ?_); refine wpList_alloc_own O (M.mat 3 M.zero) zeroH ?_; clear O; intro g13 w5 O) | ((with_reducible refine at_load 21 ?_); refine wpList_whole rfl O 4 rfl rfl Tryz.underlying25 rfl (sW _) ?_) | ((with_reducible refine at_load 22 ?_); refine wpList_whole rfl O 3 rfl rfl Tryz.underlying25 rfl (sW _) ?_) | ((with_reducible refine at_load 24 ?_); refine wpList_whole rfl O 2 rfl rfl Tryz.underlying27 rfl (sH _) ?_) | (go_at_call 9; refine (CR _).mono ?_; rintro e w6 ⟨rfl, hb⟩; replace O := O.call hb; clear hb))
 have OO := O
 clear O CR
 have O := OO
 clear OO
 refine region_T (fun w2 => Own w w2 [(g13, 27, M.mat 3 M.zero), (g11, 29, M.mat 4 r), (g10, 27, M.mat 3 d), (g7, 25, M.mat 7 b), (g6, 25, M.mat 7 a)]) [0, 1] 12 [some 27, some 12] [arr 3 d, .slice none 0 0] 1 (by kernel_rfl) (by rfl) (by kernel_rfl) (by rfl) (by rfl) (O.drew) (fun F hF => ?_)
 simp only [fillD, Act.put, List.setIfInBounds_toArray, List.set_cons_zero, List.set_cons_succ] at hF
 subst hF
 refine ⟨⟨does_want rfl (by rfl) (fun w' O K hK => ?_), does_want rfl (by rfl) (fun w' O K hK => ?_), trivial⟩, fun w' O => ?_⟩
 · exact wp_whole O 2 rfl rfl Tryz.underlying27 rfl (sH _) (hK _ O)
 ·
  go_simp
  exact hK _ O
 refine wpAny_want (i := 2) (by kernel_rfl) rfl (by rfl) (fun K hK => ?_)
 refine wp_put_own O 0 (M.mat 3 (d)) rfl rfl rfl (sH _) (M.mat_len2 _ _ _) (M.mat_one _ _) fun w9 O9 => hK _ _ ?_
 clear O
 have O := O9
 clear O9
 clear hK K
 try simp only [Act.put, List.setIfInBounds_toArray, List.set_cons_zero, List.set_cons_succ]
 refine wpAny_done (by kernel_rfl) ?_ _
 go_wp2_with fail
 exact bodyPost_ret (v := .tuple #[.slice none 0 0, arr 3 d]) (res_t2 rfl O 0 rfl rfl Tryz.underlying27 rfl (sH _) rfl) rfl ⟨none, 0, rfl, Lies.nil, O.below⟩
end Go.Proofs.YtpfhaocmcfnhnaaGreat
