/- Plain: a line that is moved, a wider one. A region that reads cells and writes them. -/
import Derived.Test.YtdkppkdoconfhaaSr
namespace Go.Proofs.Ytdkppkdoconfhaa
open Go.ChangeShapes Go.WideShapes Go.ChangeAt Go.RowKit
set_option linter.unusedVariables false
set_option linter.unusedSimpArgs false

namespace SM
/-- Moved by whole pixels: places, rectangles, fragments. -/
def mvw (a : Nat → Int) (u v : Int) (i : Nat) : Int := if i = 0 then a 0 + 256 * u else if i = 1 then a 1 + 256 * v else a i
def mvr (r : Nat → Int) (u v : Int) : Nat → Int := RC.mk (r 0 + u) (r 1 + v) (r 2 + u) (r 3 + v)
def mvf (f : Nat → Int) (u v : Int) (i : Nat) : Int := if i = 0 then f 0 + u else if i = 1 then f 1 + v else f i
theorem mv_nC {a b : Nat → Int} {u v x y : Int} : VM.nC (mvw a u v 0) (mvw a u v 1) (mvw b u v 0) (mvw b u v 1) (x + u) (y + v) = VM.nC (a 0) (a 1) (b 0) (b 1) x y := by
  unfold VM.nC mvw
  simp only [if_true, if_neg (show ¬ (1 : Nat) = 0 by decide)]
  rw [show 256 * (x + u) + 128 - (a 0 + 256 * u) = 256 * x + 128 - a 0 by omega, show 256 * (y + v) + 128 - (a 1 + 256 * v) = 256 * y + 128 - a 1 by omega, show b 0 + 256 * u - (a 0 + 256 * u) = b 0 - a 0 by omega, show b 1 + 256 * v - (a 1 + 256 * v) = b 1 - a 1 by omega]
theorem mv_dC {a b : Nat → Int} {u v : Int} : VM.dC (mvw a u v 0) (mvw a u v 1) (mvw b u v 0) (mvw b u v 1) = VM.dC (a 0) (a 1) (b 0) (b 1) := by
  unfold VM.dC mvw
  simp only [if_true, if_neg (show ¬ (1 : Nat) = 0 by decide)]
  rw [show b 0 + 256 * u - (a 0 + 256 * u) = b 0 - a 0 by omega, show b 1 + 256 * v - (a 1 + 256 * v) = b 1 - a 1 by omega]
theorem mv_zz {a b : Nat → Int} {u v x y : Int} : zz (mvw a u v) (mvw b u v) (x + u) (y + v) = zz a b x y := by
  unfold zz
  rw [mv_nC, mv_dC]
  rfl
theorem mv_cc {a b : Nat → Int} {u v x y : Int} : cc (mvw a u v) (mvw b u v) (x + u) (y + v) = cc a b x y := by
  unfold cc
  rw [mv_nC, mv_dC]
  funext i
  unfold VM.col mvw
  rw [if_neg (by omega), if_neg (by omega), if_neg (by omega), if_neg (by omega)]
theorem mv_cvr {a b : Nat → Int} {n u v x y : Int} (h1 : right a b n = true) (h2 : right (mvw a u v) (mvw b u v) n = true) : cvr (mvw a u v) (mvw b u v) n (x + u) (y + v) = cvr a b n x y := by
  unfold cvr
  rw [h1, h2, cov_moved (a := a) (b := b) (p := u) (q := v) rfl rfl rfl rfl]
theorem mv_px {a b : Nat → Int} {n u v x y : Int} (h1 : right a b n = true) (h2 : right (mvw a u v) (mvw b u v) n = true) : px (mvw a u v) (mvw b u v) n (x + u) (y + v) = (px a b n x y).map fun f => mvf f u v := by
  unfold px
  rw [mv_cvr h1 h2, mv_zz, mv_cc]
  split
  · rfl
  · rw [List.map_singleton]
    congr 1
    funext i
    unfold mvf fr
    by_cases e0 : i = 0
    · rw [if_pos e0, if_pos e0]
      simp
    · rw [if_neg e0, if_neg e0]
      by_cases e1 : i = 1
      · rw [if_pos e1, if_pos e1]
        simp
      · rw [if_neg e1, if_neg e1, if_neg e0, if_neg e1]
theorem mv_line {a b r : Nat → Int} {n u v : Int} (h1 : right a b n = true) (h2 : right (mvw a u v) (mvw b u v) n = true) (h3 : RC.right r = true) (h4 : RC.right (mvr r u v) = true) : line (mvw a u v) (mvw b u v) n (mvr r u v) = (line a b n r).map fun f => mvf f u v := by
  rw [line_ok h1 h3, line_ok h2 h4]
  exact rows_moved (px a b n) (px (mvw a u v) (mvw b u v) n) (fun f => mvf f u v) u v (fun x y => mv_px h1 h2) (r 0) (r 2) (r 1) (r 3)
theorem line_cov {a b : Nat → Int} {n : Int} {r f : Nat → Int} (h : f ∈ line a b n r) : f 7 = cvr a b n (f 0) (f 1) := by
  unfold line at h
  split at h
  · unfold rows at h
    obtain ⟨y, hy, h⟩ := List.mem_flatMap.1 h
    unfold row at h
    obtain ⟨x, hx, h⟩ := List.mem_flatMap.1 h
    obtain ⟨e0, e1⟩ := px_mem h
    rw [e0, e1]
    unfold px at h
    split at h
    · cases h
    · rw [List.mem_singleton] at h
      subst h
      rfl
  · cases h
theorem cvr_wider {a b : Nat → Int} {n : Int} (h : right a b n = true) (hn : n ≤ 63) (x y : Int) : cvr a b n x y ≤ cvr a b (n + 1) x y := by
  obtain ⟨hf, h1, h2⟩ := right_iff.1 h
  have h3 : right a b (n + 1) = true := right_iff.2 ⟨hf, by omega, by omega⟩
  have := cov_wider (a := a) (b := b) (w := n) (by omega) x y
  unfold cvr
  rw [h, h3, if_pos rfl, if_pos rfl]
  omega
theorem mv_area {r : Nat → Int} {u v : Int} (h : RC.right r = true) (h2 : RC.right (mvr r u v) = true) : RC.area (mvr r u v) = RC.area r := by
  rw [RC.area_in h, RC.area_in h2]
  show (r 2 + u - (r 0 + u)) * (r 3 + v - (r 1 + v)) = _
  rw [show r 2 + u - (r 0 + u) = r 2 - r 0 by omega, show r 3 + v - (r 1 + v) = r 3 - r 1 by omega]
end SM
/-- Four cells read and written, one behind the other (reads: operations 1, 6, 11; stores: 21, 23, 25). -/
def MS (w0 : World) (l0 l1 l2 l3 : List (Nat × TypeId × List Value)) (v1 v6 v11 : Value) (st : Nat → Option Value) (w : World) : Prop :=
  ((∀ u, st 1 = some u → u = v1) ∧ (∀ u, st 6 = some u → u = v6) ∧ (∀ u, st 11 = some u → u = v11)) ∧
  (((st 21).isSome = true → (st 1).isSome = true) ∧ ((st 23).isSome = true → (st 6).isSome = true ∧ (st 21).isSome = true) ∧ ((st 25).isSome = true → (st 11).isSome = true ∧ (st 23).isSome = true)) ∧
  Own w0 w (if (st 25).isSome = true then l3 else if (st 23).isSome = true then l2 else if (st 21).isSome = true then l1 else l0)
section
variable {w0 w : World} {l0 l1 l2 l3 : List (Nat × TypeId × List Value)} {v1 v6 v11 : Value} {st : Nat → Option Value}
theorem MS.start (O : Own w0 w l0) : MS w0 l0 l1 l2 l3 v1 v6 v11 (fun _ => none) w := ⟨⟨fun u h => (by cases h), fun u h => (by cases h), fun u h => (by cases h)⟩, ⟨fun h => (by cases h), fun h => (by cases h), fun h => (by cases h)⟩, O⟩
theorem not_some {o : Option Value} (h : ¬ o.isSome = true) : o = none := by cases o with | none => rfl | some u => exact absurd rfl h
theorem some_not {o : Option Value} (h : o = none) : ¬ o.isSome = true := by rw [h]; decide
theorem val_of {o : Option Value} {v : Value} (h : ∀ u, o = some u → u = v) (hi : o.isSome = true) : o = some v := by
  obtain ⟨u, hu⟩ := Option.isSome_iff_exists.1 hi
  rw [hu, h u hu]
theorem MS.val1 (h : MS w0 l0 l1 l2 l3 v1 v6 v11 st w) (hi : (st 1).isSome = true) : st 1 = some v1 := val_of h.1.1 hi
theorem MS.val6 (h : MS w0 l0 l1 l2 l3 v1 v6 v11 st w) (hi : (st 6).isSome = true) : st 6 = some v6 := val_of h.1.2.1 hi
theorem MS.val11 (h : MS w0 l0 l1 l2 l3 v1 v6 v11 st w) (hi : (st 11).isSome = true) : st 11 = some v11 := val_of h.1.2.2 hi
theorem MS.at1 (h : MS w0 l0 l1 l2 l3 v1 v6 v11 st w) (hn : st 1 = none) : Own w0 w l0 := by
  have a := fun e => some_not hn (h.2.1.1 e)
  have b := fun e => a (h.2.1.2.1 e).2
  have c := fun e => b (h.2.1.2.2 e).2
  have O := h.2.2
  rwa [if_neg c, if_neg b, if_neg a] at O
theorem MS.at6 (h : MS w0 l0 l1 l2 l3 v1 v6 v11 st w) (hn : st 6 = none) : Own w0 w l0 ∨ Own w0 w l1 := by
  have b := fun e => some_not hn (h.2.1.2.1 e).1
  have c := fun e => b (h.2.1.2.2 e).2
  have O := h.2.2
  rw [if_neg c, if_neg b] at O
  split at O
  · exact .inr O
  · exact .inl O
theorem MS.at11 (h : MS w0 l0 l1 l2 l3 v1 v6 v11 st w) (hn : st 11 = none) : Own w0 w l0 ∨ Own w0 w l1 ∨ Own w0 w l2 := by
  have c := fun e => some_not hn (h.2.1.2.2 e).1
  have O := h.2.2
  rw [if_neg c] at O
  split at O
  · exact .inr (.inr O)
  · split at O
    · exact .inr (.inl O)
    · exact .inl O
theorem MS.any (h : MS w0 l0 l1 l2 l3 v1 v6 v11 st w) : Own w0 w l0 ∨ Own w0 w l1 ∨ Own w0 w l2 ∨ Own w0 w l3 := by
  have O := h.2.2
  split at O
  · exact .inr (.inr (.inr O))
  · split at O
    · exact .inr (.inr (.inl O))
    · split at O
      · exact .inr (.inl O)
      · exact .inl O
theorem MS.read1 (h : MS w0 l0 l1 l2 l3 v1 v6 v11 st w) : MS w0 l0 l1 l2 l3 v1 v6 v11 (upd st 1 v1) w := by
  have e : ∀ j, j ≠ 1 → upd st 1 v1 j = st j := fun j hj => upd_other st v1 hj
  refine ⟨⟨fun u hu => ?_, fun u hu => ?_, fun u hu => ?_⟩, ⟨fun _ => by rw [upd_same]; rfl, fun hs => ?_, fun hs => ?_⟩, ?_⟩
  · rw [upd_same] at hu; exact (Option.some.inj hu).symm
  · rw [e 6 (by decide)] at hu; exact h.1.2.1 u hu
  · rw [e 11 (by decide)] at hu; exact h.1.2.2 u hu
  · rw [e 23 (by decide)] at hs; rw [e 6 (by decide), e 21 (by decide)]; exact h.2.1.2.1 hs
  · rw [e 25 (by decide)] at hs; rw [e 11 (by decide), e 23 (by decide)]; exact h.2.1.2.2 hs
  · rw [e 25 (by decide), e 23 (by decide), e 21 (by decide)]; exact h.2.2
theorem MS.read6 (h : MS w0 l0 l1 l2 l3 v1 v6 v11 st w) : MS w0 l0 l1 l2 l3 v1 v6 v11 (upd st 6 v6) w := by
  have e : ∀ j, j ≠ 6 → upd st 6 v6 j = st j := fun j hj => upd_other st v6 hj
  refine ⟨⟨fun u hu => ?_, fun u hu => ?_, fun u hu => ?_⟩, ⟨fun hs => ?_, fun hs => ⟨by rw [upd_same]; rfl, ?_⟩, fun hs => ?_⟩, ?_⟩
  · rw [e 1 (by decide)] at hu; exact h.1.1 u hu
  · rw [upd_same] at hu; exact (Option.some.inj hu).symm
  · rw [e 11 (by decide)] at hu; exact h.1.2.2 u hu
  · rw [e 21 (by decide)] at hs; rw [e 1 (by decide)]; exact h.2.1.1 hs
  · rw [e 23 (by decide)] at hs; rw [e 21 (by decide)]; exact (h.2.1.2.1 hs).2
  · rw [e 25 (by decide)] at hs; rw [e 11 (by decide), e 23 (by decide)]; exact h.2.1.2.2 hs
  · rw [e 25 (by decide), e 23 (by decide), e 21 (by decide)]; exact h.2.2
theorem MS.read11 (h : MS w0 l0 l1 l2 l3 v1 v6 v11 st w) : MS w0 l0 l1 l2 l3 v1 v6 v11 (upd st 11 v11) w := by
  have e : ∀ j, j ≠ 11 → upd st 11 v11 j = st j := fun j hj => upd_other st v11 hj
  refine ⟨⟨fun u hu => ?_, fun u hu => ?_, fun u hu => ?_⟩, ⟨fun hs => ?_, fun hs => ?_, fun hs => ⟨by rw [upd_same]; rfl, ?_⟩⟩, ?_⟩
  · rw [e 1 (by decide)] at hu; exact h.1.1 u hu
  · rw [e 6 (by decide)] at hu; exact h.1.2.1 u hu
  · rw [upd_same] at hu; exact (Option.some.inj hu).symm
  · rw [e 21 (by decide)] at hs; rw [e 1 (by decide)]; exact h.2.1.1 hs
  · rw [e 23 (by decide)] at hs; rw [e 6 (by decide), e 21 (by decide)]; exact h.2.1.2.1 hs
  · rw [e 25 (by decide)] at hs; rw [e 23 (by decide)]; exact (h.2.1.2.2 hs).2
  · rw [e 25 (by decide), e 23 (by decide), e 21 (by decide)]; exact h.2.2
theorem MS.no23 (h : MS w0 l0 l1 l2 l3 v1 v6 v11 st w) (hn : st 21 = none) : st 23 = none := not_some fun e => some_not hn (h.2.1.2.1 e).2
theorem MS.no25 (h : MS w0 l0 l1 l2 l3 v1 v6 v11 st w) (hn : st 23 = none) : st 25 = none := not_some fun e => some_not hn (h.2.1.2.2 e).2
theorem MS.at21 (h : MS w0 l0 l1 l2 l3 v1 v6 v11 st w) (hn : st 21 = none) : Own w0 w l0 := by
  have O := h.2.2
  rwa [if_neg (some_not (h.no25 (h.no23 hn))), if_neg (some_not (h.no23 hn)), if_neg (some_not hn)] at O
theorem MS.at23 (h : MS w0 l0 l1 l2 l3 v1 v6 v11 st w) (hn : st 23 = none) (h2 : (st 21).isSome = true) : Own w0 w l1 := by
  have O := h.2.2
  rwa [if_neg (some_not (h.no25 hn)), if_neg (some_not hn), if_pos h2] at O
theorem MS.at25 (h : MS w0 l0 l1 l2 l3 v1 v6 v11 st w) (hn : st 25 = none) (h2 : (st 23).isSome = true) : Own w0 w l2 := by
  have O := h.2.2
  rwa [if_neg (some_not hn), if_pos h2] at O
theorem MS.done (h : MS w0 l0 l1 l2 l3 v1 v6 v11 st w) (h2 : (st 25).isSome = true) : Own w0 w l3 := by
  have O := h.2.2
  rwa [if_pos h2] at O
theorem MS.put21 (h : MS w0 l0 l1 l2 l3 v1 v6 v11 st w) (hn : st 21 = none) (h1 : (st 1).isSome = true) (u : Value) {w1 : World} (O : Own w0 w1 l1) : MS w0 l0 l1 l2 l3 v1 v6 v11 (upd st 21 u) w1 := by
  have e : ∀ j, j ≠ 21 → upd st 21 u j = st j := fun j hj => upd_other st u hj
  have n23 := h.no23 hn
  have n25 := h.no25 n23
  refine ⟨⟨fun z hu => ?_, fun z hu => ?_, fun z hu => ?_⟩, ⟨fun _ => ?_, fun hs => ?_, fun hs => ?_⟩, ?_⟩
  · rw [e 1 (by decide)] at hu; exact h.1.1 z hu
  · rw [e 6 (by decide)] at hu; exact h.1.2.1 z hu
  · rw [e 11 (by decide)] at hu; exact h.1.2.2 z hu
  · rw [e 1 (by decide)]; exact h1
  · rw [e 23 (by decide), n23] at hs; cases hs
  · rw [e 25 (by decide), n25] at hs; cases hs
  · rw [e 25 (by decide), e 23 (by decide), upd_same, n25, n23]; exact O
theorem MS.put23 (h : MS w0 l0 l1 l2 l3 v1 v6 v11 st w) (hn : st 23 = none) (h1 : (st 6).isSome = true) (h2 : (st 21).isSome = true) (u : Value) {w1 : World} (O : Own w0 w1 l2) : MS w0 l0 l1 l2 l3 v1 v6 v11 (upd st 23 u) w1 := by
  have e : ∀ j, j ≠ 23 → upd st 23 u j = st j := fun j hj => upd_other st u hj
  have n25 := h.no25 hn
  refine ⟨⟨fun z hu => ?_, fun z hu => ?_, fun z hu => ?_⟩, ⟨fun hs => ?_, fun _ => ?_, fun hs => ?_⟩, ?_⟩
  · rw [e 1 (by decide)] at hu; exact h.1.1 z hu
  · rw [e 6 (by decide)] at hu; exact h.1.2.1 z hu
  · rw [e 11 (by decide)] at hu; exact h.1.2.2 z hu
  · rw [e 21 (by decide)] at hs; rw [e 1 (by decide)]; exact h.2.1.1 hs
  · rw [e 6 (by decide), e 21 (by decide)]; exact ⟨h1, h2⟩
  · rw [e 25 (by decide), n25] at hs; cases hs
  · rw [e 25 (by decide), upd_same, n25]; exact O
theorem MS.put25 (h : MS w0 l0 l1 l2 l3 v1 v6 v11 st w) (h1 : (st 11).isSome = true) (h2 : (st 23).isSome = true) (u : Value) {w1 : World} (O : Own w0 w1 l3) : MS w0 l0 l1 l2 l3 v1 v6 v11 (upd st 25 u) w1 := by
  have e : ∀ j, j ≠ 25 → upd st 25 u j = st j := fun j hj => upd_other st u hj
  refine ⟨⟨fun z hu => ?_, fun z hu => ?_, fun z hu => ?_⟩, ⟨fun hs => ?_, fun hs => ?_, fun _ => ?_⟩, ?_⟩
  · rw [e 1 (by decide)] at hu; exact h.1.1 z hu
  · rw [e 6 (by decide)] at hu; exact h.1.2.1 z hu
  · rw [e 11 (by decide)] at hu; exact h.1.2.2 z hu
  · rw [e 21 (by decide)] at hs; rw [e 1 (by decide)]; exact h.2.1.1 hs
  · rw [e 23 (by decide)] at hs; rw [e 6 (by decide), e 21 (by decide)]; exact h.2.1.2.1 hs
  · rw [e 11 (by decide), e 23 (by decide)]; exact ⟨h1, h2⟩
  · rw [upd_same]; exact O
end
theorem mat8_back {g f : Nat → Int} {X Y : Int} (h0 : f 0 = X) (h1 : f 1 = Y) (hg : ∀ i, 2 ≤ i → g i = f i) : ((M.mat 8 g).set 0 (.int .i64 X)).set 1 (.int .i64 Y) = M.mat 8 f := by
  have e : (M.mat 8 g) = [.int .i64 (g 0), .int .i64 (g 1), .int .i64 (g 2), .int .i64 (g 3), .int .i64 (g 4), .int .i64 (g 5), .int .i64 (g 6), .int .i64 (g 7)] := rfl
  have e' : (M.mat 8 f) = [.int .i64 (f 0), .int .i64 (f 1), .int .i64 (f 2), .int .i64 (f 3), .int .i64 (f 4), .int .i64 (f 5), .int .i64 (f 6), .int .i64 (f 7)] := rfl
  rw [e, e', h0, h1, hg 2 (by decide), hg 3 (by decide), hg 4 (by decide), hg 5 (by decide), hg 6 (by decide), hg 7 (by decide)]
  rfl
theorem Held.as18 {w0 w : World} {l l' : List (Nat × TypeId × List Value)} {R : RowD} {es : List Ent} (h : Held w0 w l R es) (e : l = l') : Held w0 w l' R es := e ▸ h
end Go.Proofs.Ytdkppkdoconfhaa
