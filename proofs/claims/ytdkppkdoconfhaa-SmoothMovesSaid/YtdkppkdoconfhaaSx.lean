/- Plain: which rows and pixels a line looks at. -/
import Derived.Test.YtdkppkdoconfhaaSu
import Derived.Test.YtdkppkdoconfhaaSw
import Derived.Test.YtdkppkdoconfhaaWr
namespace Go.Proofs.Ytdkppkdoconfhaa
open Go.ChangeShapes Go.WideShapes Go.ChangeAt Go.RowKit
set_option linter.unusedVariables false
set_option linter.unusedSimpArgs false

theorem Own.join {w0 w w' : World} {bs cs : List (Nat × TypeId × List Value)} (O : Own w0 w bs) (C : Own w w' cs) : Own w0 w' (cs ++ bs) := by
  refine ⟨O.1.trans (C.1.mono O.1.size), ?_, fun x hx => ?_⟩
  · rw [List.map_append, List.nodup_append]
    refine ⟨C.2.1, O.2.1, fun a ha b hb e => ?_⟩
    obtain ⟨x, hx, rfl⟩ := List.mem_map.1 ha
    obtain ⟨y, hy, rfl⟩ := List.mem_map.1 hb
    have h1 := (C.2.2 x hx).1
    have h2 := O.lt hy
    omega
  · rcases List.mem_append.1 hx with hx | hx
    · exact ⟨Nat.le_trans O.1.size (C.2.2 x hx).1, (C.2.2 x hx).2⟩
    · exact ⟨(O.2.2 x hx).1, (C.1.block _ (O.lt hx)).trans (O.2.2 x hx).2⟩
theorem Held.join18 {w0 w w' : World} {bs cs : List (Nat × TypeId × List Value)} {R : RowD} (h : Held w0 w bs R []) (C : Own w w' cs) : Held w0 w' (cs ++ bs) R [] :=
  ⟨h.1.join C, (h.call C.1).2.1, fun x hx => by
    rcases List.mem_append.1 hx with hx | hx
    · intro e
      have h1 := (h.row_lt e).2
      have h2 := (C.2.2 x hx).1
      omega
    · exact h.2.2.1 x hx, by simp⟩
namespace SM
section
variable {α : Type} {f : Int → Int → List α}
theorem row_skip {x0 x x' y : Int} (h0 : x0 ≤ x) (h : x ≤ x') (hf : ∀ z, x ≤ z → z < x' → f z y = []) : row f x0 x' y = row f x0 x y := by
  obtain ⟨k, rfl⟩ : ∃ k : Nat, x' = x + k := ⟨(x' - x).toNat, by omega⟩
  induction k with
  | zero => simp
  | succ k ih =>
    rw [show x + ((k + 1 : Nat) : Int) = x + k + 1 by omega, row_succ f (by omega), hf _ (by omega) (by omega), List.append_nil]
    exact ih (by omega) fun z h1 h2 => hf z h1 (by omega)
theorem row_none {x0 x1 y : Int} (hf : ∀ z, x0 ≤ z → z < x1 → f z y = []) : row f x0 x1 y = [] := by
  unfold row
  rw [List.flatMap_eq_nil_iff]
  intro z hz
  have := mem_upto.1 hz
  exact hf z this.1 this.2
theorem rows_skip {x0 x1 y0 y y' : Int} (h0 : y0 ≤ y) (h : y ≤ y') (hf : ∀ z, y ≤ z → z < y' → row f x0 x1 z = []) : rows f x0 x1 y0 y' = rows f x0 x1 y0 y := by
  obtain ⟨k, rfl⟩ : ∃ k : Nat, y' = y + k := ⟨(y' - y).toNat, by omega⟩
  induction k with
  | zero => simp
  | succ k ih =>
    rw [show y + ((k + 1 : Nat) : Int) = y + k + 1 by omega, rows_succ f (by omega), hf _ (by omega) (by omega), List.append_nil]
    exact ih (by omega) fun z h1 h2 => hf z h1 (by omega)
/-- Only these rows, and of each only these pixels, have something. -/
structure Look (f : Int → Int → List α) (r0 r1 r2 r3 : Int) (Y : Nat → Int) (X : Int → Nat → Int) : Prop where
  ny : r1 ≤ Y 0 ∧ Y 1 < r3
  nx : ∀ y, r0 ≤ X y 0 ∧ X y 1 < r2
  no : ∀ x y, r0 ≤ x → x < r2 → r1 ≤ y → y < r3 → ¬ ((Y 0 ≤ y ∧ y ≤ Y 1) ∧ (X y 0 ≤ x ∧ x ≤ X y 1)) → f x y = []
variable {r0 r1 r2 r3 : Int} {Y : Nat → Int} {X : Int → Nat → Int}
theorem Look.start (h : Look f r0 r1 r2 r3 Y X) (hr : r1 ≤ r3) : part f r0 r2 r1 (min (Y 0) r3) r0 = [] := by
  rw [part_end, rows_skip (y := r1) (Int.le_refl _) (by have := h.ny; omega), rows_nil]
  intro z h1 h2
  exact row_none fun x h3 h4 => h.no x z h3 h4 h1 (by omega) (by omega)
theorem Look.row (h : Look f r0 r1 r2 r3 Y X) (hr : r0 ≤ r2) {y : Int} (hy : Y 0 ≤ y ∧ y ≤ Y 1) : part f r0 r2 r1 y (min (X y 0) r2) = part f r0 r2 r1 (min y r3) r0 := by
  have h1 := h.ny
  have h2 := h.nx y
  rw [Int.min_eq_left (show y ≤ r3 by omega)]
  unfold part
  rw [row_skip (x := r0) (Int.le_refl _) (by omega)]
  intro z h3 h4
  exact h.no z y h3 (by omega) (by omega) (by omega) (by omega)
theorem Look.step (h : Look f r0 r1 r2 r3 Y X) {x y : Int} (hx : X y 0 ≤ x ∧ x ≤ X y 1) : part f r0 r2 r1 y (min (x + 1) r2) = part f r0 r2 r1 y (min x r2) ++ f x y := by
  have h2 := h.nx y
  rw [Int.min_eq_left (show x + 1 ≤ r2 by omega), Int.min_eq_left (show x ≤ r2 by omega)]
  exact part_step (by omega)
theorem Look.next (h : Look f r0 r1 r2 r3 Y X) (hr : r0 ≤ r2) {x y : Int} (hy : Y 0 ≤ y ∧ y ≤ Y 1) (hx : X y 0 ≤ x ∧ ¬ x ≤ X y 1) : part f r0 r2 r1 y (min x r2) = part f r0 r2 r1 (min (y + 1) r3) r0 := by
  have h1 := h.ny
  have h2 := h.nx y
  rw [Int.min_eq_left (show y + 1 ≤ r3 by omega), ← part_row (by omega)]
  unfold part
  rw [row_skip (x := min x r2) (x' := r2) (by omega) (by omega)]
  intro z h3 h4
  exact h.no z y (by omega) h4 (by omega) (by omega) (by omega)
theorem Look.stop (h : Look f r0 r1 r2 r3 Y X) (hr : r1 ≤ r3) {y : Int} (hy : Y 0 ≤ y ∧ ¬ y ≤ Y 1) : part f r0 r2 r1 (min y r3) r0 = rows f r0 r2 r1 r3 := by
  have h1 := h.ny
  rw [part_end, rows_skip (y := min y r3) (y' := r3) (by omega) (by omega)]
  intro z h3 h4
  exact row_none fun x h5 h6 => h.no x z h5 h6 (by omega) h4 (by omega)
end
end SM
namespace SP
theorem rowf_lim {st : Nat → Int} {ax ay y : Int} (h : Ok st) (hx : -268435456 ≤ ax ∧ ax ≤ 268435456) (ha : -268435456 ≤ ay ∧ ay ≤ 268435456) (hy : -4194304 ≤ y ∧ y ≤ 4194304) : ∀ j, j < 16 → -144115188075855872 ≤ rowf st ax ay y j ∧ rowf st ax ay y j ≤ 144115188075855872 := by
  intro j hj
  unfold rowf spn
  have hc : In 2147483648 (mk (256 * y + 32 * ((j / 2 : Nat) : Int) + 16 - ay) (256 * y + 32 * ((j / 2 : Nat) : Int) + 16 - ay)) := by
    have e : ((j / 2 : Nat) : Int) < 8 := by omega
    exact ⟨⟨by show _ ≤ 256 * y + 32 * ((j / 2 : Nat) : Int) + 16 - ay; omega, by show 256 * y + 32 * ((j / 2 : Nat) : Int) + 16 - ay ≤ _; omega⟩, by show _ ≤ 256 * y + 32 * ((j / 2 : Nat) : Int) + 16 - ay; omega, by show 256 * y + 32 * ((j / 2 : Nat) : Int) + 16 - ay ≤ _; omega⟩
  have hs := samples_lim (b := ax) (within_lim h hc) (by omega)
  rcases (by omega : j % 2 = 0 ∨ j % 2 = 1) with e | e
  · rw [e]; exact hs.1
  · rw [e]; exact hs.2
/-- The pixels of a row that are looked at. -/
def xs (st q : Nat → Int) (ax ay y : Int) : Nat → Int := and (pixf st ax ay y) (mk (q 0) (q 2 - 1))
theorem ard_ok {a b : Nat → Int} {w : Int} (hw : 1 ≤ w ∧ w ≤ 64) (ha : (-268435456 ≤ a 0 ∧ a 0 ≤ 268435456) ∧ (-268435456 ≤ a 1 ∧ a 1 ≤ 268435456)) (hb : (-268435456 ≤ b 0 ∧ b 0 ≤ 268435456) ∧ (-268435456 ≤ b 1 ∧ b 1 ≤ 268435456)) : RC.right (ard a b w) = true := by
  have t0 := tdiv_near (min (a 0) (b 0))
  have t1 := tdiv_near (min (a 1) (b 1))
  have t2 := tdiv_near (max (a 0) (b 0))
  have t3 := tdiv_near (max (a 1) (b 1))
  rw [RC.right_iff]
  show ((-4194304 ≤ (min (a 0) (b 0)).tdiv 256 - w - 1 ∧ (min (a 0) (b 0)).tdiv 256 - w - 1 ≤ 4194304) ∧ (-4194304 ≤ (min (a 1) (b 1)).tdiv 256 - w - 1 ∧ (min (a 1) (b 1)).tdiv 256 - w - 1 ≤ 4194304) ∧ (-4194304 ≤ (max (a 0) (b 0)).tdiv 256 + w + 1 ∧ (max (a 0) (b 0)).tdiv 256 + w + 1 ≤ 4194304) ∧ (-4194304 ≤ (max (a 1) (b 1)).tdiv 256 + w + 1 ∧ (max (a 1) (b 1)).tdiv 256 + w + 1 ≤ 4194304)) ∧ ((min (a 0) (b 0)).tdiv 256 - w - 1 < (max (a 0) (b 0)).tdiv 256 + w + 1) ∧ ((min (a 1) (b 1)).tdiv 256 - w - 1 < (max (a 1) (b 1)).tdiv 256 + w + 1)
  generalize (min (a 0) (b 0)).tdiv 256 = u0 at *
  generalize (min (a 1) (b 1)).tdiv 256 = u1 at *
  generalize (max (a 0) (b 0)).tdiv 256 = u2 at *
  generalize (max (a 1) (b 1)).tdiv 256 = u3 at *
  omega
/-- What is not in both has nothing. -/
theorem line_none {a b r : Nat → Int} {w : Int} (hr : SM.right a b w = true) (h : RC.right (RC.both r (ard a b w)) = false) : SM.line a b w r = [] := by
  obtain ⟨⟨hfa, hfb⟩, hw⟩ := SM.right_iff.1 hr
  obtain ⟨a0, a1, -⟩ := VM.fit_lim hfa
  obtain ⟨b0, b1, -⟩ := VM.fit_lim hfb
  cases hq : RC.right r
  · exact SM.line_bad (by rw [hq, Bool.and_false])
  rw [SM.line_ok hr hq]
  have hA := ard_ok hw ⟨a0, a1⟩ ⟨b0, b1⟩
  unfold RC.both at h
  rw [hq, hA, Bool.and_self, if_pos rfl] at h
  have h2 : RC.right (RC.meet r (ard a b w)) = false := by
    cases e : RC.right (RC.meet r (ard a b w))
    · rfl
    · rw [e, if_pos rfl, e] at h
      cases h
  have hr2 := RC.right_iff.1 hq
  have hA2 := RC.right_iff.1 hA
  have key : ∀ x y, r 0 ≤ x → x < r 2 → r 1 ≤ y → y < r 3 → SM.px a b w x y = [] := by
    intro x y x0 x1 y0 y1
    refine SM.px_no ?_
    rcases (by omega : SM.cvr a b w x y = 0 ∨ SM.cvr a b w x y ≠ 0) with e | e
    · exact e
    · exfalso
      have hc : SM.cov a b w x y ≠ 0 := by
        intro hc
        apply e
        unfold SM.cvr
        rw [hr, if_pos rfl, hc]
        rfl
      have k := ard_of hw.1 hc
      generalize ard a b w = q at *
      have : RC.right (RC.meet r q) = true := by
        rw [RC.right_iff]
        show ((-4194304 ≤ max (r 0) (q 0) ∧ max (r 0) (q 0) ≤ 4194304) ∧ (-4194304 ≤ max (r 1) (q 1) ∧ max (r 1) (q 1) ≤ 4194304) ∧ (-4194304 ≤ min (r 2) (q 2) ∧ min (r 2) (q 2) ≤ 4194304) ∧ (-4194304 ≤ min (r 3) (q 3) ∧ min (r 3) (q 3) ≤ 4194304)) ∧ (max (r 0) (q 0) < min (r 2) (q 2)) ∧ (max (r 1) (q 1) < min (r 3) (q 3))
        omega
      rw [this] at h2
      cases h2
  unfold SM.rows
  rw [List.flatMap_eq_nil_iff]
  intro y hy
  have h3 := SM.mem_upto.1 hy
  exact SM.row_none fun x x0 x1 => key x y x0 x1 h3.1 h3.2
theorem both_in {r q : Nat → Int} (h : RC.right (RC.both r q) = true) : RC.right r = true ∧ (∀ x y, r 0 ≤ x → x < r 2 → r 1 ≤ y → y < r 3 → (q 0 ≤ x ∧ x < q 2) ∧ (q 1 ≤ y ∧ y < q 3) → (RC.both r q 0 ≤ x ∧ x < RC.both r q 2) ∧ (RC.both r q 1 ≤ y ∧ y < RC.both r q 3)) ∧ ((r 0 ≤ RC.both r q 0 ∧ RC.both r q 2 ≤ r 2) ∧ (r 1 ≤ RC.both r q 1 ∧ RC.both r q 3 ≤ r 3)) := by
  have e : RC.both r q = RC.meet r q ∧ RC.right r = true := by
    unfold RC.both at h ⊢
    cases hr : RC.right r
    · rw [hr, Bool.false_and, if_neg (by decide)] at h
      rw [RC.right_zero] at h
      cases h
    · cases hq : RC.right q
      · rw [hr, hq, if_neg (by decide), RC.right_zero] at h
        cases h
      · rw [Bool.and_self, if_pos rfl]
        cases hm : RC.right (RC.meet r q)
        · rw [hr, hq, Bool.and_self, if_pos rfl, hm, if_neg (by decide), RC.right_zero] at h
          cases h
        · exact ⟨if_pos rfl, rfl⟩
  rw [e.1]
  refine ⟨e.2, fun x y x0 x1 y0 y1 hk => ?_, ?_⟩
  · show (max (r 0) (q 0) ≤ x ∧ x < min (r 2) (q 2)) ∧ (max (r 1) (q 1) ≤ y ∧ y < min (r 3) (q 3))
    omega
  · show (r 0 ≤ max (r 0) (q 0) ∧ min (r 2) (q 2) ≤ r 2) ∧ (r 1 ≤ max (r 1) (q 1) ∧ min (r 3) (q 3) ≤ r 3)
    omega
theorem look {a b r : Nat → Int} {w R : Int} (hr : SM.right a b w = true) (hR : M.IsRoot (lim a b w) R) (h : RC.right (RC.both r (ard a b w)) = true) :
    SM.Look (SM.px a b w) (r 0) (r 1) (r 2) (r 3) (rowsf (meas a b w R) (RC.both r (ard a b w)) (a 0) (a 1)) (fun y => xs (meas a b w R) (RC.both r (ard a b w)) (a 0) (a 1) y) := by
  obtain ⟨⟨hfa, hfb⟩, hw⟩ := SM.right_iff.1 hr
  obtain ⟨a0, a1, -⟩ := VM.fit_lim hfa
  obtain ⟨hq, hin, hsub⟩ := both_in h
  have hr2 := RC.right_iff.1 hq
  generalize RC.both r (ard a b w) = q at *
  refine ⟨?_, fun y => ?_, fun x y x0 x1 y0 y1 hn => ?_⟩
  · unfold rowsf
    show r 1 ≤ max _ (q 1) ∧ min _ (q 3 - 1) < r 3
    omega
  · show r 0 ≤ max _ (q 0) ∧ min _ (q 2 - 1) < r 2
    omega
  · refine SM.px_no ?_
    rcases (by omega : SM.cvr a b w x y = 0 ∨ SM.cvr a b w x y ≠ 0) with e | e
    · exact e
    · exfalso
      have hc : SM.cov a b w x y ≠ 0 := by
        intro hc
        apply e
        unfold SM.cvr
        rw [hr, if_pos rfl, hc]
        rfl
      have k := hin x y x0 x1 y0 y1 (ard_of hw.1 hc)
      have k1 := rowsf_of (r := q) hR k.1 k.2 (by omega) a1 hc
      have k2 := pixf_of (y := y) hR (by omega) a0 hc
      apply hn
      refine ⟨k1, ?_⟩
      show xs _ q _ _ y 0 ≤ x ∧ x ≤ xs _ q _ _ y 1
      unfold xs
      rw [and_iff]
      exact ⟨k2, by show q 0 ≤ x; omega, by show x ≤ q 2 - 1; omega⟩
end SP
end Go.Proofs.Ytdkppkdoconfhaa
