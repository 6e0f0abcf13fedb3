/- Contract: the document's Within. -/
import Derived.Test.YtheolajpjpnfjaaXh
import Derived.Test.YtheolajpjpnfjaaXf
import Derived.Test.YtheolajpjpnfjaaXc
import Derived.Test.YtheolajpjpnfjaaXr
namespace Go.Proofs.Ytheolajpjpnfjaa
open Go.ChangeShapes Go.WideShapes Go.ChangeAt Go.RowKit
set_option linter.unusedVariables false
set_option linter.unusedSimpArgs false

section
variable {P : Program} {ops : Array Oper} {Q : Exit → Act → World → Prop} {a : Act} {w w0 : World} {rest : List Oper} {bs : List (Nat × TypeId × List Value)} {R : RowD} {es : List Ent} {dst : Option Tmp} {ty : TypeId} {pos : String} {after : Array Edge} {K : Act → World → Prop}
theorem sliced_hi (A : Option Addr) (i c s : Nat) : sliced A 0 i c s = .slice A i c := by
  unfold sliced
  rw [Nat.zero_mul, Nat.sub_zero, Nat.sub_zero]
  split
  · rfl
  · cases A with
    | none => rfl
    | some ad => simp [Addr.add]
/-- A part of a list, up to an element. -/
theorem wp_part_hi {t e : TypeId} {x y : Operand} {gd : Option (Nat × Bool)} {s n c : Nat} {A : Option Addr} (hu : P.underlying t = some (.slice e)) (hs : ∀ w, (sizeOf e).run P w = .ok s w) (hx : a.eval x = .slice A n c) {kd : IntKind} (i : Nat) (hy : a.eval y = .int kd (i : Int)) (hi : i ≤ c)
    (h : K (a.put dst (.slice A i c)) w) : Oper.wp P ⟨dst, .slice t x none (some y) none, ty, pos, after, gd⟩ a w K Q := by
  have he : P.elem t = e := by simp [Program.elem, hu]
  have ht : P.underlying t = some (.slice (P.elem t)) := by rw [he, hu]
  have hr : (Instr.sliceAt t (.slice A n c) none (some (.int kd i)) none).run P w = .ok (.slice A i c) w := by
    rw [run_sliceAt_slice w t _ _ _ _ ht, run_slice_h w t A n c ht kd i (by omega) (by omega), he, hs, Result.andThen_ok, ← sliced_hi A i c s]
    rfl
  unfold Oper.wp execOp
  simp only [hx, hy, Option.map_some, Option.map_none, Sem.run_bind, hr, Result.andThen_ok]
  exact h
/-- A part of a list, from an element on. -/
theorem wp_part_lo {t e : TypeId} {x y : Operand} {gd : Option (Nat × Bool)} {s n c m cc : Nat} {A B : Option Addr} (hu : P.underlying t = some (.slice e)) (hs : ∀ w, (sizeOf e).run P w = .ok s w) (hx : a.eval x = .slice A n c) {kd : IntKind} (i : Nat) (hy : a.eval y = .int kd (i : Int)) (hi : i ≤ n)
    (hB : (if c = i then A else A.map (·.add (i * s))) = B) (hm : n - i = m) (hc : c - i = cc) (h : K (a.put dst (.slice B m cc)) w) : Oper.wp P ⟨dst, .slice t x (some y) none none, ty, pos, after, gd⟩ a w K Q := by
  have he : P.elem t = e := by simp [Program.elem, hu]
  have ht : P.underlying t = some (.slice (P.elem t)) := by rw [he, hu]
  have hr : (Instr.sliceAt t (.slice A n c) (some (.int kd i)) none none).run P w = .ok (.slice B m cc) w := by
    rw [run_sliceAt_slice w t _ _ _ _ ht, run_slice_l w t A n c ht kd i (by omega) (by omega), he, hs, Result.andThen_ok, ← hB, ← hm, ← hc]
    rfl
  unfold Oper.wp execOp
  simp only [hx, hy, Option.map_some, Option.map_none, Sem.run_bind, hr, Result.andThen_ok]
  exact h
theorem wpList_part_lo {t e : TypeId} {x y : Operand} {s n c m cc : Nat} {A B : Option Addr} (hu : P.underlying t = some (.slice e)) (hs : ∀ w, (sizeOf e).run P w = .ok s w) (hx : a.eval x = .slice A n c) {kd : IntKind} (i : Nat) (hy : a.eval y = .int kd (i : Int)) (hi : i ≤ n)
    (hB : (if c = i then A else A.map (·.add (i * s))) = B) (hm : n - i = m) (hc : c - i = cc) (h : wpList P ops Q rest (a.put dst (.slice B m cc)) w) : wpList P ops Q (⟨dst, .slice t x (some y) none none, ty, pos, after, none⟩ :: rest) a w :=
  wpList_plain rfl fun K hK => wp_part_lo hu hs hx i hy hi hB hm hc (hK _ _ h)
theorem at_part (d : Nat) {t : TypeId} {x : Operand} {l h_ m : Option Operand} {gd : Option (Nat × Bool)} (h : wpList P ops Q (⟨some d, .slice t x l h_ m, ty, pos, after, gd⟩ :: rest) a w) : wpList P ops Q (⟨some d, .slice t x l h_ m, ty, pos, after, gd⟩ :: rest) a w := h
theorem Held.row_ent {A : Option Addr} {c : Nat} {l : List (Int × Int × Int)} (O : Held w0 w bs (tR A c l) es) : Lies w free (tE w0.heap.size A c l) := by
  obtain ⟨A2, c2, hv, hl⟩ := row_lies O.2.1
  dsimp only [tR] at hv hl
  injection hv with e1 e2 e3
  subst e1 e3
  exact hl free (fun _ _ h => h)
theorem Held.row_cap {A : Option Addr} {c : Nat} {l : List (Int × Int × Int)} (O : Held w0 w bs (tR A c l) es) : l.length ≤ c := (O.row_ent).2.1
end
theorem part_ent {w : World} {no : Nat → Prop} {lo c : Nat} {A : Option Addr} {l : List (Int × Int × Int)} (h : Lies w no (tE lo A c l)) {k : Nat} (hk : k ≤ l.length) {B : Option Addr} {cc : Nat} (hB : (if c = k then A else A.map (·.add (k * 3))) = B) (hc : c - k = cc) : Lies w no (tE lo B cc (l.drop k)) := by
  have h1 := Lies.part (lo := lo) (n := l.length) (c := c) (s := 3) (A := A) (xs := tC l) h k l.length hk (Nat.le_refl _)
  rw [hB, hc, tC_part, List.take_of_length_le (by rw [List.length_drop]; exact Nat.le_refl _)] at h1
  unfold tE
  rw [List.length_drop]
  exact h1
theorem litT (k x y : Int) : tC [(k, x, y)] = M.mat 3 (DM.t3 k x y) := by simp [tC, sF]
set_option maxRecDepth 100000 in
set_option maxHeartbeats 16000000 in
theorem rwithin_any (a b r : Nat → Int) (ha : DM.Rg a) (hb : DM.Rg b) (hs : RC.right r = true → r 2 - r 0 ≤ 1000 ∧ r 3 - r 1 ≤ 1000) (w : World) :
    Calls Try.prog 13 #[arr 2 a, arr 2 b, arr 4 r] w (RetT w (if RC.right r then DM.wth (a 0) (a 1) (b 0) (b 1) r else [])) := by
  have O := Held.start w [] (by simp)
  have CR := fun w => rright_any r w
  cases hr : RC.right r
  · rw [hr] at CR
    rw [if_neg (by decide)]
    clear hs hr
    go_enter Try.func13, Try.ntmps13
    go_wp2_with (first | ((with_reducible refine at_box 3 ?_); refine wpList_box_h O (M.mat 2 (a)) rfl ?_; clear O; intro g3 w1 O) | ((with_reducible refine at_box 4 ?_); refine wpList_box_h O (M.mat 2 (b)) rfl ?_; clear O; intro g4 w2 O) | ((with_reducible refine at_box 5 ?_); refine wpList_box_h O (M.mat 4 (r)) rfl ?_; clear O; intro g5 w3 O) | ((with_reducible refine at_load 15 ?_); refine wpList_rowg_h rfl O 0 rfl rfl Try.underlying25 rfl (sR _) ?_) | (go_at_call 19; refine (CR _).mono ?_; rintro e w4 ⟨rfl, hb⟩; replace O := O.call hb; clear hb))
    go_ret
    exact retT_nil O.below
  · rw [hr] at CR
    rw [if_pos rfl]
    obtain ⟨hrl, hrl2, hrl3⟩ := RC.right_iff.1 hr
    have hs := hs hr
    have CO := fun w => of_any a b ha hb w
    have CW := fun w => wide_any a b ha hb w
    have CE := fun x y h w => rexits_any a b x y ha hb h w
    have LA := mid_lim ha (DM.tall (b 0 - a 0) (b 1 - a 1))
    have LB := mid_lim hb (DM.tall (b 0 - a 0) (b 1 - a 1))
    have ND := fun (x y : Int) (h : DM.exits (DM.rel (a 0) x) (DM.rel (a 1) y) (DM.rel (b 0) x) (DM.rel (b 1) y) = true) (hn : ¬ (a 0 = b 0 ∧ a 1 = b 1)) (hit : Bool) hh => DM.numD_is (u := DM.mn (DM.tall (b 0 - a 0) (b 1 - a 1)) x y) (v := DM.cr (DM.tall (b 0 - a 0) (b 1 - a 1)) x y) (DM.way_of hn) (by rw [DM.eG_exits]; exact h) (hit := hit) hh
    have HS : ∀ x y, DM.exits (DM.rel (a 0) x) (DM.rel (a 1) y) (DM.rel (b 0) x) (DM.rel (b 1) y) = true → ¬ (a 0 = b 0 ∧ a 1 = b 1) := by
      rintro x y h ⟨e1, e2⟩
      rw [← e1, ← e2, DM.exits, DM.meets_self] at h
      cases hi : DM.inside (DM.rel (a 0) x) (DM.rel (a 1) y) <;> rw [hi] at h <;> cases h
    have NUM : ∀ X Y E, DM.OfIs a b X Y E → ∀ x y, DM.Rx x y → DM.exits (DM.rel (a 0) x) (DM.rel (a 1) y) (DM.rel (b 0) x) (DM.rel (b 1) y) = true → ∀ w, Calls Try.prog 27 #[.agg (ln (DM.ahd (DM.mn (DM.tall (b 0 - a 0) (b 1 - a 1)) (a 0) (a 1))) (DM.ahd (DM.mn (DM.tall (b 0 - a 0) (b 1 - a 1)) (b 0) (b 1))) X Y E).toArray, .int .i64 x, .int .i64 y, .int .i64 (DM.mn (DM.tall (b 0 - a 0) (b 1 - a 1)) x y)] w fun e w' => e = .returned (.int .i64 (DM.num (a 0) (a 1) (b 0) (b 1) x y)) ∧ Below w.heap.size w w' := by
      intro X Y E hO x y hx he w
      have hn := HS x y he
      have hE := hO.2.1 hn
      have N := number_any (DM.ahd (DM.mn (DM.tall (b 0 - a 0) (b 1 - a 1)) (a 0) (a 1))) (DM.ahd (DM.mn (DM.tall (b 0 - a 0) (b 1 - a 1)) (b 0) (b 1))) X Y E x y (DM.mn (DM.tall (b 0 - a 0) (b 1 - a 1)) x y) (by omega) (by omega) (by unfold DM.Rx at hx; unfold DM.mn; split <;> omega) w
      have e := ND x y he hn (decide (x = X ∧ y = Y)) (by
        intro hx2
        have hi := hO.2.2.1 (by rw [hE]; exact hx2)
        rw [DM.aG_inside, Bool.eq_iff_iff, decide_eq_true_iff]
        constructor
        · rintro ⟨rfl, rfl⟩
          exact hi
        · intro h2
          rw [DM.pix_iff] at hi h2
          rw [hi] at h2
          simp only [Option.some.injEq, Prod.mk.injEq] at h2
          exact ⟨h2.1.symm, h2.2.symm⟩)
      rw [hE] at N
      unfold DM.exT at N
      rw [e] at N
      unfold DM.exT at hE
      rw [← hE] at N
      exact N
    clear ND
    have FS := @DM.found_start (a 0) (a 1) (b 0) (b 1) r
    have FK := fun x y L h he => @DM.found_skip (a 0) (a 1) (b 0) (b 1) x y r L h he
    have FR := fun x L h hx => @DM.found_row (a 0) (a 1) (b 0) (b 1) x r L h hx
    have FI := fun x y L h hy he K hK k hk h1 h2 => @DM.found_ins (a 0) (a 1) (b 0) (b 1) x y r L h hy he K hK k hk h1 h2
    have FE := fun L h => @DM.found_end (a 0) (a 1) (b 0) (b 1) r L h
    have FL := fun x y L h h0 h1 h2 => @DM.found_len (a 0) (a 1) (b 0) (b 1) x y r L h h0 h1 h2 hrl3 hs
    unfold RetOf at CO
    have TLx : ∀ x y, DM.Rx x y → -4194304 ≤ DM.mn (DM.tall (b 0 - a 0) (b 1 - a 1)) x y ∧ DM.mn (DM.tall (b 0 - a 0) (b 1 - a 1)) x y ≤ 4194304 := by
      intro x y h
      unfold DM.Rx at h
      unfold DM.mn
      split <;> omega
    generalize DM.Found (a 0) (a 1) (b 0) (b 1) r = FD at *
    generalize DM.wth (a 0) (a 1) (b 0) (b 1) r = res at *
    have CE2 : ∀ x y, DM.Rx x y → ∃ z, (z = true → ∀ X Y E, DM.OfIs a b X Y E → ∀ w, Calls Try.prog 27 #[.agg (ln (DM.ahd (DM.mn (DM.tall (b 0 - a 0) (b 1 - a 1)) (a 0) (a 1))) (DM.ahd (DM.mn (DM.tall (b 0 - a 0) (b 1 - a 1)) (b 0) (b 1))) X Y E).toArray, .int .i64 x, .int .i64 y, .int .i64 (DM.mn (DM.tall (b 0 - a 0) (b 1 - a 1)) x y)] w fun e w' => e = .returned (.int .i64 (DM.num (a 0) (a 1) (b 0) (b 1) x y)) ∧ Below w.heap.size w w') ∧
        (∀ w, Calls Try.prog 18 #[arr 2 a, arr 2 b, .int .i64 x, .int .i64 y] w fun e w' => e = .returned (.bool z) ∧ Below w.heap.size w w') ∧ (z = false → ∀ L, FD x y L → FD x (y + 1) L) ∧
        (z = true → ∀ L, FD x y L → r 1 ≤ y → ∀ k, k ≤ L.length → (∀ i s, i < k → L[i]? = some s → s.1 < DM.num (a 0) (a 1) (b 0) (b 1) x y) → (∀ s, L[k]? = some s → ¬ s.1 < DM.num (a 0) (a 1) (b 0) (b 1) x y) → FD x (y + 1) (L.take k ++ [(DM.num (a 0) (a 1) (b 0) (b 1) x y, x, y)] ++ L.drop k)) := by
      intro x y hx
      refine ⟨_, fun hz X Y E hO w => NUM X Y E hO x y hx hz w, fun w => CE x y hx w, fun hz L h => FK x y L h hz, fun hz L h hy k hk h1 h2 => FI x y L h hy hz _ rfl k hk h1 h2⟩
    clear NUM CE FK FI HS
    generalize DM.num (a 0) (a 1) (b 0) (b 1) = NU at *
    generalize (DM.tall (b 0 - a 0) (b 1 - a 1)) = t at *
    generalize DM.ahd (DM.mn t (a 0) (a 1)) = f at *
    generalize DM.ahd (DM.mn t (b 0) (b 1)) = g at *
    have Cr0 : Hid ((M.mat 4 r)[0]? = some (.int .i64 (r 0))) := cell_is rfl (by decide)
    have Cr1 : Hid ((M.mat 4 r)[1]? = some (.int .i64 (r 1))) := cell_is rfl (by decide)
    have Cr2 : Hid ((M.mat 4 r)[2]? = some (.int .i64 (r 2))) := cell_is rfl (by decide)
    have Cr3 : Hid ((M.mat 4 r)[3]? = some (.int .i64 (r 3))) := cell_is rfl (by decide)
    obtain ⟨r0, e0⟩ : ∃ z, r 0 = z := ⟨_, rfl⟩
    obtain ⟨r1, e1⟩ : ∃ z, r 1 = z := ⟨_, rfl⟩
    obtain ⟨r2, e2⟩ : ∃ z, r 2 = z := ⟨_, rfl⟩
    obtain ⟨r3, e3⟩ : ∃ z, r 3 = z := ⟨_, rfl⟩
    rw [e0] at Cr0 FS hrl hrl2
    simp only [e0] at FR FL
    rw [e1] at Cr1 FS hrl hrl3
    simp only [e1] at FR FE
    simp only [e1] at CE2
    rw [e2] at Cr2 hrl hrl2
    simp only [e2] at FE FL
    rw [e3] at Cr3 hrl hrl3
    simp only [e3] at FR FL
    clear e0 e1 e2 e3 hs hr LA LB
    obtain ⟨⟨i0, i0'⟩, ⟨i1, i1'⟩, ⟨i2, i2'⟩, i3, i3'⟩ := hrl
    have HL := Lib.hid (And.intro (And.intro i0 i0') (And.intro (And.intro i1 i1') (And.intro (And.intro i2 i2') (And.intro i3 i3'))))
    have HL2 := Lib.hid (And.intro hrl2 hrl3)
    replace FS := Lib.hid FS
    replace FR := Lib.hid FR
    replace FE := Lib.hid FE
    replace FL := Lib.hid FL
    replace CE2 := Lib.hid CE2
    clear i0 i0' i1 i1' i2 i2' i3 i3' hrl2 hrl3 TLx ha hb
    have tok0 : True := trivial
    go_enter Try.func13, Try.ntmps13
    go_wp2_with (first | ((with_reducible refine at_box 3 ?_); refine wpList_box_h O (M.mat 2 (a)) rfl ?_; clear O; intro g3 w1 O) | ((with_reducible refine at_box 4 ?_); refine wpList_box_h O (M.mat 2 (b)) rfl ?_; clear O; intro g4 w2 O) | ((with_reducible refine at_box 5 ?_); refine wpList_box_h O (M.mat 4 (r)) rfl ?_; clear O; intro g5 w3 O) | ((with_reducible refine at_load 15 ?_); refine wpList_rowg_h rfl O 0 rfl rfl Try.underlying25 rfl (sR _) ?_) | (go_at_call 19; refine (CR _).mono ?_; rintro e w4 ⟨rfl, hb⟩; replace O := O.call hb; clear hb) | ((with_reducible refine at_load 18 ?_); refine wpList_rowg_h rfl O 2 rfl rfl Try.underlying23 rfl (sP _) ?_) | ((with_reducible refine at_load 19 ?_); refine wpList_rowg_h rfl O 1 rfl rfl Try.underlying23 rfl (sP _) ?_) | (go_at_call 25; refine (CO _).mono ?_; rintro e w5 ⟨X, Y, E, rfl, hO, hb⟩; have HO := Lib.hid hO; clear hO; replace O := O.call hb; clear hb) | ((with_reducible refine at_alloc 8 ?_); refine wpList_alloc_h O (ln 0 0 0 0 false) zeroL ?_; clear O; intro g8 w6 O) | ((with_reducible refine at_store 8 ?_); refine wpList_put_h O 0 (ln f g X Y E) rfl rfl rfl (sL f g X Y E) rfl (ln_one f g X Y E) ?_; clear O; intro w7 O) | ((with_reducible refine at_load 22 ?_); refine wpList_cell_h (v := .int .i64 (r0)) rfl O 1 rfl Cr0.out rfl agg3 rfl ?_))
    have OO : Held w w7 [(g8, 59, ln f g X Y E), (g5, 25, M.mat 4 r), (g4, 23, M.mat 2 b), (g3, 23, M.mat 2 a)] nilRow [] := O
    clear O
    have O := OO
    clear OO
    have CX : Hid (∀ x y, DM.Rx x y → ∃ z, (z = true → ∀ w, Calls Try.prog 27 #[.agg (ln f g X Y E).toArray, .int .i64 x, .int .i64 y, .int .i64 (DM.mn t x y)] w fun e w' => e = .returned (.int .i64 (NU x y)) ∧ Below w.heap.size w w') ∧
        (∀ w, Calls Try.prog 18 #[arr 2 a, arr 2 b, .int .i64 x, .int .i64 y] w fun e w' => e = .returned (.bool z) ∧ Below w.heap.size w w') ∧ (z = false → ∀ L, FD x y L → FD x (y + 1) L) ∧
        (z = true → ∀ L, FD x y L → r1 ≤ y → ∀ k, k ≤ L.length → (∀ i s, i < k → L[i]? = some s → s.1 < NU x y) → (∀ s, L[k]? = some s → ¬ s.1 < NU x y) → FD x (y + 1) (L.take k ++ [(NU x y, x, y)] ++ L.drop k))) := Lib.hid (fun x y hx => by
      obtain ⟨z, h1, h2, h3, h4⟩ := CE2.out x y hx
      exact ⟨z, fun hz => h1 hz X Y E HO.out, h2, h3, fun hz L h hy k hk ha hb => h4 hz L h hy k hk ha (fun s hs => Int.not_lt.1 (hb s hs))⟩)
    clear CE2 HO CR CO Cr0 tok0
    go_loopw [7, 9] (fun u t_ wr => ∃ (x : Int) (L : List (Int × Int × Int)) (A : Option Addr) (c : Nat), r0 ≤ x ∧ x ≤ r2 ∧ u = .slice A L.length c ∧ t_ = .int .i64 x ∧ FD x r1 L ∧ Held w wr [(g8, 59, ln f g X Y E), (g5, 25, M.mat 4 r), (g4, 23, M.mat 2 b), (g3, 23, M.mat 2 a)] (tR A c L) []) (fun _ t_ _ => (r2 - intOf t_).toNat)
    case atStart => exact ⟨r0, [], none, 0, Int.le_refl _, by have := HL2.out.1; omega, rfl, rfl, FS.out, O.fresh 34 3⟩
    case round =>
      clear O
      obtain ⟨x, L0, A0, c0, x0, x1, rfl, rfl, hF0, O⟩ := hrel
      have HF0 := Lib.hid hF0
      clear hF0
      by_cases hlx : x < r2
      · go_wp2_with (first | ((with_reducible refine at_load 25 ?_); refine wpList_cell_h (v := .int .i64 (r2)) rfl O 1 rfl Cr2.out rfl agg3 rfl ?_) | ((with_reducible refine at_load 30 ?_); refine wpList_cell_h (v := .int .i64 (r1)) rfl O 1 rfl Cr1.out rfl agg3 rfl ?_))
        go_loopw [7, 10] (fun u t_ wr => ∃ (y : Int) (L : List (Int × Int × Int)) (A : Option Addr) (c : Nat), r1 ≤ y ∧ y ≤ r3 ∧ u = .slice A L.length c ∧ t_ = .int .i64 y ∧ FD x y L ∧ Held w wr [(g8, 59, ln f g X Y E), (g5, 25, M.mat 4 r), (g4, 23, M.mat 2 b), (g3, 23, M.mat 2 a)] (tR A c L) []) (fun _ t_ _ => (r3 - intOf t_).toNat)
        case atStart => exact ⟨r1, L0, A0, c0, Int.le_refl _, by have := HL2.out.2; omega, rfl, rfl, HF0.out, O⟩
        case round =>
          clear O HF0
          obtain ⟨y, L, A, c, y0, y1, rfl, rfl, hF, O⟩ := hrel
          have hlen : L.length ≤ 1000 := FL.out x y L hF x0 hlx y1
          have HF := Lib.hid hF
          clear hF
          by_cases hly : y < r3
          · have hpx : DM.Rx x y := by
              have h := HL.out
              unfold DM.Rx
              omega
            obtain ⟨z, CN, CZ, FK, FI⟩ := CX.out x y hpx
            have b1 := HL.out
            have Wy : wrap64 (y + 1) = y + 1 := IntWalk.wrap64_in _ (by omega)
            clear b1 hpx
            cases z
            · have HK := Lib.hid (FK rfl L HF.out)
              clear CN FK FI
              go_wp2_with (first | ((with_reducible refine at_load 33 ?_); refine wpList_cell_h (v := .int .i64 (r3)) rfl O 1 rfl Cr3.out rfl agg3 rfl ?_) | ((with_reducible refine at_load 37 ?_); refine wpList_rowg_h rfl O 3 rfl rfl Try.underlying23 rfl (sP _) ?_) | ((with_reducible refine at_load 38 ?_); refine wpList_rowg_h rfl O 2 rfl rfl Try.underlying23 rfl (sP _) ?_) | (go_at_call 18; refine (CZ _).mono ?_; rintro e v1 ⟨rfl, hb⟩; replace O := O.call hb; clear hb))
              go_roundw
              case rel => exact ⟨y + 1, L, A, c, by omega, by omega, rfl, (by first | rfl | exact congrArg (Value.int IntKind.i64) Wy), HK.out, O⟩
              case measure => simp [intOf]; omega
            · replace CN := CN rfl
              replace FI := Lib.hid (FI rfl L HF.out y0)
              obtain ⟨Kn, hKn⟩ : ∃ Kn, NU x y = Kn := ⟨_, rfl⟩
              rw [hKn] at CN FI
              clear hKn FK
              cases t
              · simp only [Bool.not_false] at CW
                replace CN : ∀ w, Calls Try.prog 27 #[.agg (ln f g X Y E).toArray, .int .i64 x, .int .i64 y, .int .i64 x] w fun e w' => e = .returned (.int .i64 Kn) ∧ Below w.heap.size w w' := CN
                go_wp2_with (first | ((with_reducible refine at_load 33 ?_); refine wpList_cell_h (v := .int .i64 (r3)) rfl O 1 rfl Cr3.out rfl agg3 rfl ?_) | ((with_reducible refine at_load 37 ?_); refine wpList_rowg_h rfl O 3 rfl rfl Try.underlying23 rfl (sP _) ?_) | ((with_reducible refine at_load 38 ?_); refine wpList_rowg_h rfl O 2 rfl rfl Try.underlying23 rfl (sP _) ?_) | (go_at_call 18; refine (CZ _).mono ?_; rintro e v1 ⟨rfl, hb⟩; replace O := O.call hb; clear hb) | ((with_reducible refine at_load 44 ?_); refine wpList_rowg_h rfl O 3 rfl rfl Try.underlying23 rfl (sP _) ?_) | ((with_reducible refine at_load 45 ?_); refine wpList_rowg_h rfl O 2 rfl rfl Try.underlying23 rfl (sP _) ?_) | (go_at_call 26; refine (CW _).mono ?_; rintro e v2 ⟨rfl, hb⟩; replace O := O.call hb; clear hb) | ((with_reducible refine at_load 49 ?_); refine wpList_rowg_h rfl O 0 rfl rfl Try.underlying59 rfl (sL f g X Y E) ?_) | (go_at_call 27; refine (CN _).mono ?_; rintro e v3 ⟨rfl, hb⟩; replace O := O.call hb; clear hb) | ((with_reducible refine at_build 56 ?_); refine wpList_build_g rfl ([(0, .int .i64 Kn), (1, .int .i64 x), (2, .int .i64 y)]) ((M.mat 3 (DM.t3 Kn x y)).toArray) ?_ (builtT _ _ _) ?_; (focus (simp only [List.map_toArray, List.map_cons, List.map_nil]; rfl))) | ((with_reducible refine at_alloc 12 ?_); refine wpList_alloc_h O (M.mat 3 M.zero) zeroT ?_; clear O; intro g12 v4 O) | ((with_reducible refine at_store 12 ?_); refine wpList_put_h O 0 (M.mat 3 (DM.t3 Kn x y)) rfl rfl rfl (sT _) (M.mat_len2 _ _ _) (M.mat_one _ _) ?_; clear O; intro v5 O))
                have OO : Held w v5 ((g12, 34, M.mat 3 (DM.t3 Kn x y)) :: [(g8, 59, ln f g X Y E), (g5, 25, M.mat 4 r), (g4, 23, M.mat 2 b), (g3, 23, M.mat 2 a)]) (tR A c L) [] := O
                clear O
                have O := OO
                clear OO
                go_loopw [13] (fun t_ wr => ∃ k : Nat, k ≤ L.length ∧ t_ = .int .i64 k ∧ Hid (∀ i s, i < k → L[i]? = some s → s.1 < Kn) ∧ Held w wr ((g12, 34, M.mat 3 (DM.t3 Kn x y)) :: [(g8, 59, ln f g X Y E), (g5, 25, M.mat 4 r), (g4, 23, M.mat 2 b), (g3, 23, M.mat 2 a)]) (tR A c L) []) (fun t_ _ => L.length - (intOf t_).toNat)
                case atStart => exact ⟨0, Nat.zero_le _, rfl, Lib.hid (fun i s h => absurd h (Nat.not_lt_zero _)), O⟩
                case round =>
                  clear O
                  obtain ⟨k, hk, rfl, HB, O⟩ := hrel
                  have q0 : (0 : Int) ≤ k := by omega
                  have CK : Hid ((M.mat 3 (DM.t3 Kn x y))[0]? = some (.int .i64 Kn)) := cell_is (z := Kn) rfl (by decide)
                  have hcap := O.row_cap
                  by_cases hlk : k < L.length
                  · have q1 : (k : Int) < L.length := by omega
                    obtain ⟨s_, hx⟩ : ∃ s_, L[k]? = some s_ := ⟨_, List.getElem?_eq_getElem hlk⟩
                    obtain ⟨sk, hsk⟩ : ∃ sk, s_.1 = sk := ⟨_, rfl⟩
                    have HSK : Hid ((tE w.heap.size A c L).xs[k * 3]? = some (.int .i64 sk)) := Lib.hid (by
                      have := tC_at hx 0 (.int .i64 sk) (by rw [← hsk]; rfl)
                      exact this)
                    have HX := Lib.hid hx
                    by_cases hlt : sk < Kn
                    · have HLT : Hid (s_.1 < Kn) := Lib.hid (by rw [hsk]; exact hlt)
                      have hltb : decide (sk < Kn) = true := decide_eq_true hlt
                      have q1b : decide ((k : Int) < L.length) = true := decide_eq_true q1
                      clear hx hsk hlt q1
                      have OO := O
                      clear O
                      have O := OO
                      clear OO
                      go_wp2_with fail
                      refine region_T ((fun w2 => Held w w2 ((g12, 34, M.mat 3 (DM.t3 Kn x y)) :: [(g8, 59, ln f g X Y E), (g5, 25, M.mat 4 r), (g4, 23, M.mat 2 b), (g3, 23, M.mat 2 a)]) (tR A c L) [])) [0, 1, 2, 3, 4, 5, 6, 7, 8, 9, 10, 11, 12, 13] 12 [some 57, some 58, some 59, some 60, some 61, some 62, some 63, some 64, some 65, some 66, some 67, some 68, some 69, some 70] [.int .i64 k, .slice A L.length c, .int .i64 L.length, .bool true, .bool true, .slice A L.length c, .int .i64 k, .pointer (some ((adr A).add (k * 3))), .pointer (some ((adr A).add (k * 3))), .int .i64 sk, .pointer (some ⟨g12, 0, none⟩), .int .i64 Kn, .bool true, .bool true] 0 (by kernel_rfl) (by rfl) (by kernel_rfl) (by rfl) (by rfl) (O.drew) (fun F hF => ?_)
                      simp only [fillD, Act.put, List.setIfInBounds_toArray, List.set_cons_zero, List.set_cons_succ] at hF
                      subst hF
                      refine ⟨⟨does_want rfl (by rfl) (fun w' O K hK => ?_), does_want rfl (by rfl) (fun w' O K hK => ?_), does_want rfl (by rfl) (fun w' O K hK => ?_), does_want rfl (by rfl) (fun w' O K hK => ?_), does_want rfl (by rfl) (fun w' O K hK => ?_), does_want rfl (by rfl) (fun w' O K hK => ?_), does_want rfl (by rfl) (fun w' O K hK => ?_), does_want rfl (by rfl) (fun w' O K hK => ?_), does_want rfl (by rfl) (fun w' O K hK => ?_), does_want rfl (by rfl) (fun w' O K hK => ?_), does_want rfl (by rfl) (fun w' O K hK => ?_), does_want rfl (by rfl) (fun w' O K hK => ?_), does_want rfl (by rfl) (fun w' O K hK => ?_), does_want rfl (by rfl) (fun w' O K hK => ?_), trivial⟩, fun w' O => ?_⟩
                      · go_simp
                        exact hK _ O
                      · go_simp
                        exact hK _ O
                      · go_simp
                        exact hK _ O
                      · go_simp
                        exact hK _ O
                      · go_simp
                        exact hK _ O
                      · go_simp
                        exact hK _ O
                      · go_simp
                        exact hK _ O
                      · exact wp_at_h Try.underlying30 sizeOfT (tE w.heap.size A c L) O.row_ent rfl k rfl rfl (by omega) rfl (hK _ O)
                      · go_simp
                        exact hK _ O
                      · exact wp_ecell_h (tE w.heap.size A c L) O.row_ent (k * 3) (v := .int .i64 sk) HSK.out rfl agg3 rfl (hK _ O)
                      · go_simp
                        exact hK _ O
                      · exact wp_cell_h (v := .int .i64 (Kn)) O 0 rfl CK.out rfl agg3 rfl (hK _ O)
                      · go_simp
                        exact hK _ O
                      · go_simp
                        exact hK _ O
                      refine wpAny_done (by kernel_rfl) ?_ _
                      go_wp2_with fail
                      go_roundw
                      case rel => exact ⟨k + 1, by omega, by go_num, Lib.hid (fun i s hi hs => by
                        rcases (by omega : i < k ∨ i = k) with e | e
                        · exact HB.out i s e hs
                        · subst e
                          rw [HX.out] at hs
                          have := Option.some.inj hs
                          rw [← this]
                          exact HLT.out), O⟩
                      case measure => simp [intOf]; omega
                    · have HGE : Hid (∀ s, L[k]? = some s → ¬ s.1 < Kn) := Lib.hid (fun s h => by
                        rw [hx] at h
                        have := Option.some.inj h
                        rw [← this, hsk]
                        exact hlt)
                      have hltb : decide (sk < Kn) = false := decide_eq_false hlt
                      have q1b : decide ((k : Int) < L.length) = true := decide_eq_true q1
                      clear hx hsk hlt q1
                      have OO := O
                      clear O
                      have O := OO
                      clear OO
                      go_wp2_with fail
                      refine region_T ((fun w2 => Held w w2 ((g12, 34, M.mat 3 (DM.t3 Kn x y)) :: [(g8, 59, ln f g X Y E), (g5, 25, M.mat 4 r), (g4, 23, M.mat 2 b), (g3, 23, M.mat 2 a)]) (tR A c L) [])) [0, 1, 2, 3, 4, 5, 6, 7, 8, 9, 10, 11, 12, 13] 12 [some 57, some 58, some 59, some 60, some 61, some 62, some 63, some 64, some 65, some 66, some 67, some 68, some 69, some 70] [.int .i64 k, .slice A L.length c, .int .i64 L.length, .bool true, .bool true, .slice A L.length c, .int .i64 k, .pointer (some ((adr A).add (k * 3))), .pointer (some ((adr A).add (k * 3))), .int .i64 sk, .pointer (some ⟨g12, 0, none⟩), .int .i64 Kn, .bool false, .bool false] 0 (by kernel_rfl) (by rfl) (by kernel_rfl) (by rfl) (by rfl) (O.drew) (fun F hF => ?_)
                      simp only [fillD, Act.put, List.setIfInBounds_toArray, List.set_cons_zero, List.set_cons_succ] at hF
                      subst hF
                      refine ⟨⟨does_want rfl (by rfl) (fun w' O K hK => ?_), does_want rfl (by rfl) (fun w' O K hK => ?_), does_want rfl (by rfl) (fun w' O K hK => ?_), does_want rfl (by rfl) (fun w' O K hK => ?_), does_want rfl (by rfl) (fun w' O K hK => ?_), does_want rfl (by rfl) (fun w' O K hK => ?_), does_want rfl (by rfl) (fun w' O K hK => ?_), does_want rfl (by rfl) (fun w' O K hK => ?_), does_want rfl (by rfl) (fun w' O K hK => ?_), does_want rfl (by rfl) (fun w' O K hK => ?_), does_want rfl (by rfl) (fun w' O K hK => ?_), does_want rfl (by rfl) (fun w' O K hK => ?_), does_want rfl (by rfl) (fun w' O K hK => ?_), does_want rfl (by rfl) (fun w' O K hK => ?_), trivial⟩, fun w' O => ?_⟩
                      · go_simp
                        exact hK _ O
                      · go_simp
                        exact hK _ O
                      · go_simp
                        exact hK _ O
                      · go_simp
                        exact hK _ O
                      · go_simp
                        exact hK _ O
                      · go_simp
                        exact hK _ O
                      · go_simp
                        exact hK _ O
                      · exact wp_at_h Try.underlying30 sizeOfT (tE w.heap.size A c L) O.row_ent rfl k rfl rfl (by omega) rfl (hK _ O)
                      · go_simp
                        exact hK _ O
                      · exact wp_ecell_h (tE w.heap.size A c L) O.row_ent (k * 3) (v := .int .i64 sk) HSK.out rfl agg3 rfl (hK _ O)
                      · go_simp
                        exact hK _ O
                      · exact wp_cell_h (v := .int .i64 (Kn)) O 0 rfl CK.out rfl agg3 rfl (hK _ O)
                      · go_simp
                        exact hK _ O
                      · go_simp
                        exact hK _ O
                      refine wpAny_done (by kernel_rfl) ?_ _
                      obtain ⟨B, hB⟩ : ∃ B, (if c = k then A else A.map (·.add (k * 3))) = B := ⟨_, rfl⟩
                      obtain ⟨m, hm⟩ : ∃ m, L.length - k = m := ⟨_, rfl⟩
                      obtain ⟨cc, hcc⟩ : ∃ cc, c - k = cc := ⟨_, rfl⟩
                      have LP := part_ent O.row_ent hk hB hcc
                      have hml : (L.drop k).length = m := by rw [List.length_drop]; exact hm
                      have HB2 := Lib.hid hB
                      clear hB
                      have OL := Held.start _ [tE w.heap.size B cc (L.drop k)] (fun x_ hx_ => by
                        rw [List.mem_singleton] at hx_
                        rw [hx_]
                        exact LP)
                      go_wp2_with (first | ((with_reducible refine at_lit 73 ?_); refine wpList_none_h rfl OL 3 infoTs Try.underlying30 ?_; clear OL; intro z73 v6 OL) | ((with_reducible refine at_part 76 ?_); refine wpList_part_lo Try.underlying30 sizeOfT rfl k rfl hk HB2.out hm hcc ?_) | ((with_reducible refine at_app 77 ?_); refine wpList_app_big rfl OL (.agg (M.mat 3 M.zero).toArray) 24 infoTb rfl (Nat.succ_pos _) Try.underlying30 rfl (tE w.heap.size B cc (L.drop k)) (OL.mem List.mem_cons_self) rfl (c := cc) (by dsimp only [tE]; rw [hml]; rfl) (tC_one _) (by dsimp only [tE]; omega) (by decide) ?_; clear OL; intro z77 v7 OL))
                      obtain ⟨A7, c7, hv7, O7⟩ := tR_of (l := []) (m := L.drop k) (n := 0 + (L.drop k).length) (by rw [List.length_nil]) OL
                      rw [List.nil_append] at hv7 O7
                      subst hv7
                      have L7 := O7.row_ent
                      have O2 := O.gain O7.below L7
                      clear O OL O7 L7 LP
                      have O := O2.cut hk
                      clear O2
                      rw [hml]
                      have htk : (L.take k).length = k := by rw [List.length_take]; omega
                      refine region_S (fun st w2 => LaS w ((g12, 34, M.mat 3 (DM.t3 Kn x y)) :: [(g8, 59, ln f g X Y E), (g5, 25, M.mat 4 r), (g4, 23, M.mat 2 b), (g3, 23, M.mat 2 a)]) (tR A c (L.take k)) 1 (tC [(Kn, x, y)]) [⟨w.heap.size, A7, (L.drop k).length, c7, 3, tC (L.drop k)⟩] (st 4) (st 5) w2) [4, 5] 12 7 [some 78, some 79, some 80, some 81, some 82, some 83, some 84] (fun g => [.slice A L.length c, .int .i64 k, .slice A k c, arr 3 (DM.t3 Kn x y), g 4, g 5, .slice A7 m c7]) 2 (by kernel_rfl) (by kernel_rfl) (by rfl) (by rfl) (fun _ => rfl) (by decide) ?_ (LaS.start O.drew) (fun F hF => ?_)
                      · intro i hi
                        simp only [List.mem_cons, List.not_mem_nil, or_false] at hi
                        rcases hi with rfl | rfl
                        · exact ⟨fun _ => rfl, [0, 1, 2, 3, 5, 6], by kernel_rfl, fun g v => ⟨rfl, rfl, rfl, rfl, rfl, rfl, trivial⟩⟩
                        · exact ⟨fun _ => rfl, [0, 1, 2, 3, 4, 6], by kernel_rfl, fun g v => ⟨rfl, rfl, rfl, rfl, rfl, rfl, trivial⟩⟩
                      simp only [fillD, Act.put, List.setIfInBounds_toArray, List.set_cons_zero, List.set_cons_succ] at hF
                      have hF2 := funext hF
                      clear hF
                      subst hF2
                      refine ⟨⟨doesN_want (by decide) rfl (fun g => rfl) (fun st w' hS hp K hK => ?_), doesN_want (by decide) rfl (fun g => rfl) (fun st w' hS hp K hK => ?_), doesN_want (by decide) rfl (fun g => rfl) (fun st w' hS hp K hK => ?_), doesN_want (by decide) rfl (fun g => rfl) (fun st w' hS hp K hK => ?_), doesC_want (by decide) rfl (fun g => rfl) (fun st w' hS hn hp K hK => ?_), doesC_want (by decide) rfl (fun g => rfl) (fun st w' hS hn hp K hK => ?_), doesN_want (by decide) rfl (fun g => rfl) (fun st w' hS hp K hK => ?_), trivial⟩, fun st w' hS hall => ?_⟩
                      · try dsimp only
                        go_simp
                        exact hK _ hS
                      · try dsimp only
                        go_simp
                        exact hK _ hS
                      · try dsimp only
                        exact wp_part_hi Try.underlying30 sizeOfT rfl k rfl (by omega) (hK _ hS)
                      · try dsimp only
                        obtain ⟨R_, hR_⟩ := hS.held
                        exact wp_row_h hR_ 0 rfl rfl Try.underlying34 rfl (sT _) (hK _ hS)
                      · try dsimp only
                        rw [hn] at hS
                        exact hS.lit (.agg (M.mat 3 M.zero).toArray) infoT Try.underlying30 [(0, arr 3 (DM.t3 Kn x y))] rfl (tC_len _) (show 0 < 1 * 3 by decide) (show 1 * 3 ≤ 1000 by decide) (by kernel_rfl) hK
                      · try dsimp only
                        rw [hn] at hS
                        exact hS.app (hp 4 (by decide) (by kernel_rfl)) (.agg (M.mat 3 M.zero).toArray) 24 infoTb rfl (Nat.succ_pos _) Try.underlying30 (by show Value.slice A k c = Value.slice A (L.take k).length c; rw [htk]) rfl (tC_one _) (by dsimp only [tR]; omega) (by decide) hK
                      · try dsimp only
                        go_simp
                        exact hK _ hS
                      try dsimp only
                      obtain ⟨zv, A8, c8, hz4, hz5, O8⟩ := hS.done (hall 4 (by decide)) (hall 5 (by decide))
                      clear hS O
                      have O := O8
                      clear O8
                      simp only [seen, hz4, hz5, Option.getD_some]
                      clear hall hz4 hz5
                      refine wpAny_want (i := 7) (by kernel_rfl) rfl (by rfl) (fun K hK => ?_)
                      refine wp_app_big O (.agg (M.mat 3 M.zero).toArray) 24 infoTb rfl (Nat.succ_pos _) Try.underlying30 rfl ⟨w.heap.size, A7, (L.drop k).length, c7, 3, tC (L.drop k)⟩ (O.mem List.mem_cons_self) rfl (c := c7) (by dsimp only; rw [hml]; rfl) (tC_one _) (by dsimp only [tR]; omega) (by decide) fun z85 v8 O9 => hK _ _ ?_
                      clear O
                      have O := O9
                      clear O9
                      clear hK K
                      try simp only [Act.put, List.setIfInBounds_toArray, List.set_cons_zero, List.set_cons_succ]
                      refine wpAny_one (i := 8) (by kernel_rfl) rfl (fun K hK => ?_)
                      go_simp
                      refine hK _ _ ?_
                      clear hK K
                      try simp only [Act.put, List.setIfInBounds_toArray, List.set_cons_zero, List.set_cons_succ]
                      refine wpAny_done (by kernel_rfl) ?_ _
                      have O8_ : Held w v8 ((g12, 34, M.mat 3 (DM.t3 Kn x y)) :: [(g8, 59, ln f g X Y E), (g5, 25, M.mat 4 r), (g4, 23, M.mat 2 b), (g3, 23, M.mat 2 a)]) ⟨z85, 34, 3, (L.take k).length + 1 + (L.drop k).length, tC (L.take k ++ [(Kn, x, y)]) ++ tC (L.drop k)⟩ [⟨w.heap.size, A7, (L.drop k).length, c7, 3, tC (L.drop k)⟩] := by
                        rw [tC_app]
                        exact O
                      obtain ⟨A9, c9, hv9, O9⟩ := tR_of (by rw [List.length_append]; rfl) O8_
                      clear O8_
                      subst hv9
                      clear O
                      have O := (O9.tail).pick (es' := []) (fun y hy => absurd hy (by simp))
                      clear O9
                      have HN := Lib.hid (FI.out k hk HB.out HGE.out)
                      go_wp2_with fail
                      go_roundw
                      case rel => exact ⟨y + 1, L.take k ++ [(Kn, x, y)] ++ L.drop k, A9, c9, by omega, by omega, rfl, (by first | rfl | exact congrArg (Value.int IntKind.i64) Wy), HN.out, O⟩
                      case measure => simp [intOf]; omega
                  · have q1 : ¬ (k : Int) < L.length := by omega
                    have HGE : Hid (∀ s, L[k]? = some s → ¬ s.1 < Kn) := Lib.hid (fun s h => by
                      rw [List.getElem?_eq_none (by omega)] at h
                      cases h)
                    have q1b : decide ((k : Int) < L.length) = false := decide_eq_false q1
                    clear q1
                    have OO := O
                    clear O
                    have O := OO
                    clear OO
                    go_wp2_with fail
                    refine region_T ((fun w2 => Held w w2 ((g12, 34, M.mat 3 (DM.t3 Kn x y)) :: [(g8, 59, ln f g X Y E), (g5, 25, M.mat 4 r), (g4, 23, M.mat 2 b), (g3, 23, M.mat 2 a)]) (tR A c L) [])) [0, 1, 2, 3, 4, 5, 6, 7, 8, 9, 10, 11, 12, 13] 12 [some 57, some 58, some 59, some 60, some 61, some 62, some 63, some 64, some 65, some 66, some 67, some 68, some 69, some 70] [.int .i64 k, .slice A L.length c, .int .i64 L.length, .bool false, .bool false, undef, undef, undef, undef, undef, undef, undef, undef, .bool false] 0 (by kernel_rfl) (by rfl) (by kernel_rfl) (by rfl) (by rfl) (O.drew) (fun F hF => ?_)
                    simp only [fillD, Act.put, List.setIfInBounds_toArray, List.set_cons_zero, List.set_cons_succ] at hF
                    subst hF
                    refine ⟨⟨does_want rfl (by rfl) (fun w' O K hK => ?_), does_want rfl (by rfl) (fun w' O K hK => ?_), does_want rfl (by rfl) (fun w' O K hK => ?_), does_want rfl (by rfl) (fun w' O K hK => ?_), does_want rfl (by rfl) (fun w' O K hK => ?_), does_skip rfl (by rfl), does_skip rfl (by rfl), does_skip rfl (by rfl), does_skip rfl (by rfl), does_skip rfl (by rfl), does_skip rfl (by rfl), does_skip rfl (by rfl), does_skip rfl (by rfl), does_want rfl (by rfl) (fun w' O K hK => ?_), trivial⟩, fun w' O => ?_⟩
                    · go_simp
                      exact hK _ O
                    · go_simp
                      exact hK _ O
                    · go_simp
                      exact hK _ O
                    · go_simp
                      exact hK _ O
                    · go_simp
                      exact hK _ O
                    · go_simp
                      exact hK _ O
                    refine wpAny_done (by kernel_rfl) ?_ _
                    obtain ⟨B, hB⟩ : ∃ B, (if c = k then A else A.map (·.add (k * 3))) = B := ⟨_, rfl⟩
                    obtain ⟨m, hm⟩ : ∃ m, L.length - k = m := ⟨_, rfl⟩
                    obtain ⟨cc, hcc⟩ : ∃ cc, c - k = cc := ⟨_, rfl⟩
                    have LP := part_ent O.row_ent hk hB hcc
                    have hml : (L.drop k).length = m := by rw [List.length_drop]; exact hm
                    have HB2 := Lib.hid hB
                    clear hB
                    have OL := Held.start _ [tE w.heap.size B cc (L.drop k)] (fun x_ hx_ => by
                      rw [List.mem_singleton] at hx_
                      rw [hx_]
                      exact LP)
                    go_wp2_with (first | ((with_reducible refine at_lit 73 ?_); refine wpList_none_h rfl OL 3 infoTs Try.underlying30 ?_; clear OL; intro z73 v6 OL) | ((with_reducible refine at_part 76 ?_); refine wpList_part_lo Try.underlying30 sizeOfT rfl k rfl hk HB2.out hm hcc ?_) | ((with_reducible refine at_app 77 ?_); refine wpList_app_big rfl OL (.agg (M.mat 3 M.zero).toArray) 24 infoTb rfl (Nat.succ_pos _) Try.underlying30 rfl (tE w.heap.size B cc (L.drop k)) (OL.mem List.mem_cons_self) rfl (c := cc) (by dsimp only [tE]; rw [hml]; rfl) (tC_one _) (by dsimp only [tE]; omega) (by decide) ?_; clear OL; intro z77 v7 OL))
                    obtain ⟨A7, c7, hv7, O7⟩ := tR_of (l := []) (m := L.drop k) (n := 0 + (L.drop k).length) (by rw [List.length_nil]) OL
                    rw [List.nil_append] at hv7 O7
                    subst hv7
                    have L7 := O7.row_ent
                    have O2 := O.gain O7.below L7
                    clear O OL O7 L7 LP
                    have O := O2.cut hk
                    clear O2
                    rw [hml]
                    have htk : (L.take k).length = k := by rw [List.length_take]; omega
                    refine region_S (fun st w2 => LaS w ((g12, 34, M.mat 3 (DM.t3 Kn x y)) :: [(g8, 59, ln f g X Y E), (g5, 25, M.mat 4 r), (g4, 23, M.mat 2 b), (g3, 23, M.mat 2 a)]) (tR A c (L.take k)) 1 (tC [(Kn, x, y)]) [⟨w.heap.size, A7, (L.drop k).length, c7, 3, tC (L.drop k)⟩] (st 4) (st 5) w2) [4, 5] 12 7 [some 78, some 79, some 80, some 81, some 82, some 83, some 84] (fun g => [.slice A L.length c, .int .i64 k, .slice A k c, arr 3 (DM.t3 Kn x y), g 4, g 5, .slice A7 m c7]) 2 (by kernel_rfl) (by kernel_rfl) (by rfl) (by rfl) (fun _ => rfl) (by decide) ?_ (LaS.start O.drew) (fun F hF => ?_)
                    · intro i hi
                      simp only [List.mem_cons, List.not_mem_nil, or_false] at hi
                      rcases hi with rfl | rfl
                      · exact ⟨fun _ => rfl, [0, 1, 2, 3, 5, 6], by kernel_rfl, fun g v => ⟨rfl, rfl, rfl, rfl, rfl, rfl, trivial⟩⟩
                      · exact ⟨fun _ => rfl, [0, 1, 2, 3, 4, 6], by kernel_rfl, fun g v => ⟨rfl, rfl, rfl, rfl, rfl, rfl, trivial⟩⟩
                    simp only [fillD, Act.put, List.setIfInBounds_toArray, List.set_cons_zero, List.set_cons_succ] at hF
                    have hF2 := funext hF
                    clear hF
                    subst hF2
                    refine ⟨⟨doesN_want (by decide) rfl (fun g => rfl) (fun st w' hS hp K hK => ?_), doesN_want (by decide) rfl (fun g => rfl) (fun st w' hS hp K hK => ?_), doesN_want (by decide) rfl (fun g => rfl) (fun st w' hS hp K hK => ?_), doesN_want (by decide) rfl (fun g => rfl) (fun st w' hS hp K hK => ?_), doesC_want (by decide) rfl (fun g => rfl) (fun st w' hS hn hp K hK => ?_), doesC_want (by decide) rfl (fun g => rfl) (fun st w' hS hn hp K hK => ?_), doesN_want (by decide) rfl (fun g => rfl) (fun st w' hS hp K hK => ?_), trivial⟩, fun st w' hS hall => ?_⟩
                    · try dsimp only
                      go_simp
                      exact hK _ hS
                    · try dsimp only
                      go_simp
                      exact hK _ hS
                    · try dsimp only
                      exact wp_part_hi Try.underlying30 sizeOfT rfl k rfl (by omega) (hK _ hS)
                    · try dsimp only
                      obtain ⟨R_, hR_⟩ := hS.held
                      exact wp_row_h hR_ 0 rfl rfl Try.underlying34 rfl (sT _) (hK _ hS)
                    · try dsimp only
                      rw [hn] at hS
                      exact hS.lit (.agg (M.mat 3 M.zero).toArray) infoT Try.underlying30 [(0, arr 3 (DM.t3 Kn x y))] rfl (tC_len _) (show 0 < 1 * 3 by decide) (show 1 * 3 ≤ 1000 by decide) (by kernel_rfl) hK
                    · try dsimp only
                      rw [hn] at hS
                      exact hS.app (hp 4 (by decide) (by kernel_rfl)) (.agg (M.mat 3 M.zero).toArray) 24 infoTb rfl (Nat.succ_pos _) Try.underlying30 (by show Value.slice A k c = Value.slice A (L.take k).length c; rw [htk]) rfl (tC_one _) (by dsimp only [tR]; omega) (by decide) hK
                    · try dsimp only
                      go_simp
                      exact hK _ hS
                    try dsimp only
                    obtain ⟨zv, A8, c8, hz4, hz5, O8⟩ := hS.done (hall 4 (by decide)) (hall 5 (by decide))
                    clear hS O
                    have O := O8
                    clear O8
                    simp only [seen, hz4, hz5, Option.getD_some]
                    clear hall hz4 hz5
                    refine wpAny_want (i := 7) (by kernel_rfl) rfl (by rfl) (fun K hK => ?_)
                    refine wp_app_big O (.agg (M.mat 3 M.zero).toArray) 24 infoTb rfl (Nat.succ_pos _) Try.underlying30 rfl ⟨w.heap.size, A7, (L.drop k).length, c7, 3, tC (L.drop k)⟩ (O.mem List.mem_cons_self) rfl (c := c7) (by dsimp only; rw [hml]; rfl) (tC_one _) (by dsimp only [tR]; omega) (by decide) fun z85 v8 O9 => hK _ _ ?_
                    clear O
                    have O := O9
                    clear O9
                    clear hK K
                    try simp only [Act.put, List.setIfInBounds_toArray, List.set_cons_zero, List.set_cons_succ]
                    refine wpAny_one (i := 8) (by kernel_rfl) rfl (fun K hK => ?_)
                    go_simp
                    refine hK _ _ ?_
                    clear hK K
                    try simp only [Act.put, List.setIfInBounds_toArray, List.set_cons_zero, List.set_cons_succ]
                    refine wpAny_done (by kernel_rfl) ?_ _
                    have O8_ : Held w v8 ((g12, 34, M.mat 3 (DM.t3 Kn x y)) :: [(g8, 59, ln f g X Y E), (g5, 25, M.mat 4 r), (g4, 23, M.mat 2 b), (g3, 23, M.mat 2 a)]) ⟨z85, 34, 3, (L.take k).length + 1 + (L.drop k).length, tC (L.take k ++ [(Kn, x, y)]) ++ tC (L.drop k)⟩ [⟨w.heap.size, A7, (L.drop k).length, c7, 3, tC (L.drop k)⟩] := by
                      rw [tC_app]
                      exact O
                    obtain ⟨A9, c9, hv9, O9⟩ := tR_of (by rw [List.length_append]; rfl) O8_
                    clear O8_
                    subst hv9
                    clear O
                    have O := (O9.tail).pick (es' := []) (fun y hy => absurd hy (by simp))
                    clear O9
                    have HN := Lib.hid (FI.out k hk HB.out HGE.out)
                    go_wp2_with fail
                    go_roundw
                    case rel => exact ⟨y + 1, L.take k ++ [(Kn, x, y)] ++ L.drop k, A9, c9, by omega, by omega, rfl, (by first | rfl | exact congrArg (Value.int IntKind.i64) Wy), HN.out, O⟩
                    case measure => simp [intOf]; omega
              · simp only [Bool.not_true] at CW
                replace CN : ∀ w, Calls Try.prog 27 #[.agg (ln f g X Y E).toArray, .int .i64 x, .int .i64 y, .int .i64 y] w fun e w' => e = .returned (.int .i64 Kn) ∧ Below w.heap.size w w' := CN
                go_wp2_with (first | ((with_reducible refine at_load 33 ?_); refine wpList_cell_h (v := .int .i64 (r3)) rfl O 1 rfl Cr3.out rfl agg3 rfl ?_) | ((with_reducible refine at_load 37 ?_); refine wpList_rowg_h rfl O 3 rfl rfl Try.underlying23 rfl (sP _) ?_) | ((with_reducible refine at_load 38 ?_); refine wpList_rowg_h rfl O 2 rfl rfl Try.underlying23 rfl (sP _) ?_) | (go_at_call 18; refine (CZ _).mono ?_; rintro e v1 ⟨rfl, hb⟩; replace O := O.call hb; clear hb) | ((with_reducible refine at_load 44 ?_); refine wpList_rowg_h rfl O 3 rfl rfl Try.underlying23 rfl (sP _) ?_) | ((with_reducible refine at_load 45 ?_); refine wpList_rowg_h rfl O 2 rfl rfl Try.underlying23 rfl (sP _) ?_) | (go_at_call 26; refine (CW _).mono ?_; rintro e v2 ⟨rfl, hb⟩; replace O := O.call hb; clear hb) | ((with_reducible refine at_load 49 ?_); refine wpList_rowg_h rfl O 0 rfl rfl Try.underlying59 rfl (sL f g X Y E) ?_) | (go_at_call 27; refine (CN _).mono ?_; rintro e v3 ⟨rfl, hb⟩; replace O := O.call hb; clear hb) | ((with_reducible refine at_build 56 ?_); refine wpList_build_g rfl ([(0, .int .i64 Kn), (1, .int .i64 x), (2, .int .i64 y)]) ((M.mat 3 (DM.t3 Kn x y)).toArray) ?_ (builtT _ _ _) ?_; (focus (simp only [List.map_toArray, List.map_cons, List.map_nil]; rfl))) | ((with_reducible refine at_alloc 12 ?_); refine wpList_alloc_h O (M.mat 3 M.zero) zeroT ?_; clear O; intro g12 v4 O) | ((with_reducible refine at_store 12 ?_); refine wpList_put_h O 0 (M.mat 3 (DM.t3 Kn x y)) rfl rfl rfl (sT _) (M.mat_len2 _ _ _) (M.mat_one _ _) ?_; clear O; intro v5 O))
                have OO : Held w v5 ((g12, 34, M.mat 3 (DM.t3 Kn x y)) :: [(g8, 59, ln f g X Y E), (g5, 25, M.mat 4 r), (g4, 23, M.mat 2 b), (g3, 23, M.mat 2 a)]) (tR A c L) [] := O
                clear O
                have O := OO
                clear OO
                go_loopw [13] (fun t_ wr => ∃ k : Nat, k ≤ L.length ∧ t_ = .int .i64 k ∧ Hid (∀ i s, i < k → L[i]? = some s → s.1 < Kn) ∧ Held w wr ((g12, 34, M.mat 3 (DM.t3 Kn x y)) :: [(g8, 59, ln f g X Y E), (g5, 25, M.mat 4 r), (g4, 23, M.mat 2 b), (g3, 23, M.mat 2 a)]) (tR A c L) []) (fun t_ _ => L.length - (intOf t_).toNat)
                case atStart => exact ⟨0, Nat.zero_le _, rfl, Lib.hid (fun i s h => absurd h (Nat.not_lt_zero _)), O⟩
                case round =>
                  clear O
                  obtain ⟨k, hk, rfl, HB, O⟩ := hrel
                  have q0 : (0 : Int) ≤ k := by omega
                  have CK : Hid ((M.mat 3 (DM.t3 Kn x y))[0]? = some (.int .i64 Kn)) := cell_is (z := Kn) rfl (by decide)
                  have hcap := O.row_cap
                  by_cases hlk : k < L.length
                  · have q1 : (k : Int) < L.length := by omega
                    obtain ⟨s_, hx⟩ : ∃ s_, L[k]? = some s_ := ⟨_, List.getElem?_eq_getElem hlk⟩
                    obtain ⟨sk, hsk⟩ : ∃ sk, s_.1 = sk := ⟨_, rfl⟩
                    have HSK : Hid ((tE w.heap.size A c L).xs[k * 3]? = some (.int .i64 sk)) := Lib.hid (by
                      have := tC_at hx 0 (.int .i64 sk) (by rw [← hsk]; rfl)
                      exact this)
                    have HX := Lib.hid hx
                    by_cases hlt : sk < Kn
                    · have HLT : Hid (s_.1 < Kn) := Lib.hid (by rw [hsk]; exact hlt)
                      have hltb : decide (sk < Kn) = true := decide_eq_true hlt
                      have q1b : decide ((k : Int) < L.length) = true := decide_eq_true q1
                      clear hx hsk hlt q1
                      have OO := O
                      clear O
                      have O := OO
                      clear OO
                      go_wp2_with fail
                      refine region_T ((fun w2 => Held w w2 ((g12, 34, M.mat 3 (DM.t3 Kn x y)) :: [(g8, 59, ln f g X Y E), (g5, 25, M.mat 4 r), (g4, 23, M.mat 2 b), (g3, 23, M.mat 2 a)]) (tR A c L) [])) [0, 1, 2, 3, 4, 5, 6, 7, 8, 9, 10, 11, 12, 13] 12 [some 57, some 58, some 59, some 60, some 61, some 62, some 63, some 64, some 65, some 66, some 67, some 68, some 69, some 70] [.int .i64 k, .slice A L.length c, .int .i64 L.length, .bool true, .bool true, .slice A L.length c, .int .i64 k, .pointer (some ((adr A).add (k * 3))), .pointer (some ((adr A).add (k * 3))), .int .i64 sk, .pointer (some ⟨g12, 0, none⟩), .int .i64 Kn, .bool true, .bool true] 0 (by kernel_rfl) (by rfl) (by kernel_rfl) (by rfl) (by rfl) (O.drew) (fun F hF => ?_)
                      simp only [fillD, Act.put, List.setIfInBounds_toArray, List.set_cons_zero, List.set_cons_succ] at hF
                      subst hF
                      refine ⟨⟨does_want rfl (by rfl) (fun w' O K hK => ?_), does_want rfl (by rfl) (fun w' O K hK => ?_), does_want rfl (by rfl) (fun w' O K hK => ?_), does_want rfl (by rfl) (fun w' O K hK => ?_), does_want rfl (by rfl) (fun w' O K hK => ?_), does_want rfl (by rfl) (fun w' O K hK => ?_), does_want rfl (by rfl) (fun w' O K hK => ?_), does_want rfl (by rfl) (fun w' O K hK => ?_), does_want rfl (by rfl) (fun w' O K hK => ?_), does_want rfl (by rfl) (fun w' O K hK => ?_), does_want rfl (by rfl) (fun w' O K hK => ?_), does_want rfl (by rfl) (fun w' O K hK => ?_), does_want rfl (by rfl) (fun w' O K hK => ?_), does_want rfl (by rfl) (fun w' O K hK => ?_), trivial⟩, fun w' O => ?_⟩
                      · go_simp
                        exact hK _ O
                      · go_simp
                        exact hK _ O
                      · go_simp
                        exact hK _ O
                      · go_simp
                        exact hK _ O
                      · go_simp
                        exact hK _ O
                      · go_simp
                        exact hK _ O
                      · go_simp
                        exact hK _ O
                      · exact wp_at_h Try.underlying30 sizeOfT (tE w.heap.size A c L) O.row_ent rfl k rfl rfl (by omega) rfl (hK _ O)
                      · go_simp
                        exact hK _ O
                      · exact wp_ecell_h (tE w.heap.size A c L) O.row_ent (k * 3) (v := .int .i64 sk) HSK.out rfl agg3 rfl (hK _ O)
                      · go_simp
                        exact hK _ O
                      · exact wp_cell_h (v := .int .i64 (Kn)) O 0 rfl CK.out rfl agg3 rfl (hK _ O)
                      · go_simp
                        exact hK _ O
                      · go_simp
                        exact hK _ O
                      refine wpAny_done (by kernel_rfl) ?_ _
                      go_wp2_with fail
                      go_roundw
                      case rel => exact ⟨k + 1, by omega, by go_num, Lib.hid (fun i s hi hs => by
                        rcases (by omega : i < k ∨ i = k) with e | e
                        · exact HB.out i s e hs
                        · subst e
                          rw [HX.out] at hs
                          have := Option.some.inj hs
                          rw [← this]
                          exact HLT.out), O⟩
                      case measure => simp [intOf]; omega
                    · have HGE : Hid (∀ s, L[k]? = some s → ¬ s.1 < Kn) := Lib.hid (fun s h => by
                        rw [hx] at h
                        have := Option.some.inj h
                        rw [← this, hsk]
                        exact hlt)
                      have hltb : decide (sk < Kn) = false := decide_eq_false hlt
                      have q1b : decide ((k : Int) < L.length) = true := decide_eq_true q1
                      clear hx hsk hlt q1
                      have OO := O
                      clear O
                      have O := OO
                      clear OO
                      go_wp2_with fail
                      refine region_T ((fun w2 => Held w w2 ((g12, 34, M.mat 3 (DM.t3 Kn x y)) :: [(g8, 59, ln f g X Y E), (g5, 25, M.mat 4 r), (g4, 23, M.mat 2 b), (g3, 23, M.mat 2 a)]) (tR A c L) [])) [0, 1, 2, 3, 4, 5, 6, 7, 8, 9, 10, 11, 12, 13] 12 [some 57, some 58, some 59, some 60, some 61, some 62, some 63, some 64, some 65, some 66, some 67, some 68, some 69, some 70] [.int .i64 k, .slice A L.length c, .int .i64 L.length, .bool true, .bool true, .slice A L.length c, .int .i64 k, .pointer (some ((adr A).add (k * 3))), .pointer (some ((adr A).add (k * 3))), .int .i64 sk, .pointer (some ⟨g12, 0, none⟩), .int .i64 Kn, .bool false, .bool false] 0 (by kernel_rfl) (by rfl) (by kernel_rfl) (by rfl) (by rfl) (O.drew) (fun F hF => ?_)
                      simp only [fillD, Act.put, List.setIfInBounds_toArray, List.set_cons_zero, List.set_cons_succ] at hF
                      subst hF
                      refine ⟨⟨does_want rfl (by rfl) (fun w' O K hK => ?_), does_want rfl (by rfl) (fun w' O K hK => ?_), does_want rfl (by rfl) (fun w' O K hK => ?_), does_want rfl (by rfl) (fun w' O K hK => ?_), does_want rfl (by rfl) (fun w' O K hK => ?_), does_want rfl (by rfl) (fun w' O K hK => ?_), does_want rfl (by rfl) (fun w' O K hK => ?_), does_want rfl (by rfl) (fun w' O K hK => ?_), does_want rfl (by rfl) (fun w' O K hK => ?_), does_want rfl (by rfl) (fun w' O K hK => ?_), does_want rfl (by rfl) (fun w' O K hK => ?_), does_want rfl (by rfl) (fun w' O K hK => ?_), does_want rfl (by rfl) (fun w' O K hK => ?_), does_want rfl (by rfl) (fun w' O K hK => ?_), trivial⟩, fun w' O => ?_⟩
                      · go_simp
                        exact hK _ O
                      · go_simp
                        exact hK _ O
                      · go_simp
                        exact hK _ O
                      · go_simp
                        exact hK _ O
                      · go_simp
                        exact hK _ O
                      · go_simp
                        exact hK _ O
                      · go_simp
                        exact hK _ O
                      · exact wp_at_h Try.underlying30 sizeOfT (tE w.heap.size A c L) O.row_ent rfl k rfl rfl (by omega) rfl (hK _ O)
                      · go_simp
                        exact hK _ O
                      · exact wp_ecell_h (tE w.heap.size A c L) O.row_ent (k * 3) (v := .int .i64 sk) HSK.out rfl agg3 rfl (hK _ O)
                      · go_simp
                        exact hK _ O
                      · exact wp_cell_h (v := .int .i64 (Kn)) O 0 rfl CK.out rfl agg3 rfl (hK _ O)
                      · go_simp
                        exact hK _ O
                      · go_simp
                        exact hK _ O
                      refine wpAny_done (by kernel_rfl) ?_ _
                      obtain ⟨B, hB⟩ : ∃ B, (if c = k then A else A.map (·.add (k * 3))) = B := ⟨_, rfl⟩
                      obtain ⟨m, hm⟩ : ∃ m, L.length - k = m := ⟨_, rfl⟩
                      obtain ⟨cc, hcc⟩ : ∃ cc, c - k = cc := ⟨_, rfl⟩
                      have LP := part_ent O.row_ent hk hB hcc
                      have hml : (L.drop k).length = m := by rw [List.length_drop]; exact hm
                      have HB2 := Lib.hid hB
                      clear hB
                      have OL := Held.start _ [tE w.heap.size B cc (L.drop k)] (fun x_ hx_ => by
                        rw [List.mem_singleton] at hx_
                        rw [hx_]
                        exact LP)
                      go_wp2_with (first | ((with_reducible refine at_lit 73 ?_); refine wpList_none_h rfl OL 3 infoTs Try.underlying30 ?_; clear OL; intro z73 v6 OL) | ((with_reducible refine at_part 76 ?_); refine wpList_part_lo Try.underlying30 sizeOfT rfl k rfl hk HB2.out hm hcc ?_) | ((with_reducible refine at_app 77 ?_); refine wpList_app_big rfl OL (.agg (M.mat 3 M.zero).toArray) 24 infoTb rfl (Nat.succ_pos _) Try.underlying30 rfl (tE w.heap.size B cc (L.drop k)) (OL.mem List.mem_cons_self) rfl (c := cc) (by dsimp only [tE]; rw [hml]; rfl) (tC_one _) (by dsimp only [tE]; omega) (by decide) ?_; clear OL; intro z77 v7 OL))
                      obtain ⟨A7, c7, hv7, O7⟩ := tR_of (l := []) (m := L.drop k) (n := 0 + (L.drop k).length) (by rw [List.length_nil]) OL
                      rw [List.nil_append] at hv7 O7
                      subst hv7
                      have L7 := O7.row_ent
                      have O2 := O.gain O7.below L7
                      clear O OL O7 L7 LP
                      have O := O2.cut hk
                      clear O2
                      rw [hml]
                      have htk : (L.take k).length = k := by rw [List.length_take]; omega
                      refine region_S (fun st w2 => LaS w ((g12, 34, M.mat 3 (DM.t3 Kn x y)) :: [(g8, 59, ln f g X Y E), (g5, 25, M.mat 4 r), (g4, 23, M.mat 2 b), (g3, 23, M.mat 2 a)]) (tR A c (L.take k)) 1 (tC [(Kn, x, y)]) [⟨w.heap.size, A7, (L.drop k).length, c7, 3, tC (L.drop k)⟩] (st 4) (st 5) w2) [4, 5] 12 7 [some 78, some 79, some 80, some 81, some 82, some 83, some 84] (fun g => [.slice A L.length c, .int .i64 k, .slice A k c, arr 3 (DM.t3 Kn x y), g 4, g 5, .slice A7 m c7]) 2 (by kernel_rfl) (by kernel_rfl) (by rfl) (by rfl) (fun _ => rfl) (by decide) ?_ (LaS.start O.drew) (fun F hF => ?_)
                      · intro i hi
                        simp only [List.mem_cons, List.not_mem_nil, or_false] at hi
                        rcases hi with rfl | rfl
                        · exact ⟨fun _ => rfl, [0, 1, 2, 3, 5, 6], by kernel_rfl, fun g v => ⟨rfl, rfl, rfl, rfl, rfl, rfl, trivial⟩⟩
                        · exact ⟨fun _ => rfl, [0, 1, 2, 3, 4, 6], by kernel_rfl, fun g v => ⟨rfl, rfl, rfl, rfl, rfl, rfl, trivial⟩⟩
                      simp only [fillD, Act.put, List.setIfInBounds_toArray, List.set_cons_zero, List.set_cons_succ] at hF
                      have hF2 := funext hF
                      clear hF
                      subst hF2
                      refine ⟨⟨doesN_want (by decide) rfl (fun g => rfl) (fun st w' hS hp K hK => ?_), doesN_want (by decide) rfl (fun g => rfl) (fun st w' hS hp K hK => ?_), doesN_want (by decide) rfl (fun g => rfl) (fun st w' hS hp K hK => ?_), doesN_want (by decide) rfl (fun g => rfl) (fun st w' hS hp K hK => ?_), doesC_want (by decide) rfl (fun g => rfl) (fun st w' hS hn hp K hK => ?_), doesC_want (by decide) rfl (fun g => rfl) (fun st w' hS hn hp K hK => ?_), doesN_want (by decide) rfl (fun g => rfl) (fun st w' hS hp K hK => ?_), trivial⟩, fun st w' hS hall => ?_⟩
                      · try dsimp only
                        go_simp
                        exact hK _ hS
                      · try dsimp only
                        go_simp
                        exact hK _ hS
                      · try dsimp only
                        exact wp_part_hi Try.underlying30 sizeOfT rfl k rfl (by omega) (hK _ hS)
                      · try dsimp only
                        obtain ⟨R_, hR_⟩ := hS.held
                        exact wp_row_h hR_ 0 rfl rfl Try.underlying34 rfl (sT _) (hK _ hS)
                      · try dsimp only
                        rw [hn] at hS
                        exact hS.lit (.agg (M.mat 3 M.zero).toArray) infoT Try.underlying30 [(0, arr 3 (DM.t3 Kn x y))] rfl (tC_len _) (show 0 < 1 * 3 by decide) (show 1 * 3 ≤ 1000 by decide) (by kernel_rfl) hK
                      · try dsimp only
                        rw [hn] at hS
                        exact hS.app (hp 4 (by decide) (by kernel_rfl)) (.agg (M.mat 3 M.zero).toArray) 24 infoTb rfl (Nat.succ_pos _) Try.underlying30 (by show Value.slice A k c = Value.slice A (L.take k).length c; rw [htk]) rfl (tC_one _) (by dsimp only [tR]; omega) (by decide) hK
                      · try dsimp only
                        go_simp
                        exact hK _ hS
                      try dsimp only
                      obtain ⟨zv, A8, c8, hz4, hz5, O8⟩ := hS.done (hall 4 (by decide)) (hall 5 (by decide))
                      clear hS O
                      have O := O8
                      clear O8
                      simp only [seen, hz4, hz5, Option.getD_some]
                      clear hall hz4 hz5
                      refine wpAny_want (i := 7) (by kernel_rfl) rfl (by rfl) (fun K hK => ?_)
                      refine wp_app_big O (.agg (M.mat 3 M.zero).toArray) 24 infoTb rfl (Nat.succ_pos _) Try.underlying30 rfl ⟨w.heap.size, A7, (L.drop k).length, c7, 3, tC (L.drop k)⟩ (O.mem List.mem_cons_self) rfl (c := c7) (by dsimp only; rw [hml]; rfl) (tC_one _) (by dsimp only [tR]; omega) (by decide) fun z85 v8 O9 => hK _ _ ?_
                      clear O
                      have O := O9
                      clear O9
                      clear hK K
                      try simp only [Act.put, List.setIfInBounds_toArray, List.set_cons_zero, List.set_cons_succ]
                      refine wpAny_one (i := 8) (by kernel_rfl) rfl (fun K hK => ?_)
                      go_simp
                      refine hK _ _ ?_
                      clear hK K
                      try simp only [Act.put, List.setIfInBounds_toArray, List.set_cons_zero, List.set_cons_succ]
                      refine wpAny_done (by kernel_rfl) ?_ _
                      have O8_ : Held w v8 ((g12, 34, M.mat 3 (DM.t3 Kn x y)) :: [(g8, 59, ln f g X Y E), (g5, 25, M.mat 4 r), (g4, 23, M.mat 2 b), (g3, 23, M.mat 2 a)]) ⟨z85, 34, 3, (L.take k).length + 1 + (L.drop k).length, tC (L.take k ++ [(Kn, x, y)]) ++ tC (L.drop k)⟩ [⟨w.heap.size, A7, (L.drop k).length, c7, 3, tC (L.drop k)⟩] := by
                        rw [tC_app]
                        exact O
                      obtain ⟨A9, c9, hv9, O9⟩ := tR_of (by rw [List.length_append]; rfl) O8_
                      clear O8_
                      subst hv9
                      clear O
                      have O := (O9.tail).pick (es' := []) (fun y hy => absurd hy (by simp))
                      clear O9
                      have HN := Lib.hid (FI.out k hk HB.out HGE.out)
                      go_wp2_with fail
                      go_roundw
                      case rel => exact ⟨y + 1, L.take k ++ [(Kn, x, y)] ++ L.drop k, A9, c9, by omega, by omega, rfl, (by first | rfl | exact congrArg (Value.int IntKind.i64) Wy), HN.out, O⟩
                      case measure => simp [intOf]; omega
                  · have q1 : ¬ (k : Int) < L.length := by omega
                    have HGE : Hid (∀ s, L[k]? = some s → ¬ s.1 < Kn) := Lib.hid (fun s h => by
                      rw [List.getElem?_eq_none (by omega)] at h
                      cases h)
                    have q1b : decide ((k : Int) < L.length) = false := decide_eq_false q1
                    clear q1
                    have OO := O
                    clear O
                    have O := OO
                    clear OO
                    go_wp2_with fail
                    refine region_T ((fun w2 => Held w w2 ((g12, 34, M.mat 3 (DM.t3 Kn x y)) :: [(g8, 59, ln f g X Y E), (g5, 25, M.mat 4 r), (g4, 23, M.mat 2 b), (g3, 23, M.mat 2 a)]) (tR A c L) [])) [0, 1, 2, 3, 4, 5, 6, 7, 8, 9, 10, 11, 12, 13] 12 [some 57, some 58, some 59, some 60, some 61, some 62, some 63, some 64, some 65, some 66, some 67, some 68, some 69, some 70] [.int .i64 k, .slice A L.length c, .int .i64 L.length, .bool false, .bool false, undef, undef, undef, undef, undef, undef, undef, undef, .bool false] 0 (by kernel_rfl) (by rfl) (by kernel_rfl) (by rfl) (by rfl) (O.drew) (fun F hF => ?_)
                    simp only [fillD, Act.put, List.setIfInBounds_toArray, List.set_cons_zero, List.set_cons_succ] at hF
                    subst hF
                    refine ⟨⟨does_want rfl (by rfl) (fun w' O K hK => ?_), does_want rfl (by rfl) (fun w' O K hK => ?_), does_want rfl (by rfl) (fun w' O K hK => ?_), does_want rfl (by rfl) (fun w' O K hK => ?_), does_want rfl (by rfl) (fun w' O K hK => ?_), does_skip rfl (by rfl), does_skip rfl (by rfl), does_skip rfl (by rfl), does_skip rfl (by rfl), does_skip rfl (by rfl), does_skip rfl (by rfl), does_skip rfl (by rfl), does_skip rfl (by rfl), does_want rfl (by rfl) (fun w' O K hK => ?_), trivial⟩, fun w' O => ?_⟩
                    · go_simp
                      exact hK _ O
                    · go_simp
                      exact hK _ O
                    · go_simp
                      exact hK _ O
                    · go_simp
                      exact hK _ O
                    · go_simp
                      exact hK _ O
                    · go_simp
                      exact hK _ O
                    refine wpAny_done (by kernel_rfl) ?_ _
                    obtain ⟨B, hB⟩ : ∃ B, (if c = k then A else A.map (·.add (k * 3))) = B := ⟨_, rfl⟩
                    obtain ⟨m, hm⟩ : ∃ m, L.length - k = m := ⟨_, rfl⟩
                    obtain ⟨cc, hcc⟩ : ∃ cc, c - k = cc := ⟨_, rfl⟩
                    have LP := part_ent O.row_ent hk hB hcc
                    have hml : (L.drop k).length = m := by rw [List.length_drop]; exact hm
                    have HB2 := Lib.hid hB
                    clear hB
                    have OL := Held.start _ [tE w.heap.size B cc (L.drop k)] (fun x_ hx_ => by
                      rw [List.mem_singleton] at hx_
                      rw [hx_]
                      exact LP)
                    go_wp2_with (first | ((with_reducible refine at_lit 73 ?_); refine wpList_none_h rfl OL 3 infoTs Try.underlying30 ?_; clear OL; intro z73 v6 OL) | ((with_reducible refine at_part 76 ?_); refine wpList_part_lo Try.underlying30 sizeOfT rfl k rfl hk HB2.out hm hcc ?_) | ((with_reducible refine at_app 77 ?_); refine wpList_app_big rfl OL (.agg (M.mat 3 M.zero).toArray) 24 infoTb rfl (Nat.succ_pos _) Try.underlying30 rfl (tE w.heap.size B cc (L.drop k)) (OL.mem List.mem_cons_self) rfl (c := cc) (by dsimp only [tE]; rw [hml]; rfl) (tC_one _) (by dsimp only [tE]; omega) (by decide) ?_; clear OL; intro z77 v7 OL))
                    obtain ⟨A7, c7, hv7, O7⟩ := tR_of (l := []) (m := L.drop k) (n := 0 + (L.drop k).length) (by rw [List.length_nil]) OL
                    rw [List.nil_append] at hv7 O7
                    subst hv7
                    have L7 := O7.row_ent
                    have O2 := O.gain O7.below L7
                    clear O OL O7 L7 LP
                    have O := O2.cut hk
                    clear O2
                    rw [hml]
                    have htk : (L.take k).length = k := by rw [List.length_take]; omega
                    refine region_S (fun st w2 => LaS w ((g12, 34, M.mat 3 (DM.t3 Kn x y)) :: [(g8, 59, ln f g X Y E), (g5, 25, M.mat 4 r), (g4, 23, M.mat 2 b), (g3, 23, M.mat 2 a)]) (tR A c (L.take k)) 1 (tC [(Kn, x, y)]) [⟨w.heap.size, A7, (L.drop k).length, c7, 3, tC (L.drop k)⟩] (st 4) (st 5) w2) [4, 5] 12 7 [some 78, some 79, some 80, some 81, some 82, some 83, some 84] (fun g => [.slice A L.length c, .int .i64 k, .slice A k c, arr 3 (DM.t3 Kn x y), g 4, g 5, .slice A7 m c7]) 2 (by kernel_rfl) (by kernel_rfl) (by rfl) (by rfl) (fun _ => rfl) (by decide) ?_ (LaS.start O.drew) (fun F hF => ?_)
                    · intro i hi
                      simp only [List.mem_cons, List.not_mem_nil, or_false] at hi
                      rcases hi with rfl | rfl
                      · exact ⟨fun _ => rfl, [0, 1, 2, 3, 5, 6], by kernel_rfl, fun g v => ⟨rfl, rfl, rfl, rfl, rfl, rfl, trivial⟩⟩
                      · exact ⟨fun _ => rfl, [0, 1, 2, 3, 4, 6], by kernel_rfl, fun g v => ⟨rfl, rfl, rfl, rfl, rfl, rfl, trivial⟩⟩
                    simp only [fillD, Act.put, List.setIfInBounds_toArray, List.set_cons_zero, List.set_cons_succ] at hF
                    have hF2 := funext hF
                    clear hF
                    subst hF2
                    refine ⟨⟨doesN_want (by decide) rfl (fun g => rfl) (fun st w' hS hp K hK => ?_), doesN_want (by decide) rfl (fun g => rfl) (fun st w' hS hp K hK => ?_), doesN_want (by decide) rfl (fun g => rfl) (fun st w' hS hp K hK => ?_), doesN_want (by decide) rfl (fun g => rfl) (fun st w' hS hp K hK => ?_), doesC_want (by decide) rfl (fun g => rfl) (fun st w' hS hn hp K hK => ?_), doesC_want (by decide) rfl (fun g => rfl) (fun st w' hS hn hp K hK => ?_), doesN_want (by decide) rfl (fun g => rfl) (fun st w' hS hp K hK => ?_), trivial⟩, fun st w' hS hall => ?_⟩
                    · try dsimp only
                      go_simp
                      exact hK _ hS
                    · try dsimp only
                      go_simp
                      exact hK _ hS
                    · try dsimp only
                      exact wp_part_hi Try.underlying30 sizeOfT rfl k rfl (by omega) (hK _ hS)
                    · try dsimp only
                      obtain ⟨R_, hR_⟩ := hS.held
                      exact wp_row_h hR_ 0 rfl rfl Try.underlying34 rfl (sT _) (hK _ hS)
                    · try dsimp only
                      rw [hn] at hS
                      exact hS.lit (.agg (M.mat 3 M.zero).toArray) infoT Try.underlying30 [(0, arr 3 (DM.t3 Kn x y))] rfl (tC_len _) (show 0 < 1 * 3 by decide) (show 1 * 3 ≤ 1000 by decide) (by kernel_rfl) hK
                    · try dsimp only
                      rw [hn] at hS
                      exact hS.app (hp 4 (by decide) (by kernel_rfl)) (.agg (M.mat 3 M.zero).toArray) 24 infoTb rfl (Nat.succ_pos _) Try.underlying30 (by show Value.slice A k c = Value.slice A (L.take k).length c; rw [htk]) rfl (tC_one _) (by dsimp only [tR]; omega) (by decide) hK
                    · try dsimp only
                      go_simp
                      exact hK _ hS
                    try dsimp only
                    obtain ⟨zv, A8, c8, hz4, hz5, O8⟩ := hS.done (hall 4 (by decide)) (hall 5 (by decide))
                    clear hS O
                    have O := O8
                    clear O8
                    simp only [seen, hz4, hz5, Option.getD_some]
                    clear hall hz4 hz5
                    refine wpAny_want (i := 7) (by kernel_rfl) rfl (by rfl) (fun K hK => ?_)
                    refine wp_app_big O (.agg (M.mat 3 M.zero).toArray) 24 infoTb rfl (Nat.succ_pos _) Try.underlying30 rfl ⟨w.heap.size, A7, (L.drop k).length, c7, 3, tC (L.drop k)⟩ (O.mem List.mem_cons_self) rfl (c := c7) (by dsimp only; rw [hml]; rfl) (tC_one _) (by dsimp only [tR]; omega) (by decide) fun z85 v8 O9 => hK _ _ ?_
                    clear O
                    have O := O9
                    clear O9
                    clear hK K
                    try simp only [Act.put, List.setIfInBounds_toArray, List.set_cons_zero, List.set_cons_succ]
                    refine wpAny_one (i := 8) (by kernel_rfl) rfl (fun K hK => ?_)
                    go_simp
                    refine hK _ _ ?_
                    clear hK K
                    try simp only [Act.put, List.setIfInBounds_toArray, List.set_cons_zero, List.set_cons_succ]
                    refine wpAny_done (by kernel_rfl) ?_ _
                    have O8_ : Held w v8 ((g12, 34, M.mat 3 (DM.t3 Kn x y)) :: [(g8, 59, ln f g X Y E), (g5, 25, M.mat 4 r), (g4, 23, M.mat 2 b), (g3, 23, M.mat 2 a)]) ⟨z85, 34, 3, (L.take k).length + 1 + (L.drop k).length, tC (L.take k ++ [(Kn, x, y)]) ++ tC (L.drop k)⟩ [⟨w.heap.size, A7, (L.drop k).length, c7, 3, tC (L.drop k)⟩] := by
                      rw [tC_app]
                      exact O
                    obtain ⟨A9, c9, hv9, O9⟩ := tR_of (by rw [List.length_append]; rfl) O8_
                    clear O8_
                    subst hv9
                    clear O
                    have O := (O9.tail).pick (es' := []) (fun y hy => absurd hy (by simp))
                    clear O9
                    have HN := Lib.hid (FI.out k hk HB.out HGE.out)
                    go_wp2_with fail
                    go_roundw
                    case rel => exact ⟨y + 1, L.take k ++ [(Kn, x, y)] ++ L.drop k, A9, c9, by omega, by omega, rfl, (by first | rfl | exact congrArg (Value.int IntKind.i64) Wy), HN.out, O⟩
                    case measure => simp [intOf]; omega
          · obtain rfl : y = r3 := by omega
            have HR := Lib.hid (FR.out x L HF.out x0)
            have b1 := HL.out
            have Wx : wrap64 (x + 1) = x + 1 := IntWalk.wrap64_in _ (by omega)
            clear b1 HF
            go_wp2_with ((with_reducible refine at_load 33 ?_); refine wpList_cell_h (v := .int .i64 (y)) rfl O 1 rfl Cr3.out rfl agg3 rfl ?_)
            go_roundw
            case rel => exact ⟨x + 1, L, A, c, by omega, by omega, rfl, (by first | rfl | exact congrArg (Value.int IntKind.i64) Wx), HR.out, O⟩
            case measure => simp [intOf]; omega
      · obtain rfl : x = r2 := by omega
        have HE := Lib.hid (FE.out L0 HF0.out)
        clear HF0
        go_wp2_with ((with_reducible refine at_load 25 ?_); refine wpList_cell_h (v := .int .i64 (x)) rfl O 1 rfl Cr2.out rfl agg3 rfl ?_)
        go_ret
        rw [← HE.out]
        exact retT_done O
end Go.Proofs.Ytheolajpjpnfjaa
