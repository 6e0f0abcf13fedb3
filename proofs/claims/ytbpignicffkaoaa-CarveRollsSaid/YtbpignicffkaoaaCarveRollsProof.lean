/-
  For every list of vertices, of flags and of sides the law CarveRolls returns true: at whichever vertex it begins, the same vertices come, with the same flags, in the same order around. No condition.
-/
import Derived.Test.YtbpignicffkaoaaFl
import Derived.Deep.DeepCutAuto
namespace Go.Proofs.Ytbpignicffkaoaa.carveRolls
open Go.ChangeShapes Go.WideShapes Go.ChangeAt Go.RowKit
set_option linter.unusedVariables false
set_option linter.unusedSimpArgs false

theorem own : ownKnob Try.prog.godebug = none := by kernel_rfl
theorem ex3_0 (a b c : Value) : ex 0 (.tuple #[a, b, c]) = a := rfl
theorem ex3_1 (a b c : Value) : ex 1 (.tuple #[a, b, c]) = b := rfl
theorem ex3_2 (a b c : Value) : ex 2 (.tuple #[a, b, c]) = c := rfl
theorem turn_mem {l : List (Nat → Int)} {x0 : Nat → Int} (h : l[0]? = some x0) (x : Nat → Int) : x ∈ l.drop 1 ++ [x0] ↔ x ∈ l := by
  cases l with
  | nil => cases h
  | cons u l =>
    obtain rfl : u = x0 := by simpa using h
    simp [or_comm]
theorem turn_len {α : Type} {l : List α} {x0 : α} (h : l[0]? = some x0) : (l.drop 1 ++ [x0]).length = l.length := by
  cases l with
  | nil => cases h
  | cons u l => simp
theorem turn_may {l s : List (Nat → Int)} {e : List Bool} {x0 : Nat → Int} {y0 : Bool} (h : l[0]? = some x0) (g : e[0]? = some y0) : C.may (l.drop 1 ++ [x0]) (e.drop 1 ++ [y0]).length s = C.may l e.length s := by
  rw [Bool.eq_iff_iff, may_iff, may_iff, turn_len h, turn_len g]
  simp only [turn_mem h]
theorem turn_zip {l : List (Nat → Int)} {e : List Bool} {x0 : Nat → Int} {y0 : Bool} (h : l[0]? = some x0) (g : e[0]? = some y0) (hle : l.length = e.length) : C.Rot (l.zip e) ((l.drop 1 ++ [x0]).zip (e.drop 1 ++ [y0])) := by
  cases l with
  | nil => cases h
  | cons u l =>
    cases e with
    | nil => cases g
    | cons v e =>
      obtain rfl : u = x0 := by simpa using h
      obtain rfl : v = y0 := by simpa using g
      refine ⟨[(u, v)], l.zip e, rfl, ?_⟩
      simp only [List.drop_succ_cons, List.drop_zero]
      rw [List.zip_append (by simpa using hle)]
      rfl
theorem turn_res {l s : List (Nat → Int)} {e : List Bool} {x0 : Nat → Int} {y0 : Bool} (h : l[0]? = some x0) (g : e[0]? = some y0) (hle : l.length = e.length) : C.Rot (C.res l e s) (C.res (l.drop 1 ++ [x0]) (e.drop 1 ++ [y0]) s) ∧ C.err (l.drop 1 ++ [x0]) (e.drop 1 ++ [y0]) s = C.err l e s := by
  unfold C.res C.err
  rw [turn_may h g]
  split
  · exact ⟨C.carve_rot (turn_zip h g hle), rfl⟩
  · exact ⟨C.Rot.refl _, rfl⟩
/-- What of it the law looks at: the lengths, and at which vertex the other one begins. -/
theorem turn_all {l s : List (Nat → Int)} {e : List Bool} {x0 : Nat → Int} {y0 : Bool} (h : l[0]? = some x0) (g : e[0]? = some y0) (hle : l.length = e.length) {R R' : List C.PV} (h1 : C.res l e s = R) (h2 : C.res (l.drop 1 ++ [x0]) (e.drop 1 ++ [y0]) s = R') :
    R'.length = R.length ∧ (R.length ≠ 0 → ∃ k0, k0 < R.length ∧ C.vs R' = (C.vs R).drop k0 ++ (C.vs R).take k0 ∧ C.fs R' = (C.fs R).drop k0 ++ (C.fs R).take k0) := by
  have hr := (turn_res (s := s) h g hle).1
  rw [h1, h2] at hr
  refine ⟨hr.len.symm, fun hne => ?_⟩
  obtain ⟨k, hk, rfl⟩ := hr.at (fun e => hne (by rw [e]; rfl))
  exact ⟨k, hk, by simp [C.vs, List.map_drop, List.map_take], by simp [C.fs, List.map_drop, List.map_take]⟩

set_option maxRecDepth 100000 in
set_option maxHeartbeats 16000000 in
theorem walk (w : World) (l : List (Nat → Int)) (e : List Bool) (s : List (Nat → Int)) {A : Option Addr} {c : Nat} {B : Option Addr} {d : Nat} {D_ : Option Addr} {g : Nat} (hV : Lies w free (vE 0 A c l)) (hB : Lies w free (bE 0 B d e)) (hS : Lies w free (sE 0 D_ g s)) :
    Calls Try.prog 7 #[.slice A l.length c, .slice B e.length d, .slice D_ s.length g] w fun e w' => e = .returned (.bool true) ∧ Below w.heap.size w w' := by
  obtain ⟨cg, hcg⟩ : ∃ x, x = g := ⟨_, rfl⟩
  subst hcg
  have O := Held.start w [bE 0 B d e, vE 0 A c l, sE 0 D_ cg s] (by
    intro x hx
    simp only [List.mem_cons, List.not_mem_nil, or_false] at hx
    rcases hx with rfl | rfl | rfl
    · exact hB
    · exact hV
    · exact hS)
  clear hV hB hS
  have cf := fun w => few_any l.length e.length s.length (A := A) (B := B) (D_ := D_) (c := c) (d := d) (g := cg) w
  cases hf : C.few l.length e.length s.length
  all_goals rw [hf] at cf
  · clear hf
    go_enter Try.func7, Try.ntmps7
    go_wp2_with (first | (go_at_call 8; refine (cf _).mono ?_; rintro r w1 ⟨rfl, rfl⟩) | (go_at_call 9; refine (awake_any _).mono ?_; rintro e w5 ⟨rfl, hb⟩; replace O := O.call hb; clear hb))
    go_ret
    exact ⟨rfl, O.below⟩
  · obtain ⟨f1, f2, -⟩ := C.few_iff.1 hf
    clear hf
    by_cases hle : l.length = e.length
    case neg =>
      have k1 : ((l.length : Int) != (e.length : Int)) = true := by simp; omega
      clear hle
      go_enter Try.func7, Try.ntmps7
      go_wp2_with (first | (go_at_call 8; refine (cf _).mono ?_; rintro r w1 ⟨rfl, rfl⟩) | (go_at_call 9; refine (awake_any _).mono ?_; rintro e w5 ⟨rfl, hb⟩; replace O := O.call hb; clear hb))
      go_ret
      exact ⟨rfl, O.below⟩
    have k1 : ((l.length : Int) != (e.length : Int)) = false := by simp; omega
    by_cases hl0 : l.length = 0
    · have k2 : ((l.length : Int) == 0) = true := by rw [hl0]; rfl
      clear hle hl0
      go_enter Try.func7, Try.ntmps7
      go_wp2_with (first | (go_at_call 8; refine (cf _).mono ?_; rintro r w1 ⟨rfl, rfl⟩) | (go_at_call 9; refine (awake_any _).mono ?_; rintro e w5 ⟨rfl, hb⟩; replace O := O.call hb; clear hb))
      go_ret
      exact ⟨rfl, O.below⟩
    have k2 : ((l.length : Int) == 0) = false := by rw [beq_eq_false_iff_ne]; omega
    have l0 : 0 < l.length := by omega
    have e0 : 0 < e.length := by omega
    obtain ⟨x0, hx0⟩ : ∃ x, l[0]? = some x := ⟨_, List.getElem?_eq_getElem l0⟩
    obtain ⟨y0, hy0⟩ : ∃ x, e[0]? = some x := ⟨_, List.getElem?_eq_getElem e0⟩
    have c1 := fun w h1 h2 h3 => pcarve_any l e s (lo := 0) (lo2 := 0) (lo3 := 0) (A := A) (B := B) (D_ := D_) (c := c) (d := d) (g := cg) w h1 h2 h3
    have c2 := fun w lo_ A B c d h1 h2 h3 => pcarve_any (l.drop 1 ++ [x0]) (e.drop 1 ++ [y0]) s (lo := lo_) (lo2 := lo_) (lo3 := 0) (A := A) (B := B) (D_ := D_) (c := c) (d := d) (g := cg) w h1 h2 h3
    have HL1 : Hid ((l.drop 1 ++ [x0]).length = l.length) := Lib.hid (turn_len hx0)
    have HL2 : Hid ((e.drop 1 ++ [y0]).length = e.length) := Lib.hid (turn_len hy0)
    have HV1 : Hid (([] ++ (pE 8 0 A c (vC l) 1 l.length).xs) ++ vC [x0] = vC (l.drop 1 ++ [x0])) := Lib.hid (by
      rw [pE_v, List.nil_append, vC_app, List.take_of_length_le (by rw [List.length_drop]; exact Nat.le_refl _)])
    have HV2 : Hid (([] ++ (pE 1 0 B d (bC e) 1 e.length).xs) ++ bC [y0] = bC (e.drop 1 ++ [y0])) := Lib.hid (by
      rw [pE_b, List.nil_append, bC_app, List.take_of_length_le (by rw [List.length_drop]; exact Nat.le_refl _)])
    have ht := turn_all (s := s) hx0 hy0 hle rfl rfl
    have he := (turn_res (s := s) hx0 hy0 hle).2
    rw [he] at c2
    have v1 := vs_len (C.res l e s)
    have v2 := fs_len (C.res l e s)
    have v3 := vs_len (C.res (l.drop 1 ++ [x0]) (e.drop 1 ++ [y0]) s)
    have v4 := fs_len (C.res (l.drop 1 ++ [x0]) (e.drop 1 ++ [y0]) s)
    have n9 := res_len l e s
    obtain ⟨t1, t2⟩ := ht
    rw [t1] at v3 v4
    clear t1 he
    unfold RetVFE at c1 c2
    generalize (C.res l e s).length = n at *
    generalize C.vs (C.res l e s) = V1 at *
    generalize C.fs (C.res l e s) = F1 at *
    generalize C.vs (C.res (l.drop 1 ++ [x0]) (e.drop 1 ++ [y0]) s) = V2 at *
    generalize C.fs (C.res (l.drop 1 ++ [x0]) (e.drop 1 ++ [y0]) s) = F2 at *
    generalize C.err l e s = z at *
    generalize l.drop 1 ++ [x0] = lt at *
    generalize e.drop 1 ++ [y0] = et at *
    rw [v1, v2] at c1
    rw [v3, v4] at c2
    have N1 := Lib.hid v1
    have N2 := Lib.hid v2
    have N3 := Lib.hid v3
    have N4 := Lib.hid v4
    have HT := Lib.hid t2
    have HX := Lib.hid hx0
    have HY := Lib.hid hy0
    have HLE := Lib.hid hle
    have j1 : ((n : Int) != (n : Int)) = false := by simp
    have j2 : (z != z) = false := by simp
    clear v1 v2 v3 v4 t2 hx0 hy0 hle hl0
    go_enter Try.func7, Try.ntmps7
    go_wp2_with (first | (go_at_call 8; refine (cf _).mono ?_; rintro r w1 ⟨rfl, rfl⟩) | (go_at_call 10; refine (c1 _ (O.arg (List.mem_cons_of_mem _ List.mem_cons_self)) (O.arg List.mem_cons_self) (O.arg (List.mem_cons_of_mem _ (List.mem_cons_of_mem _ List.mem_cons_self)))).mono ?_; rintro r w2 ⟨VA, va, WA, wa, rfl, hV, hW, hb⟩; have O2 := O.gains hb (ns := [vE _ VA va _, bE _ WA wa _]) (two_lies hV hW); clear O c1 hV hW hb; have O := O2; clear O2))
    refine region_S (fun st w2 => R4 w [] [vE w.heap.size VA va V1, bE w.heap.size WA wa F1, bE 0 B d e, vE 0 A c l, sE 0 D_ cg s] lt et (pE 8 0 A c (vC l) 1 l.length) (pE 1 0 B d (bC e) 1 e.length) V2 F2 z x0 y0 (st 0) (st 3) (st 7) (st 8) (st 9) (st 12) (st 16) (st 17) (st 19) w2) [0, 3, 7, 8, 9, 12, 16, 17, 19] 12 26 [some 43, some 44, some 45, some 46, some 47, some 48, some 49, some 50, some 51, some 52, some 53, some 54, some 55, some 56, some 57, some 58, some 59, some 60, some 61, some 62, some 42, some 63, some 64, some 65, some 10, some 11] (fun g => [g 0, .slice A l.length c, sliced A 1 l.length c 8, g 3, .slice A l.length c, .pointer (some ((adr A).add (0 * 8))), arr 8 x0, g 7, g 8, g 9, .slice B e.length d, sliced B 1 e.length d 1, g 12, .slice B e.length d, .pointer (some ((adr B).add (0 * 1))), .bool y0, g 16, g 17, .slice D_ s.length cg, g 19, g 19, ex 0 (g 19), ex 1 (g 19), ex 2 (g 19), ex 0 (g 19), ex 1 (g 19)]) 1 (by kernel_rfl) (by kernel_rfl) (by rfl) (by rfl) (fun _ => rfl) (by decide) ?_ (R4.start O.drew) (fun F hF => ?_)
    · intro i hi
      simp only [List.mem_cons, List.not_mem_nil, or_false] at hi
      rcases hi with rfl | rfl | rfl | rfl | rfl | rfl | rfl | rfl | rfl
      · exact ⟨fun _ => rfl, [1, 2, 3, 4, 5, 6, 7, 8, 9, 10, 11, 12, 13, 14, 15, 16, 17, 18, 19, 20, 21, 22, 23, 24, 25], by kernel_rfl, fun g v => ⟨rfl, rfl, rfl, rfl, rfl, rfl, rfl, rfl, rfl, rfl, rfl, rfl, rfl, rfl, rfl, rfl, rfl, rfl, rfl, rfl, rfl, rfl, rfl, rfl, rfl, trivial⟩⟩
      · exact ⟨fun _ => rfl, [0, 1, 2, 4, 5, 6, 7, 8, 9, 10, 11, 12, 13, 14, 15, 16, 17, 18, 19, 20, 21, 22, 23, 24, 25], by kernel_rfl, fun g v => ⟨rfl, rfl, rfl, rfl, rfl, rfl, rfl, rfl, rfl, rfl, rfl, rfl, rfl, rfl, rfl, rfl, rfl, rfl, rfl, rfl, rfl, rfl, rfl, rfl, rfl, trivial⟩⟩
      · exact ⟨fun _ => rfl, [0, 1, 2, 3, 4, 5, 6, 8, 9, 10, 11, 12, 13, 14, 15, 16, 17, 18, 19, 20, 21, 22, 23, 24, 25], by kernel_rfl, fun g v => ⟨rfl, rfl, rfl, rfl, rfl, rfl, rfl, rfl, rfl, rfl, rfl, rfl, rfl, rfl, rfl, rfl, rfl, rfl, rfl, rfl, rfl, rfl, rfl, rfl, rfl, trivial⟩⟩
      · exact ⟨fun _ => rfl, [0, 1, 2, 3, 4, 5, 6, 7, 9, 10, 11, 12, 13, 14, 15, 16, 17, 18, 19, 20, 21, 22, 23, 24, 25], by kernel_rfl, fun g v => ⟨rfl, rfl, rfl, rfl, rfl, rfl, rfl, rfl, rfl, rfl, rfl, rfl, rfl, rfl, rfl, rfl, rfl, rfl, rfl, rfl, rfl, rfl, rfl, rfl, rfl, trivial⟩⟩
      · exact ⟨fun _ => rfl, [0, 1, 2, 3, 4, 5, 6, 7, 8, 10, 11, 12, 13, 14, 15, 16, 17, 18, 19, 20, 21, 22, 23, 24, 25], by kernel_rfl, fun g v => ⟨rfl, rfl, rfl, rfl, rfl, rfl, rfl, rfl, rfl, rfl, rfl, rfl, rfl, rfl, rfl, rfl, rfl, rfl, rfl, rfl, rfl, rfl, rfl, rfl, rfl, trivial⟩⟩
      · exact ⟨fun _ => rfl, [0, 1, 2, 3, 4, 5, 6, 7, 8, 9, 10, 11, 13, 14, 15, 16, 17, 18, 19, 20, 21, 22, 23, 24, 25], by kernel_rfl, fun g v => ⟨rfl, rfl, rfl, rfl, rfl, rfl, rfl, rfl, rfl, rfl, rfl, rfl, rfl, rfl, rfl, rfl, rfl, rfl, rfl, rfl, rfl, rfl, rfl, rfl, rfl, trivial⟩⟩
      · exact ⟨fun _ => rfl, [0, 1, 2, 3, 4, 5, 6, 7, 8, 9, 10, 11, 12, 13, 14, 15, 17, 18, 19, 20, 21, 22, 23, 24, 25], by kernel_rfl, fun g v => ⟨rfl, rfl, rfl, rfl, rfl, rfl, rfl, rfl, rfl, rfl, rfl, rfl, rfl, rfl, rfl, rfl, rfl, rfl, rfl, rfl, rfl, rfl, rfl, rfl, rfl, trivial⟩⟩
      · exact ⟨fun _ => rfl, [0, 1, 2, 3, 4, 5, 6, 7, 8, 9, 10, 11, 12, 13, 14, 15, 16, 18, 19, 20, 21, 22, 23, 24, 25], by kernel_rfl, fun g v => ⟨rfl, rfl, rfl, rfl, rfl, rfl, rfl, rfl, rfl, rfl, rfl, rfl, rfl, rfl, rfl, rfl, rfl, rfl, rfl, rfl, rfl, rfl, rfl, rfl, rfl, trivial⟩⟩
      · exact ⟨fun _ => rfl, [0, 1, 2, 3, 4, 5, 6, 7, 8, 9, 10, 11, 12, 13, 14, 15, 16, 17, 18], by kernel_rfl, fun g v => ⟨rfl, rfl, rfl, rfl, rfl, rfl, rfl, rfl, rfl, rfl, rfl, rfl, rfl, rfl, rfl, rfl, rfl, rfl, rfl, trivial⟩⟩
    simp only [fillD, Act.put, List.setIfInBounds_toArray, List.set_cons_zero, List.set_cons_succ] at hF
    have hF2 := funext hF
    clear hF
    subst hF2
    refine ⟨⟨doesC_want (by decide) rfl (fun g => rfl) (fun st w' hS hn hp K hK => ?_), doesN_want (by decide) rfl (fun g => rfl) (fun st w' hS hp K hK => ?_), doesN_want (by decide) rfl (fun g => rfl) (fun st w' hS hp K hK => ?_), doesC_want (by decide) rfl (fun g => rfl) (fun st w' hS hn hp K hK => ?_), doesN_want (by decide) rfl (fun g => rfl) (fun st w' hS hp K hK => ?_), doesN_want (by decide) rfl (fun g => rfl) (fun st w' hS hp K hK => ?_), doesN_want (by decide) rfl (fun g => rfl) (fun st w' hS hp K hK => ?_), doesC_want (by decide) rfl (fun g => rfl) (fun st w' hS hn hp K hK => ?_), doesC_want (by decide) rfl (fun g => rfl) (fun st w' hS hn hp K hK => ?_), doesC_want (by decide) rfl (fun g => rfl) (fun st w' hS hn hp K hK => ?_), doesN_want (by decide) rfl (fun g => rfl) (fun st w' hS hp K hK => ?_), doesN_want (by decide) rfl (fun g => rfl) (fun st w' hS hp K hK => ?_), doesC_want (by decide) rfl (fun g => rfl) (fun st w' hS hn hp K hK => ?_), doesN_want (by decide) rfl (fun g => rfl) (fun st w' hS hp K hK => ?_), doesN_want (by decide) rfl (fun g => rfl) (fun st w' hS hp K hK => ?_), doesN_want (by decide) rfl (fun g => rfl) (fun st w' hS hp K hK => ?_), doesC_want (by decide) rfl (fun g => rfl) (fun st w' hS hn hp K hK => ?_), doesC_want (by decide) rfl (fun g => rfl) (fun st w' hS hn hp K hK => ?_), doesN_want (by decide) rfl (fun g => rfl) (fun st w' hS hp K hK => ?_), doesC_want (by decide) rfl (fun g => rfl) (fun st w' hS hn hp K hK => ?_), doesN_want (by decide) rfl (fun g => rfl) (fun st w' hS hp K hK => ?_), doesN_want (by decide) rfl (fun g => rfl) (fun st w' hS hp K hK => ?_), doesN_want (by decide) rfl (fun g => rfl) (fun st w' hS hp K hK => ?_), doesN_want (by decide) rfl (fun g => rfl) (fun st w' hS hp K hK => ?_), doesN_want (by decide) rfl (fun g => rfl) (fun st w' hS hp K hK => ?_), doesN_want (by decide) rfl (fun g => rfl) (fun st w' hS hp K hK => ?_), trivial⟩, fun st w' hS hall => ?_⟩
    · try dsimp only
      rw [hn] at hS
      exact hS.lit0 hK
    · try dsimp only
      go_simp
      exact hK _ hS
    · try dsimp only
      exact wp_part_lo Try.underlying22 sizeOf27 rfl 1 rfl (by omega) (hK _ hS)
    · try dsimp only
      rw [hn] at hS
      exact hS.app3 (hp 0 (by decide) (by kernel_rfl)) rfl (fun w2 bs2 R2 es2 h O => O.pE (lo := 0) (h _ (List.mem_cons_of_mem _ (List.mem_cons_of_mem _ (List.mem_cons_of_mem _ List.mem_cons_self)))) 1 l.length (by omega) (Nat.le_refl _)) rfl rfl (by rw [pE_v]; exact vC_one _) (by dsimp only [pE]; omega) hK
    · try dsimp only
      go_simp
      exact hK _ hS
    · try dsimp only
      obtain ⟨R, O⟩ := hS.held
      exact wp_at_h Try.underlying22 sizeOf27 _ (O.mem (List.mem_cons_of_mem _ (List.mem_cons_of_mem _ (List.mem_cons_of_mem _ List.mem_cons_self)))) rfl (0) rfl rfl (by omega) rfl (hK _ hS)
    · try dsimp only
      obtain ⟨R, O⟩ := hS.held
      exact wp_elem_h _ (O.mem (List.mem_cons_of_mem _ (List.mem_cons_of_mem _ (List.mem_cons_of_mem _ List.mem_cons_self)))) (0 * 8) (M.mat 8 (x0)) (vC_at HX.out) (by rw [M.mat_len]; decide) rfl Try.underlying39 rfl (s27 _) (hK _ hS)
    · try dsimp only
      rw [hn] at hS
      exact hS.lit7 rfl hK
    · try dsimp only
      rw [hn] at hS
      exact hS.app8 (hp 3 (by decide) (by kernel_rfl)) (hp 7 (by decide) (by kernel_rfl)) rfl rfl (by rw [HL1.out]; dsimp only [pE]; omega) HV1.out (by rw [HL1.out]; omega) hK
    · try dsimp only
      rw [hn] at hS
      exact hS.lit9 hK
    · try dsimp only
      go_simp
      exact hK _ hS
    · try dsimp only
      exact wp_part_lo Try.underlying23 sizeOf4 rfl 1 rfl (by omega) (hK _ hS)
    · try dsimp only
      rw [hn] at hS
      exact hS.app12 (hp 8 (by decide) (by kernel_rfl)) (hp 9 (by decide) (by kernel_rfl)) rfl (fun w2 bs2 R2 es2 h O => O.pE (lo := 0) (h _ (List.mem_cons_of_mem _ (List.mem_cons_of_mem _ List.mem_cons_self))) 1 e.length (by omega) (Nat.le_refl _)) rfl rfl (by rw [pE_b]; exact bC_one _) (by dsimp only [pE]; omega) hK
    · try dsimp only
      go_simp
      exact hK _ hS
    · try dsimp only
      obtain ⟨R, O⟩ := hS.held
      exact wp_at_h Try.underlying23 sizeOf4 _ (O.mem (List.mem_cons_of_mem _ (List.mem_cons_of_mem _ List.mem_cons_self))) rfl 0 rfl rfl (by omega) rfl (hK _ hS)
    · try dsimp only
      obtain ⟨R, O⟩ := hS.held
      exact wp_ecell_h _ (O.mem (List.mem_cons_of_mem _ (List.mem_cons_of_mem _ List.mem_cons_self))) (0 * 1) (bC_at HY.out) rfl agg4 rfl (hK _ hS)
    · try dsimp only
      rw [hn] at hS
      exact hS.lit16 rfl hK
    · try dsimp only
      rw [hn] at hS
      exact hS.app17 (hp 12 (by decide) (by kernel_rfl)) (hp 16 (by decide) (by kernel_rfl)) rfl rfl (by rw [HL2.out]; dsimp only [pE]; omega) HV2.out (by rw [HL2.out]; omega) hK
    · try dsimp only
      go_simp
      exact hK _ hS
    · try dsimp only
      rw [hn] at hS
      obtain ⟨A2, c2_, B2, d2, e8, e17, L1, L2, L3, KR⟩ := hS.args (hp 17 (by decide) (by kernel_rfl))
      have s8 : seen st 8 = .slice A2 l.length c2_ := by simp [seen, e8, HL1.out]
      have s17 : seen st 17 = .slice B2 e.length d2 := by simp [seen, e17, HL2.out]
      simp only [s8, s17] at hK ⊢
      have cc := c2 w' _ A2 B2 c2_ d2 L1 L2 (L3 _ (List.mem_cons_of_mem _ (List.mem_cons_of_mem _ (List.mem_cons_of_mem _ (List.mem_cons_of_mem _ List.mem_cons_self)))))
      rw [HL1.out, HL2.out] at cc
      go_simp
      go_at_call 10
      refine cc.mono ?_
      rintro r w6 ⟨VB, vb, WB, wb, rfl, hV, hW, hb⟩
      have hR := KR w6 hb VB vb WB wb hV hW
      rw [N3.out, N4.out] at hR
      refine hK _ w6 ?_
      show R4 w _ _ lt et _ _ V2 F2 z x0 y0 (upd st 19 _ 0) (upd st 19 _ 3) (upd st 19 _ 7) (upd st 19 _ 8) (upd st 19 _ 9) (upd st 19 _ 12) (upd st 19 _ 16) (upd st 19 _ 17) (upd st 19 _ 19) w6
      simp only [upd_same, upd_other st _ (show (0 : Nat) ≠ 19 by decide), upd_other st _ (show (3 : Nat) ≠ 19 by decide), upd_other st _ (show (7 : Nat) ≠ 19 by decide), upd_other st _ (show (8 : Nat) ≠ 19 by decide), upd_other st _ (show (9 : Nat) ≠ 19 by decide), upd_other st _ (show (12 : Nat) ≠ 19 by decide), upd_other st _ (show (16 : Nat) ≠ 19 by decide), upd_other st _ (show (17 : Nat) ≠ 19 by decide)]
      exact hR
    · try dsimp only
      go_simp
      exact hK _ hS
    · try dsimp only
      obtain ⟨A2, c2_, B2, d2, e19, O2⟩ := hS.tup (hp 19 (by decide) (by kernel_rfl))
      have s19 : seen st 19 = .tuple #[.slice A2 n c2_, .slice B2 n d2, .int .i64 z] := by simp [seen, e19, N3.out, N4.out]
      simp only [s19] at hK ⊢
      go_simp
      exact hK _ hS
    · try dsimp only
      obtain ⟨A2, c2_, B2, d2, e19, O2⟩ := hS.tup (hp 19 (by decide) (by kernel_rfl))
      have s19 : seen st 19 = .tuple #[.slice A2 n c2_, .slice B2 n d2, .int .i64 z] := by simp [seen, e19, N3.out, N4.out]
      simp only [s19] at hK ⊢
      go_simp
      exact hK _ hS
    · try dsimp only
      obtain ⟨A2, c2_, B2, d2, e19, O2⟩ := hS.tup (hp 19 (by decide) (by kernel_rfl))
      have s19 : seen st 19 = .tuple #[.slice A2 n c2_, .slice B2 n d2, .int .i64 z] := by simp [seen, e19, N3.out, N4.out]
      simp only [s19] at hK ⊢
      go_simp
      exact hK _ hS
    · try dsimp only
      go_simp
      exact hK _ hS
    · try dsimp only
      go_simp
      exact hK _ hS
    try dsimp only
    obtain ⟨VB, vb, WB, wb, e19, O3⟩ := hS.tup (hall 19 (by decide))
    clear hS O
    have O := O3
    clear O3
    rw [N3.out, N4.out] at e19
    simp only [seen, e19, Option.getD_some, ex3_0, ex3_1, ex3_2]
    generalize (st 0).getD undef = m0
    generalize (st 3).getD undef = m3
    generalize (st 7).getD undef = m7
    generalize (st 8).getD undef = m8
    generalize (st 9).getD undef = m9
    generalize (st 12).getD undef = m12
    generalize (st 16).getD undef = m16
    generalize (st 17).getD undef = m17
    clear hall e19
    generalize sliced A 1 l.length c 8 = p1
    generalize sliced B 1 e.length d 1 = p2
    refine wpAny_one (i := 26) (by kernel_rfl) rfl (fun K hK => ?_)
    go_simp
    refine hK _ _ ?_
    clear hK K
    try simp only [Act.put, List.setIfInBounds_toArray, List.set_cons_zero, List.set_cons_succ]
    refine wpAny_done (by kernel_rfl) ?_ _
    clear k1 k2 c2
    have O2 := O.sub (es' := [vE 0 VB vb V2, bE 0 WB wb F2, vE 0 VA va V1, bE 0 WA wa F1]) (fun y hy => by
      simp only [List.mem_cons, List.not_mem_nil, or_false] at hy
      rcases hy with rfl | rfl | rfl | rfl
      · exact ⟨_, List.mem_cons_self, rfl, rfl, rfl, rfl, rfl, Nat.zero_le _⟩
      · exact ⟨_, (List.mem_cons_of_mem _ List.mem_cons_self), rfl, rfl, rfl, rfl, rfl, Nat.zero_le _⟩
      · exact ⟨_, (List.mem_cons_of_mem _ (List.mem_cons_of_mem _ List.mem_cons_self)), rfl, rfl, rfl, rfl, rfl, Nat.zero_le _⟩
      · exact ⟨_, (List.mem_cons_of_mem _ (List.mem_cons_of_mem _ (List.mem_cons_of_mem _ List.mem_cons_self))), rfl, rfl, rfl, rfl, rfl, Nat.zero_le _⟩)
    clear O
    have O := O2
    clear O2 HL1 HL2 HV1 HV2 HX HY HLE l0 e0 f1 f2
    by_cases hn0 : n = 0
    · have q5 : ((n : Int) == 0) = true := by rw [hn0]; rfl
      clear hn0
      go_wp2_with (go_at_call 9; refine (awake_any _).mono ?_; rintro e w8 ⟨rfl, hb⟩; replace O := O.call hb; clear hb)
      go_ret
      exact ⟨rfl, O.below⟩
    have q5 : ((n : Int) == 0) = false := by rw [beq_eq_false_iff_ne]; omega
    obtain ⟨k0, hk0, hv, hfl⟩ := HT.out hn0
    have HVR := Lib.hid hv
    have HFR := Lib.hid hfl
    clear hv hfl HT
    go_wp2_with fail
    clear q5 j1 j2
    go_loopw [13] (fun t wr => ∃ k : Nat, k ≤ k0 ∧ t = .int .i64 k ∧ Held w wr [] nilRow [vE 0 VB vb V2, bE 0 WB wb F2, vE 0 VA va V1, bE 0 WA wa F1]) (fun t _ => n - (intOf t).toNat)
    case atStart => exact ⟨0, Nat.zero_le _, rfl, O⟩
    case round =>
      clear O
      obtain ⟨k, hk, rfl, O⟩ := hrel
      have q0 : (0 : Int) ≤ k := by omega
      have hkn : k < n := by omega
      have q1 : (k : Int) < n := by omega
      have M1 := Lib.hid (show va ≥ n by have := (O.mem (x := vE 0 VA va V1) (List.mem_cons_of_mem _ (List.mem_cons_of_mem _ List.mem_cons_self))).2.1; have h := N1.out; show n ≤ va; rw [← h]; exact this)
      have M2 := Lib.hid (show wa ≥ n by have := (O.mem (x := bE 0 WA wa F1) (List.mem_cons_of_mem _ (List.mem_cons_of_mem _ (List.mem_cons_of_mem _ List.mem_cons_self)))).2.1; have h := N2.out; show n ≤ wa; rw [← h]; exact this)
      obtain ⟨X, hX⟩ : ∃ X, V1.drop k ++ V1.take k = X := ⟨_, rfl⟩
      obtain ⟨Y, hY⟩ : ∃ Y, F1.drop k ++ F1.take k = Y := ⟨_, rfl⟩
      have hXl : X.length = n := by rw [← hX, List.length_append, List.length_drop, List.length_take, N1.out]; omega
      have hYl : Y.length = n := by rw [← hY, List.length_append, List.length_drop, List.length_take, N2.out]; omega
      have HXC : Hid (([] ++ (pE 8 0 VA va (vC V1) k n).xs) ++ (pE 8 0 VA va (vC V1) 0 k).xs = vC X) := Lib.hid (by
        rw [pE_v, pE_v, List.nil_append, ← vC_app, ← hX, List.take_of_length_le (by rw [List.length_drop, N1.out]; exact Nat.le_refl _)]
        rfl)
      have HYC : Hid (([] ++ (pE 1 0 WA wa (bC F1) k n).xs) ++ (pE 1 0 WA wa (bC F1) 0 k).xs = bC Y) := Lib.hid (by
        rw [pE_b, pE_b, List.nil_append, ← bC_app, ← hY, List.take_of_length_le (by rw [List.length_drop, N2.out]; exact Nat.le_refl _)]
        rfl)
      have cs := fun {lo1 lo2 lo3 lo4 : Nat} {A1 A2 A3 A4 : Option Addr} {c1 c2 c3 c4 : Nat} w h1 h2 h3 h4 => rsame_any X V2 Y F2 (lo1 := lo1) (lo2 := lo2) (lo3 := lo3) (lo4 := lo4) (A1 := A1) (A2 := A2) (A3 := A3) (A4 := A4) (c1 := c1) (c2 := c2) (c3 := c3) (c4 := c4) (by omega) w h1 h2 h3 h4
      rw [hXl, N3.out, hYl, N4.out] at cs
      have HEQ : Hid (k = k0 → X = V2 ∧ Y = F2) := Lib.hid (fun h => by rw [HVR.out, HFR.out, ← hX, ← hY, h]; exact ⟨rfl, rfl⟩)
      have HXL := Lib.hid hXl
      have HYL := Lib.hid hYl
      clear hX hY hXl hYl
      go_wp2_with fail
      refine region_S (fun st w2 => RoS w [] [vE 0 VB vb V2, bE 0 WB wb F2, vE 0 VA va V1, bE 0 WA wa F1] 39 8 (pE 8 0 VA va (vC V1) k n) (pE 8 0 VA va (vC V1) 0 k) (st 0) (st 4) (st 8) w2) [0, 4, 8] 12 9 [some 100, some 101, some 102, some 103, some 104, some 105, some 106, some 107, some 108] (fun g => [g 0, .slice VA n va, .int .i64 k, sliced VA k n va 8, g 4, .slice VA n va, .int .i64 k, sliced VA 0 k va 8, g 8]) 1 (by kernel_rfl) (by kernel_rfl) (by rfl) (by rfl) (fun _ => rfl) (by decide) ?_ (RoS.start O.drew) (fun F hF => ?_)
      · intro i hi
        simp only [List.mem_cons, List.not_mem_nil, or_false] at hi
        rcases hi with rfl | rfl | rfl
        · exact ⟨fun _ => rfl, [1, 2, 3, 4, 5, 6, 7, 8], by kernel_rfl, fun g v => ⟨rfl, rfl, rfl, rfl, rfl, rfl, rfl, rfl, trivial⟩⟩
        · exact ⟨fun _ => rfl, [0, 1, 2, 3, 5, 6, 7, 8], by kernel_rfl, fun g v => ⟨rfl, rfl, rfl, rfl, rfl, rfl, rfl, rfl, trivial⟩⟩
        · exact ⟨fun _ => rfl, [0, 1, 2, 3, 4, 5, 6, 7], by kernel_rfl, fun g v => ⟨rfl, rfl, rfl, rfl, rfl, rfl, rfl, rfl, trivial⟩⟩
      simp only [fillD, Act.put, List.setIfInBounds_toArray, List.set_cons_zero, List.set_cons_succ] at hF
      have hF2 := funext hF
      clear hF
      subst hF2
      refine ⟨⟨doesC_want (by decide) rfl (fun g => rfl) (fun st w' hS hn hp K hK => ?_), doesN_want (by decide) rfl (fun g => rfl) (fun st w' hS hp K hK => ?_), doesN_want (by decide) rfl (fun g => rfl) (fun st w' hS hp K hK => ?_), doesN_want (by decide) rfl (fun g => rfl) (fun st w' hS hp K hK => ?_), doesC_want (by decide) rfl (fun g => rfl) (fun st w' hS hn hp K hK => ?_), doesN_want (by decide) rfl (fun g => rfl) (fun st w' hS hp K hK => ?_), doesN_want (by decide) rfl (fun g => rfl) (fun st w' hS hp K hK => ?_), doesN_want (by decide) rfl (fun g => rfl) (fun st w' hS hp K hK => ?_), doesC_want (by decide) rfl (fun g => rfl) (fun st w' hS hn hp K hK => ?_), trivial⟩, fun st w' hS hall => ?_⟩
      · try dsimp only
        rw [hn] at hS
        exact hS.lit size27 Try.underlying22 hK
      · try dsimp only
        exact wp_move_ (hK _ hS)
      · try dsimp only
        exact wp_move_ (hK _ hS)
      · try dsimp only
        exact wp_part_lo Try.underlying22 sizeOf27 rfl k rfl (by omega) (hK _ hS)
      · try dsimp only
        rw [hn] at hS
        exact hS.app1 (hp 0 (by decide) (by kernel_rfl)) (.agg (M.mat 8 M.zero).toArray) 64 info27b rfl (Nat.succ_pos _) Try.underlying22 rfl (fun w2 R2 O => O.pE (lo := 0) (List.mem_cons_of_mem _ (List.mem_cons_of_mem _ List.mem_cons_self)) k n (by omega) (by rw [N1.out]; omega)) rfl rfl (by rw [pE_v]; exact vC_one _) (by dsimp only [pE]; omega) (by decide) hK
      · try dsimp only
        exact wp_move_ (hK _ hS)
      · try dsimp only
        exact wp_move_ (hK _ hS)
      · try dsimp only
        exact wp_part_hi Try.underlying22 sizeOf27 rfl k rfl (by have := M1.out; omega) (hK _ hS)
      · try dsimp only
        rw [hn] at hS
        exact hS.app2 (hp 4 (by decide) (by kernel_rfl)) (.agg (M.mat 8 M.zero).toArray) 64 info27b rfl (Nat.succ_pos _) Try.underlying22 rfl (fun w2 R2 O => O.pE (lo := 0) (List.mem_cons_of_mem _ (List.mem_cons_of_mem _ List.mem_cons_self)) 0 k (by omega) (by rw [N1.out]; omega)) rfl rfl (by rw [pE_v]; exact vC_one _) (by dsimp only [pE]; omega) (by decide) hK
      try dsimp only
      obtain ⟨v0, v4, XA, xm, e0, e4, e8, O3⟩ := hS.done (hall 8 (by decide))
      have hnn : 0 + (pE 8 0 VA va (vC V1) k n).n + (pE 8 0 VA va (vC V1) 0 k).n = n := by dsimp only [pE]; omega
      rw [hnn, HXC.out] at O3
      rw [hnn] at e8
      have O4 : Held w w' [] nilRow (vE w.heap.size XA xm X :: [vE 0 VB vb V2, bE 0 WB wb F2, vE 0 VA va V1, bE 0 WA wa F1]) := by
        have := HXL.out
        unfold vE
        rw [this]
        exact O3
      clear hS O O3 hnn
      have O := O4
      clear O4
      simp only [seen, e0, e4, e8, Option.getD_some]
      clear hall e0 e4 e8
      generalize sliced VA k n va 8 = p81
      generalize sliced VA 0 k va 8 = p82
      refine wpAny_one (i := 9) (by kernel_rfl) rfl (fun K hK => ?_)
      go_simp
      refine hK _ _ ?_
      clear hK K
      try simp only [Act.put, List.setIfInBounds_toArray, List.set_cons_zero, List.set_cons_succ]
      refine wpAny_done (by kernel_rfl) ?_ _
      go_wp2_with fail
      refine region_S (fun st w2 => RoS w [] (vE w.heap.size XA xm X :: [vE 0 VB vb V2, bE 0 WB wb F2, vE 0 VA va V1, bE 0 WA wa F1]) 4 1 (pE 1 0 WA wa (bC F1) k n) (pE 1 0 WA wa (bC F1) 0 k) (st 0) (st 4) (st 8) w2) [0, 4, 8] 12 9 [some 109, some 110, some 111, some 112, some 113, some 114, some 115, some 116, some 117] (fun g => [g 0, .slice WA n wa, .int .i64 k, sliced WA k n wa 1, g 4, .slice WA n wa, .int .i64 k, sliced WA 0 k wa 1, g 8]) 1 (by kernel_rfl) (by kernel_rfl) (by rfl) (by rfl) (fun _ => rfl) (by decide) ?_ (RoS.start O.drew) (fun F hF => ?_)
      · intro i hi
        simp only [List.mem_cons, List.not_mem_nil, or_false] at hi
        rcases hi with rfl | rfl | rfl
        · exact ⟨fun _ => rfl, [1, 2, 3, 4, 5, 6, 7, 8], by kernel_rfl, fun g v => ⟨rfl, rfl, rfl, rfl, rfl, rfl, rfl, rfl, trivial⟩⟩
        · exact ⟨fun _ => rfl, [0, 1, 2, 3, 5, 6, 7, 8], by kernel_rfl, fun g v => ⟨rfl, rfl, rfl, rfl, rfl, rfl, rfl, rfl, trivial⟩⟩
        · exact ⟨fun _ => rfl, [0, 1, 2, 3, 4, 5, 6, 7], by kernel_rfl, fun g v => ⟨rfl, rfl, rfl, rfl, rfl, rfl, rfl, rfl, trivial⟩⟩
      simp only [fillD, Act.put, List.setIfInBounds_toArray, List.set_cons_zero, List.set_cons_succ] at hF
      have hF2 := funext hF
      clear hF
      subst hF2
      refine ⟨⟨doesC_want (by decide) rfl (fun g => rfl) (fun st w' hS hn hp K hK => ?_), doesN_want (by decide) rfl (fun g => rfl) (fun st w' hS hp K hK => ?_), doesN_want (by decide) rfl (fun g => rfl) (fun st w' hS hp K hK => ?_), doesN_want (by decide) rfl (fun g => rfl) (fun st w' hS hp K hK => ?_), doesC_want (by decide) rfl (fun g => rfl) (fun st w' hS hn hp K hK => ?_), doesN_want (by decide) rfl (fun g => rfl) (fun st w' hS hp K hK => ?_), doesN_want (by decide) rfl (fun g => rfl) (fun st w' hS hp K hK => ?_), doesN_want (by decide) rfl (fun g => rfl) (fun st w' hS hp K hK => ?_), doesC_want (by decide) rfl (fun g => rfl) (fun st w' hS hn hp K hK => ?_), trivial⟩, fun st w' hS hall => ?_⟩
      · try dsimp only
        rw [hn] at hS
        exact hS.lit size4_ Try.underlying23 hK
      · try dsimp only
        exact wp_move_ (hK _ hS)
      · try dsimp only
        exact wp_move_ (hK _ hS)
      · try dsimp only
        exact wp_part_lo Try.underlying23 sizeOf4 rfl k rfl (by omega) (hK _ hS)
      · try dsimp only
        rw [hn] at hS
        exact hS.app1 (hp 0 (by decide) (by kernel_rfl)) (.bool false) 1 info4b rfl (Nat.succ_pos _) Try.underlying23 rfl (fun w2 R2 O => O.pE (lo := 0) (List.mem_cons_of_mem _ (List.mem_cons_of_mem _ (List.mem_cons_of_mem _ (List.mem_cons_of_mem _ List.mem_cons_self)))) k n (by omega) (by rw [N2.out]; omega)) rfl rfl (by rw [pE_b]; exact bC_one _) (by dsimp only [pE]; omega) (by decide) hK
      · try dsimp only
        exact wp_move_ (hK _ hS)
      · try dsimp only
        exact wp_move_ (hK _ hS)
      · try dsimp only
        exact wp_part_hi Try.underlying23 sizeOf4 rfl k rfl (by have := M2.out; omega) (hK _ hS)
      · try dsimp only
        rw [hn] at hS
        exact hS.app2 (hp 4 (by decide) (by kernel_rfl)) (.bool false) 1 info4b rfl (Nat.succ_pos _) Try.underlying23 rfl (fun w2 R2 O => O.pE (lo := 0) (List.mem_cons_of_mem _ (List.mem_cons_of_mem _ (List.mem_cons_of_mem _ (List.mem_cons_of_mem _ List.mem_cons_self)))) 0 k (by omega) (by rw [N2.out]; omega)) rfl rfl (by rw [pE_b]; exact bC_one _) (by dsimp only [pE]; omega) (by decide) hK
      try dsimp only
      obtain ⟨v0, v4, YA, ym, e0, e4, e8, O3⟩ := hS.done (hall 8 (by decide))
      have hnn : 0 + (pE 1 0 WA wa (bC F1) k n).n + (pE 1 0 WA wa (bC F1) 0 k).n = n := by dsimp only [pE]; omega
      rw [hnn, HYC.out] at O3
      rw [hnn] at e8
      have O4 : Held w w' [] nilRow (bE w.heap.size YA ym Y :: (vE w.heap.size XA xm X :: [vE 0 VB vb V2, bE 0 WB wb F2, vE 0 VA va V1, bE 0 WA wa F1])) := by
        have := HYL.out
        unfold bE
        rw [this]
        exact O3
      clear hS O O3 hnn
      have O := O4
      clear O4
      simp only [seen, e0, e4, e8, Option.getD_some]
      clear hall e0 e4 e8
      generalize sliced WA k n wa 1 = p11
      generalize sliced WA 0 k wa 1 = p12
      refine wpAny_one (i := 9) (by kernel_rfl) rfl (fun K hK => ?_)
      go_simp
      refine hK _ _ ?_
      clear hK K
      try simp only [Act.put, List.setIfInBounds_toArray, List.set_cons_zero, List.set_cons_succ]
      refine wpAny_done (by kernel_rfl) ?_ _
      go_wp2_with (first | (go_at_call 12; refine (cs _ (O.arg (x := vE w.heap.size XA xm X) (List.mem_cons_of_mem _ List.mem_cons_self)) (O.arg (x := vE 0 VB vb V2) (List.mem_cons_of_mem _ (List.mem_cons_of_mem _ List.mem_cons_self))) (O.arg (x := bE w.heap.size YA ym Y) List.mem_cons_self) (O.arg (x := bE 0 WB wb F2) (List.mem_cons_of_mem _ (List.mem_cons_of_mem _ (List.mem_cons_of_mem _ List.mem_cons_self))))).mono ?_; rintro r w7 ⟨⟨zz, rfl, hz⟩, hb⟩; have HZ := Lib.hid hz; clear hz cs; replace O := O.call hb; clear hb; cases zz) | (go_at_call 9; refine (awake_any _).mono ?_; rintro e w8 ⟨rfl, hb⟩; replace O := O.call hb; clear hb))
      · have hne : k ≠ k0 := fun h => by
          obtain ⟨h1, h2⟩ := HEQ.out h
          have := HZ.out h1 h2 (by rw [HXL.out, HYL.out])
          first | cases this | exact this
        have O2 := O.pick (es' := [vE 0 VB vb V2, bE 0 WB wb F2, vE 0 VA va V1, bE 0 WA wa F1]) (fun y hy => List.mem_cons_of_mem _ (List.mem_cons_of_mem _ hy))
        clear O
        go_roundw
        case rel => exact ⟨k + 1, by omega, by go_num, O2⟩
        case measure => simp [intOf]; omega
      · go_ret
        exact ⟨rfl, O.below⟩
theorem readable : ∀ t ∈ Try.f7.params.toList, Try.prog.readableRec t = true ∧ t < Try.prog.types.size := by
  intro t ht
  rw [Try.params7] at ht
  simp only [List.mem_cons, List.not_mem_nil, or_false] at ht
  repeat (first | (rcases ht with rfl | ht; exact ⟨by kernel_rfl, of_decide_eq_true (by kernel_rfl)⟩) | (subst ht; exact ⟨by kernel_rfl, of_decide_eq_true (by kernel_rfl)⟩))
set_option maxRecDepth 100000 in
theorem lifted (os : Os) (started : os.Started) (H : Type) (enc : TypeId × Value → H) :
    ReturnsInHanded {} Try.checked os 7 .any (Rows.carveRollsSpec.pre6 enc Try.prog Try.f7 Rows.carveRollsRow.domain false) (Rows.carveRollsSpec.post enc Try.prog Try.f7 false true false false) := by
  refine returnsInHanded_of_change (C := Try.checked) own started (by kernel_rfl) Try.func7
    (ChangeSpec.witness6 (enc := enc) (C := Try.checked) false ⟨#[], #[.slice none 0 0, .slice none 0 0, .slice none 0 0], []⟩ 8 (by kernel_rfl) (by kernel_rfl) (by kernel_rfl) (by kernel_rfl)) ?_
  intro W base args ds gs before hval0 hW hcnd _
  have hval : ∀ (j : Nat) t v, Try.f7.params[j]? = some t → args[j]? = some v → Value.okWide Try.prog W .any base t v := hval0
  have hW' := hW
  obtain ⟨p, q, hA0, hV, rfl, hfz, hnd⟩ := hW
  have hA : DataW.TrodAll enc Try.prog W 0 (fun _ => true) true Try.f7.params.toList args.toList ds p := hA0
  rw [Try.params7] at hA hval
  have hlt : ∀ x ∈ p ++ q, x.block < W.heap.size := fun x hx => hW'.lt x hx
  obtain ⟨v0, vs0, d0, ds0, p0, q0, hargs, rfl, rfl, h0, rr0⟩ := trodAll_cons hA
  obtain ⟨v1, vs1, d1, ds1, p1, q1, rfl, rfl, rfl, h1, rr1⟩ := trodAll_cons rr0
  obtain ⟨v2, vs2, d2, ds2, p2, q2, rfl, rfl, rfl, h2, rr2⟩ := trodAll_cons rr1
  obtain ⟨rfl, rfl, rfl⟩ := trodAll_nil rr2
  obtain rfl : args = #[v0, v1, v2] := by cases args; simp_all
  obtain ⟨rfl, rfl⟩ := trodVars_none hV
  obtain ⟨A0, n0, c0, rfl⟩ := okWide_slice Try.underlying22 (hval 0 22 v0 rfl rfl)
  obtain ⟨B0, k0, l0, e0, hF0⟩ := openVerts Try.underlying22 h0 (fun x hx => hlt x (by simp [hx]))
  obtain ⟨rfl, rfl, rfl⟩ := Value.slice.inj e0
  obtain ⟨A1, n1, c1, rfl⟩ := okWide_slice Try.underlying23 (hval 1 23 v1 rfl rfl)
  obtain ⟨B1, k1, l1, e1, hF1⟩ := openBools Try.underlying23 h1 (fun x hx => hlt x (by simp [hx]))
  obtain ⟨rfl, rfl, rfl⟩ := Value.slice.inj e1
  obtain ⟨A2, n2, c2, rfl⟩ := okWide_slice Try.underlying24 (hval 2 24 v2 rfl rfl)
  obtain ⟨B2, k2, l2, e2, hF2⟩ := openSides h2 (fun x hx => hlt x (by simp [hx]))
  obtain ⟨rfl, rfl, rfl⟩ := Value.slice.inj e2
  clear hA0 hval0
  refine (walk W _ _ _ hF0 hF1 hF2).mono fun e W' ⟨he, hg⟩ => ?_
  subst he
  exact ⟨_, rfl, post_true (tb := 4) laid readable (by kernel_rfl) Try.underlying4 rfl (fun l hl => by
    match l, hl with
    | [_, _, _], _ => exact ⟨rfl, rfl, rfl⟩) hW' hg⟩

theorem over : Rows.carveRollsRow.holds Try.pinned (OpenSpec.ofChange Rows.carveRollsSpec) :=
  OpenClaim.holds_of_wide 7 Try.f7 rfl rfl rfl rfl rfl rfl rfl ⟨rfl, rfl, rfl, rfl, rfl⟩ rfl rfl rfl rfl rfl (by kernel_rfl) Try.func7 (by kernel_rfl)
    (of_decide_eq_true (by kernel_rfl)) (by unfold Func.isWrapper; first | (rw [if_pos (by decide +kernel)]; kernel_rfl) | (rw [if_neg (by decide +kernel)]; exact ⟨rfl, rfl⟩))
    (fun os started H enc _ => lifted os started H enc)

theorem proved : Rows.CarveRollsSaid :=
  over
#print axioms proved
end Go.Proofs.Ytbpignicffkaoaa.carveRolls
