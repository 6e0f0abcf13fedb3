/- Contract: Same. -/
import Derived.Test.YtadpejblhkcjgaaD5
namespace Go.Proofs.Ytadpejblhkcjgaa
open Go.ChangeShapes Go.WideShapes Go.ChangeAt Go.RowKit
set_option linter.unusedVariables false
set_option linter.unusedSimpArgs false

theorem fst_at {a b : List PA} (h : a.map (·.1) = b.map (·.1)) {k : Nat} {x : PA} (hx : a[k]? = some x) : ∃ y, b[k]? = some (x.1, y) := by
  have h1 : (a.map (·.1))[k]? = some x.1 := by simp [hx]
  rw [h] at h1
  rw [List.getElem?_map] at h1
  cases hb : b[k]? with
  | none => rw [hb] at h1; cases h1
  | some z =>
    rw [hb] at h1
    obtain ⟨z1, z2⟩ := z
    exact ⟨z2, by rw [← Option.some.inj h1]⟩
theorem mem_one {e x : Ent} {l : List Ent} (h : x ∈ l) : x ∈ e :: l := List.mem_cons_of_mem _ h
set_option maxRecDepth 100000 in
set_option maxHeartbeats 8000000 in
/-- Same finds two rows alike that hold the same primitives. -/
theorem same_any (a b : List PA) {lo lo' : Nat} {A A' : Option Addr} {c c' : Nat} (w : World) (h : a.map (·.1) = b.map (·.1)) (ha : Lies w free (pE lo A c a)) (hb : Lies w free (pE lo' A' c' b)) (hea : ∀ y ∈ ents lo a, Lies w free y) (heb : ∀ y ∈ ents lo' b, Lies w free y) (hl : a.length ≤ 1000) (hlv : ∀ x ∈ a, x.1.V.length ≤ 1000 ∧ x.1.E.length ≤ 1000) :
    Calls Try.prog 11 #[.slice A a.length c, .slice A' b.length c'] w fun e w' => e = .returned (.bool true) ∧ Below w.heap.size w w' := by
  have O := Held.start w (pE lo A c a :: pE lo' A' c' b :: (ents lo a ++ ents lo' b)) (by
    intro y hy
    simp only [List.mem_cons, List.mem_append] at hy
    rcases hy with rfl | rfl | hy | hy
    · exact ha
    · exact hb
    · exact hea y hy
    · exact heb y hy)
  have MA : pE lo A c a ∈ pE lo A c a :: pE lo' A' c' b :: (ents lo a ++ ents lo' b) := List.mem_cons_self
  have MB : pE lo' A' c' b ∈ pE lo A c a :: pE lo' A' c' b :: (ents lo a ++ ents lo' b) := mem_one List.mem_cons_self
  have MEA : Hid (∀ y ∈ ents lo a, y ∈ pE lo A c a :: pE lo' A' c' b :: (ents lo a ++ ents lo' b)) := by show _; intro y hy; exact mem_one (mem_one (List.mem_append_left _ hy))
  have MEB : Hid (∀ y ∈ ents lo' b, y ∈ pE lo A c a :: pE lo' A' c' b :: (ents lo a ++ ents lo' b)) := by show _; intro y hy; exact mem_one (mem_one (List.mem_append_right _ hy))
  generalize pE lo A c a :: pE lo' A' c' b :: (ents lo a ++ ents lo' b) = es at *
  clear ha hb hea heb
  have hlen : b.length = a.length := by simpa using (congrArg List.length h).symm
  have HF : Hid (∀ (k : Nat) (x : PA), a[k]? = some x → ∃ y, b[k]? = some (x.1, y)) := by show _; intro k x hx; exact fst_at h hx
  have HLV := Lib.hid hlv
  clear h hlv
  have q0 : ((a.length : Int) != (a.length : Int)) = false := by simp
  rw [hlen]
  have HB := Lib.hid hlen
  clear hlen
  go_enter Try.func11, Try.ntmps11
  go_wp2_with fail
  clear q0
  go_loopw [5] (fun t wr => ∃ k : Nat, k ≤ a.length ∧ t = .int .i64 k ∧ Held w wr [] nilRow es) (fun t _ => a.length - (intOf t).toNat)
  case atStart => exact ⟨0, Nat.zero_le _, rfl, O⟩
  case round =>
    clear O
    obtain ⟨k, hk, rfl, O⟩ := hrel
    have q0 : (0 : Int) ≤ k := by omega
    by_cases hlt : k < a.length
    · have q1 : (k : Int) < a.length := by omega
      obtain ⟨x, hx⟩ : ∃ x, a[k]? = some x := ⟨_, List.getElem?_eq_getElem hlt⟩
      obtain ⟨⟨V, E, p⟩, ax⟩ := x
      obtain ⟨ay, hy⟩ := HF.out k _ hx
      have MVA := MEA.out _ (ents_v hx)
      have MEA2 := MEA.out _ (ents_e hx)
      have MVB := MEB.out _ (ents_v hy)
      have MEB2 := MEB.out _ (ents_e hy)
      obtain ⟨hV, hE⟩ := HLV.out _ (List.mem_of_getElem? hx)
      dsimp only at hV hE hy
      have HX := Lib.hid hx
      have HY := Lib.hid hy
      clear hx hy
      go_wp2_with fail
      refine region_T (fun w2 => Held w w2 [] nilRow es) [0, 1, 2, 3, 4, 5, 6, 7, 8, 9, 10, 11, 12, 13, 14, 15, 16, 17, 18, 19, 20, 21, 22, 23, 24, 25, 26, 27, 28, 29, 30, 31, 32, 33, 34, 35, 36, 37, 38, 39, 40] 12 [some 19, some 20, some 21, some 22, some 23, some 24, some 25, some 26, some 27, some 28, some 29, some 30, some 31, some 32, some 33, some 34, some 35, some 36, some 37, some 38, some 39, some 40, some 41, some 42, some 43, some 44, some 45, some 46, some 47, some 48, some 49, some 50, some 51, some 52, some 53, some 54, some 55, some 56, some 57, some 58, some 59] [.slice A a.length c, .int .i64 k, .pointer (some ((adr A).add ((k) * 3))), .pointer (some ((adr A).add ((k) * 3 + 2))), .int .i64 p, .slice A' a.length c', .int .i64 k, .pointer (some ((adr A').add ((k) * 3))), .pointer (some ((adr A').add ((k) * 3 + 2))), .int .i64 p, .bool false, .bool false, .slice A a.length c, .int .i64 k, .pointer (some ((adr A).add ((k) * 3))), .pointer (some ((adr A).add ((k) * 3))), .slice ax.VA V.length ax.Vc, .int .i64 V.length, .slice A' a.length c', .int .i64 k, .pointer (some ((adr A').add ((k) * 3))), .pointer (some ((adr A').add ((k) * 3))), .slice ay.VA V.length ay.Vc, .int .i64 V.length, .bool false, .bool false, .bool false, .slice A a.length c, .int .i64 k, .pointer (some ((adr A).add ((k) * 3))), .pointer (some ((adr A).add ((k) * 3 + 1))), .slice ax.EA E.length ax.Ec, .int .i64 E.length, .slice A' a.length c', .int .i64 k, .pointer (some ((adr A').add ((k) * 3))), .pointer (some ((adr A').add ((k) * 3 + 1))), .slice ay.EA E.length ay.Ec, .int .i64 E.length, .bool false, .bool false] 0 (by kernel_rfl) (by rfl) (by kernel_rfl) (by rfl) (by rfl) (O.drew) (fun F hF => ?_)
      simp only [fillD, Act.put, List.setIfInBounds_toArray, List.set_cons_zero, List.set_cons_succ] at hF
      subst hF
      refine ⟨⟨does_want rfl (by rfl) (fun w' O K hK => ?_), does_want rfl (by rfl) (fun w' O K hK => ?_), does_want rfl (by rfl) (fun w' O K hK => ?_), does_want rfl (by rfl) (fun w' O K hK => ?_), does_want rfl (by rfl) (fun w' O K hK => ?_), does_want rfl (by rfl) (fun w' O K hK => ?_), does_want rfl (by rfl) (fun w' O K hK => ?_), does_want rfl (by rfl) (fun w' O K hK => ?_), does_want rfl (by rfl) (fun w' O K hK => ?_), does_want rfl (by rfl) (fun w' O K hK => ?_), does_want rfl (by rfl) (fun w' O K hK => ?_), does_want rfl (by rfl) (fun w' O K hK => ?_), does_want rfl (by rfl) (fun w' O K hK => ?_), does_want rfl (by rfl) (fun w' O K hK => ?_), does_want rfl (by rfl) (fun w' O K hK => ?_), does_want rfl (by rfl) (fun w' O K hK => ?_), does_want rfl (by rfl) (fun w' O K hK => ?_), does_want rfl (by rfl) (fun w' O K hK => ?_), does_want rfl (by rfl) (fun w' O K hK => ?_), does_want rfl (by rfl) (fun w' O K hK => ?_), does_want rfl (by rfl) (fun w' O K hK => ?_), does_want rfl (by rfl) (fun w' O K hK => ?_), does_want rfl (by rfl) (fun w' O K hK => ?_), does_want rfl (by rfl) (fun w' O K hK => ?_), does_want rfl (by rfl) (fun w' O K hK => ?_), does_want rfl (by rfl) (fun w' O K hK => ?_), does_want rfl (by rfl) (fun w' O K hK => ?_), does_want rfl (by rfl) (fun w' O K hK => ?_), does_want rfl (by rfl) (fun w' O K hK => ?_), does_want rfl (by rfl) (fun w' O K hK => ?_), does_want rfl (by rfl) (fun w' O K hK => ?_), does_want rfl (by rfl) (fun w' O K hK => ?_), does_want rfl (by rfl) (fun w' O K hK => ?_), does_want rfl (by rfl) (fun w' O K hK => ?_), does_want rfl (by rfl) (fun w' O K hK => ?_), does_want rfl (by rfl) (fun w' O K hK => ?_), does_want rfl (by rfl) (fun w' O K hK => ?_), does_want rfl (by rfl) (fun w' O K hK => ?_), does_want rfl (by rfl) (fun w' O K hK => ?_), does_want rfl (by rfl) (fun w' O K hK => ?_), does_want rfl (by rfl) (fun w' O K hK => ?_), trivial⟩, fun w' O => ?_⟩
      · go_simp
        exact hK _ O
      · go_simp
        exact hK _ O
      · exact wp_at_h Try.underlying24 sizeOf35 (pE lo A c a) (O.mem MA) rfl (k) rfl rfl hlt rfl (hK _ O)
      · refine wp_fld_h (f35_2 _) rfl ?_
        rw [add_add']
        exact hK _ O
      · exact wp_ecell_h (pE lo A c a) (O.mem MA) ((k) * 3 + 2) (pmcs_at HX.out 2 _ rfl) rfl agg3 rfl (hK _ O)
      · go_simp
        exact hK _ O
      · go_simp
        exact hK _ O
      · exact wp_at_h Try.underlying24 sizeOf35 (pE lo' A' c' b) (O.mem MB) rfl (k) rfl rfl hlt HB.out.symm (hK _ O)
      · refine wp_fld_h (f35_2 _) rfl ?_
        rw [add_add']
        exact hK _ O
      · exact wp_ecell_h (pE lo' A' c' b) (O.mem MB) ((k) * 3 + 2) (pmcs_at HY.out 2 _ rfl) rfl agg3 rfl (hK _ O)
      · have gn : (((p : Nat) : Int) != ((p : Nat) : Int)) = false := by simp
        go_simp
        exact hK _ O
      · go_simp
        exact hK _ O
      · go_simp
        exact hK _ O
      · go_simp
        exact hK _ O
      · exact wp_at_h Try.underlying24 sizeOf35 (pE lo A c a) (O.mem MA) rfl (k) rfl rfl hlt rfl (hK _ O)
      · refine wp_fld_h (f35_0 _) rfl ?_
        rw [add_add']
        exact hK _ O
      · exact wp_ecell_h (pE lo A c a) (O.mem MA) ((k) * 3 + 0) (pmcs_at HX.out 0 _ rfl) rfl agg33 rfl (hK _ O)
      · go_simp
        exact hK _ O
      · go_simp
        exact hK _ O
      · go_simp
        exact hK _ O
      · exact wp_at_h Try.underlying24 sizeOf35 (pE lo' A' c' b) (O.mem MB) rfl (k) rfl rfl hlt HB.out.symm (hK _ O)
      · refine wp_fld_h (f35_0 _) rfl ?_
        rw [add_add']
        exact hK _ O
      · exact wp_ecell_h (pE lo' A' c' b) (O.mem MB) ((k) * 3 + 0) (pmcs_at HY.out 0 _ rfl) rfl agg33 rfl (hK _ O)
      · go_simp
        exact hK _ O
      · have gn : ((V.length : Int) != (V.length : Int)) = false := by simp
        go_simp
        exact hK _ O
      · go_simp
        exact hK _ O
      · go_simp
        exact hK _ O
      · go_simp
        exact hK _ O
      · go_simp
        exact hK _ O
      · exact wp_at_h Try.underlying24 sizeOf35 (pE lo A c a) (O.mem MA) rfl (k) rfl rfl hlt rfl (hK _ O)
      · refine wp_fld_h (f35_1 _) rfl ?_
        rw [add_add']
        exact hK _ O
      · exact wp_ecell_h (pE lo A c a) (O.mem MA) ((k) * 3 + 1) (pmcs_at HX.out 1 _ rfl) rfl agg22 rfl (hK _ O)
      · go_simp
        exact hK _ O
      · go_simp
        exact hK _ O
      · go_simp
        exact hK _ O
      · exact wp_at_h Try.underlying24 sizeOf35 (pE lo' A' c' b) (O.mem MB) rfl (k) rfl rfl hlt HB.out.symm (hK _ O)
      · refine wp_fld_h (f35_1 _) rfl ?_
        rw [add_add']
        exact hK _ O
      · exact wp_ecell_h (pE lo' A' c' b) (O.mem MB) ((k) * 3 + 1) (pmcs_at HY.out 1 _ rfl) rfl agg22 rfl (hK _ O)
      · go_simp
        exact hK _ O
      · have gn : ((E.length : Int) != (E.length : Int)) = false := by simp
        go_simp
        exact hK _ O
      · go_simp
        exact hK _ O
      refine wpAny_done (by kernel_rfl) ?_ _
      go_wp2_with fail
      have OO := O
      clear O
      clear O
      have O := OO
      clear OO
      go_loopw [6] (fun t wr => ∃ j : Nat, j ≤ V.length ∧ t = .int .i64 j ∧ Held w wr [] nilRow es) (fun t _ => V.length - (intOf t).toNat)
      case atStart => exact ⟨0, Nat.zero_le _, rfl, O⟩
      case round =>
        clear O
        obtain ⟨j, hj, rfl, O⟩ := hrel
        have q2 : (0 : Int) ≤ j := by omega
        by_cases hjl : j < V.length
        · have q3 : (j : Int) < V.length := by omega
          obtain ⟨v, hv⟩ : ∃ v, V[j]? = some v := ⟨_, List.getElem?_eq_getElem hjl⟩
          have HV := Lib.hid hv
          clear hv
          go_wp2_with (first | ((with_reducible refine at_index_ 63 ?_); refine wpList_at_h rfl Try.underlying24 sizeOf35 (pE lo A c a) (O.mem MA) rfl (k) rfl rfl hlt rfl ?_) | ((with_reducible refine at_fld 64 ?_); refine wpList_fld_h rfl (f35_0 _) rfl ?_; rw [add_add']) | ((with_reducible refine at_load 65 ?_); refine wpList_ecell_h rfl (pE lo A c a) (O.mem MA) ((k) * 3 + 0) (pmcs_at HX.out 0 _ rfl) rfl agg33 rfl ?_))
          refine region_T (fun w2 => Held w w2 [] nilRow es) [0, 1, 2, 3, 4, 5, 6, 7, 8, 9, 10, 11, 12, 13, 14, 15, 16] 12 [some 70, some 71, some 72, some 73, some 74, some 75, some 76, some 77, some 78, some 79, some 80, some 81, some 82, some 83, some 84, some 85, some 86] [.slice A a.length c, .int .i64 k, .pointer (some ((adr A).add ((k) * 3))), .pointer (some ((adr A).add ((k) * 3))), .slice ax.VA V.length ax.Vc, .int .i64 j, .pointer (some ((adr ax.VA).add (j))), .int .i64 v, .slice A' a.length c', .int .i64 k, .pointer (some ((adr A').add ((k) * 3))), .pointer (some ((adr A').add ((k) * 3))), .slice ay.VA V.length ay.Vc, .int .i64 j, .pointer (some ((adr ay.VA).add (j))), .int .i64 v, .bool false] 0 (by kernel_rfl) (by rfl) (by kernel_rfl) (by rfl) (by rfl) (O.drew) (fun F hF => ?_)
          simp only [fillD, Act.put, List.setIfInBounds_toArray, List.set_cons_zero, List.set_cons_succ] at hF
          subst hF
          refine ⟨⟨does_want rfl (by rfl) (fun w' O K hK => ?_), does_want rfl (by rfl) (fun w' O K hK => ?_), does_want rfl (by rfl) (fun w' O K hK => ?_), does_want rfl (by rfl) (fun w' O K hK => ?_), does_want rfl (by rfl) (fun w' O K hK => ?_), does_want rfl (by rfl) (fun w' O K hK => ?_), does_want rfl (by rfl) (fun w' O K hK => ?_), does_want rfl (by rfl) (fun w' O K hK => ?_), does_want rfl (by rfl) (fun w' O K hK => ?_), does_want rfl (by rfl) (fun w' O K hK => ?_), does_want rfl (by rfl) (fun w' O K hK => ?_), does_want rfl (by rfl) (fun w' O K hK => ?_), does_want rfl (by rfl) (fun w' O K hK => ?_), does_want rfl (by rfl) (fun w' O K hK => ?_), does_want rfl (by rfl) (fun w' O K hK => ?_), does_want rfl (by rfl) (fun w' O K hK => ?_), does_want rfl (by rfl) (fun w' O K hK => ?_), trivial⟩, fun w' O => ?_⟩
          · go_simp
            exact hK _ O
          · go_simp
            exact hK _ O
          · exact wp_at_h Try.underlying24 sizeOf35 (pE lo A c a) (O.mem MA) rfl (k) rfl rfl hlt rfl (hK _ O)
          · refine wp_fld_h (f35_0 _) rfl ?_
            rw [add_add']
            exact hK _ O
          · exact wp_ecell_h (pE lo A c a) (O.mem MA) ((k) * 3 + 0) (pmcs_at HX.out 0 _ rfl) rfl agg33 rfl (hK _ O)
          · go_simp
            exact hK _ O
          · refine wp_at_h Try.underlying33 sizeOf3 (vOf lo ((⟨V, E, p⟩, ax) : PA)) (O.mem MVA) rfl (j) rfl rfl hjl rfl ?_
            rw [Nat.mul_one]
            exact hK _ O
          · exact wp_ecell_h (vOf lo ((⟨V, E, p⟩, ax) : PA)) (O.mem MVA) (j) (ints_at HV.out) rfl agg3 rfl (hK _ O)
          · go_simp
            exact hK _ O
          · go_simp
            exact hK _ O
          · exact wp_at_h Try.underlying24 sizeOf35 (pE lo' A' c' b) (O.mem MB) rfl (k) rfl rfl hlt HB.out.symm (hK _ O)
          · refine wp_fld_h (f35_0 _) rfl ?_
            rw [add_add']
            exact hK _ O
          · exact wp_ecell_h (pE lo' A' c' b) (O.mem MB) ((k) * 3 + 0) (pmcs_at HY.out 0 _ rfl) rfl agg33 rfl (hK _ O)
          · go_simp
            exact hK _ O
          · refine wp_at_h Try.underlying33 sizeOf3 (vOf lo' ((⟨V, E, p⟩, ay) : PA)) (O.mem MVB) rfl (j) rfl rfl hjl rfl ?_
            rw [Nat.mul_one]
            exact hK _ O
          · exact wp_ecell_h (vOf lo' ((⟨V, E, p⟩, ay) : PA)) (O.mem MVB) (j) (ints_at HV.out) rfl agg3 rfl (hK _ O)
          · have gn : (((v : Nat) : Int) != ((v : Nat) : Int)) = false := by simp
            go_simp
            exact hK _ O
          refine wpAny_done (by kernel_rfl) ?_ _
          go_wp2_with fail
          go_roundw
          case rel => first | exact ⟨j + 1, by omega, by go_num, O⟩ | ((repeat apply Exists.intro); exact ⟨⟨j + 1, by omega, by go_num, O⟩, rfl⟩)
          case measure => simp [intOf]; omega
        · have q3 : ¬ (j : Int) < V.length := by omega
          obtain rfl : j = V.length := by omega
          go_wp2_with (first | ((with_reducible refine at_index_ 63 ?_); refine wpList_at_h rfl Try.underlying24 sizeOf35 (pE lo A c a) (O.mem MA) rfl (k) rfl rfl hlt rfl ?_) | ((with_reducible refine at_fld 64 ?_); refine wpList_fld_h rfl (f35_0 _) rfl ?_; rw [add_add']) | ((with_reducible refine at_load 65 ?_); refine wpList_ecell_h rfl (pE lo A c a) (O.mem MA) ((k) * 3 + 0) (pmcs_at HX.out 0 _ rfl) rfl agg33 rfl ?_))
          go_loopw [7] (fun t wr => ∃ j : Nat, j ≤ E.length ∧ t = .int .i64 j ∧ Held w wr [] nilRow es) (fun t _ => E.length - (intOf t).toNat)
          case atStart => exact ⟨0, Nat.zero_le _, rfl, O⟩
          case round =>
            clear O
            obtain ⟨j, hj, rfl, O⟩ := hrel
            have q2 : (0 : Int) ≤ j := by omega
            by_cases hjl : j < E.length
            · have q3 : (j : Int) < E.length := by omega
              obtain ⟨v, hv⟩ : ∃ v, E[j]? = some v := ⟨_, List.getElem?_eq_getElem hjl⟩
              have HV := Lib.hid hv
              clear hv
              go_wp2_with (first | ((with_reducible refine at_index_ 90 ?_); refine wpList_at_h rfl Try.underlying24 sizeOf35 (pE lo A c a) (O.mem MA) rfl (k) rfl rfl hlt rfl ?_) | ((with_reducible refine at_fld 91 ?_); refine wpList_fld_h rfl (f35_1 _) rfl ?_; rw [add_add']) | ((with_reducible refine at_load 92 ?_); refine wpList_ecell_h rfl (pE lo A c a) (O.mem MA) ((k) * 3 + 1) (pmcs_at HX.out 1 _ rfl) rfl agg22 rfl ?_))
              refine region_T (fun w2 => Held w w2 [] nilRow es) [0, 1, 2, 3, 4, 5, 6, 7, 8, 9, 10, 11, 12, 13, 14, 15, 16] 12 [some 97, some 98, some 99, some 100, some 101, some 102, some 103, some 104, some 105, some 106, some 107, some 108, some 109, some 110, some 111, some 112, some 113] [.slice A a.length c, .int .i64 k, .pointer (some ((adr A).add ((k) * 3))), .pointer (some ((adr A).add ((k) * 3 + 1))), .slice ax.EA E.length ax.Ec, .int .i64 j, .pointer (some ((adr ax.EA).add (j))), .bool v, .slice A' a.length c', .int .i64 k, .pointer (some ((adr A').add ((k) * 3))), .pointer (some ((adr A').add ((k) * 3 + 1))), .slice ay.EA E.length ay.Ec, .int .i64 j, .pointer (some ((adr ay.EA).add (j))), .bool v, .bool false] 0 (by kernel_rfl) (by rfl) (by kernel_rfl) (by rfl) (by rfl) (O.drew) (fun F hF => ?_)
              simp only [fillD, Act.put, List.setIfInBounds_toArray, List.set_cons_zero, List.set_cons_succ] at hF
              subst hF
              refine ⟨⟨does_want rfl (by rfl) (fun w' O K hK => ?_), does_want rfl (by rfl) (fun w' O K hK => ?_), does_want rfl (by rfl) (fun w' O K hK => ?_), does_want rfl (by rfl) (fun w' O K hK => ?_), does_want rfl (by rfl) (fun w' O K hK => ?_), does_want rfl (by rfl) (fun w' O K hK => ?_), does_want rfl (by rfl) (fun w' O K hK => ?_), does_want rfl (by rfl) (fun w' O K hK => ?_), does_want rfl (by rfl) (fun w' O K hK => ?_), does_want rfl (by rfl) (fun w' O K hK => ?_), does_want rfl (by rfl) (fun w' O K hK => ?_), does_want rfl (by rfl) (fun w' O K hK => ?_), does_want rfl (by rfl) (fun w' O K hK => ?_), does_want rfl (by rfl) (fun w' O K hK => ?_), does_want rfl (by rfl) (fun w' O K hK => ?_), does_want rfl (by rfl) (fun w' O K hK => ?_), does_want rfl (by rfl) (fun w' O K hK => ?_), trivial⟩, fun w' O => ?_⟩
              · go_simp
                exact hK _ O
              · go_simp
                exact hK _ O
              · exact wp_at_h Try.underlying24 sizeOf35 (pE lo A c a) (O.mem MA) rfl (k) rfl rfl hlt rfl (hK _ O)
              · refine wp_fld_h (f35_1 _) rfl ?_
                rw [add_add']
                exact hK _ O
              · exact wp_ecell_h (pE lo A c a) (O.mem MA) ((k) * 3 + 1) (pmcs_at HX.out 1 _ rfl) rfl agg22 rfl (hK _ O)
              · go_simp
                exact hK _ O
              · refine wp_at_h Try.underlying22 sizeOf4 (eOf lo ((⟨V, E, p⟩, ax) : PA)) (O.mem MEA2) rfl (j) rfl rfl hjl rfl ?_
                rw [Nat.mul_one]
                exact hK _ O
              · exact wp_ecell_h (eOf lo ((⟨V, E, p⟩, ax) : PA)) (O.mem MEA2) (j) (bools_at HV.out) rfl agg4 rfl (hK _ O)
              · go_simp
                exact hK _ O
              · go_simp
                exact hK _ O
              · exact wp_at_h Try.underlying24 sizeOf35 (pE lo' A' c' b) (O.mem MB) rfl (k) rfl rfl hlt HB.out.symm (hK _ O)
              · refine wp_fld_h (f35_1 _) rfl ?_
                rw [add_add']
                exact hK _ O
              · exact wp_ecell_h (pE lo' A' c' b) (O.mem MB) ((k) * 3 + 1) (pmcs_at HY.out 1 _ rfl) rfl agg22 rfl (hK _ O)
              · go_simp
                exact hK _ O
              · refine wp_at_h Try.underlying22 sizeOf4 (eOf lo' ((⟨V, E, p⟩, ay) : PA)) (O.mem MEB2) rfl (j) rfl rfl hjl rfl ?_
                rw [Nat.mul_one]
                exact hK _ O
              · exact wp_ecell_h (eOf lo' ((⟨V, E, p⟩, ay) : PA)) (O.mem MEB2) (j) (bools_at HV.out) rfl agg4 rfl (hK _ O)
              · have gn : ((v : Bool) != (v : Bool)) = false := by simp
                go_simp
                exact hK _ O
              refine wpAny_done (by kernel_rfl) ?_ _
              go_wp2_with fail
              go_roundw
              case rel => first | exact ⟨j + 1, by omega, by go_num, O⟩ | ((repeat apply Exists.intro); exact ⟨⟨j + 1, by omega, by go_num, O⟩, rfl⟩)
              case measure => simp [intOf]; omega
            · have q3 : ¬ (j : Int) < E.length := by omega
              obtain rfl : j = E.length := by omega
              go_wp2_with (first | ((with_reducible refine at_index_ 90 ?_); refine wpList_at_h rfl Try.underlying24 sizeOf35 (pE lo A c a) (O.mem MA) rfl (k) rfl rfl hlt rfl ?_) | ((with_reducible refine at_fld 91 ?_); refine wpList_fld_h rfl (f35_1 _) rfl ?_; rw [add_add']) | ((with_reducible refine at_load 92 ?_); refine wpList_ecell_h rfl (pE lo A c a) (O.mem MA) ((k) * 3 + 1) (pmcs_at HX.out 1 _ rfl) rfl agg22 rfl ?_))
              go_roundw
              case rel => exact ⟨k + 1, by omega, by go_num, O⟩
              case measure => simp [intOf]; omega
    · have q1 : ¬ (k : Int) < a.length := by omega
      obtain rfl : k = a.length := by omega
      go_wp2_with fail
      go_ret
      exact ⟨rfl, O.below⟩
end Go.Proofs.Ytadpejblhkcjgaa
