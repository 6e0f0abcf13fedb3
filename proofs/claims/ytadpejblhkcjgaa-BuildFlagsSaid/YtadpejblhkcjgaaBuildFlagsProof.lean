/-
  For every byte, row of flags and bool the law BuildFlags returns true: of triangles, quads and a polygon a side is an edge just if its first vertex is flagged; of other faces each is one; of no others any. No condition.
-/
import Derived.Test.YtadpejblhkcjgaaRow
import Derived.Test.YtadpejblhkcjgaaF
import Derived.Deep.DeepCutAuto
namespace Go.Proofs.Ytadpejblhkcjgaa.buildFlags
open Go.ChangeShapes Go.WideShapes Go.ChangeAt Go.RowKit
set_option linter.unusedVariables false
set_option linter.unusedSimpArgs false

theorem own : ownKnob Try.prog.godebug = none := by kernel_rfl

set_option maxRecDepth 100000 in
set_option maxHeartbeats 16000000 in
theorem walk (w : World) (u : Nat) (A0 : Option Addr) (c0 : Nat) (fl : List Bool) (first : Bool) (hu : u ≤ 255) (hF : Lies w free (bE 0 A0 c0 fl)) :
    Calls Try.prog 7 #[.int .u8 u, .slice A0 fl.length c0, .bool first] w fun e w' => e = .returned (.bool true) ∧ Below w.heap.size w w' := by
  have O := Held.start w [bE 0 A0 c0 fl] (by simpa using hF)
  clear hF
  by_cases h100 : 100 < fl.length
  · have q1 : (100 : Int) < fl.length := by omega
    go_enter Try.func7, Try.ntmps7
    go_wp2_with (go_at_call 8; refine (awake_any _).mono ?_; rintro e w6 ⟨rfl, hb⟩; replace O := O.call hb; clear hb)
    go_ret
    exact ⟨rfl, O.below⟩
  have q1 : ¬ (100 : Int) < fl.length := by omega
  have hn : fl.length ≤ 256 := by omega
  obtain ⟨m, hm⟩ : ∃ m, u % 10 = m := ⟨_, rfl⟩
  have hm9 : m ≤ 9 := by omega
  have e1 : Int.tmod (u : Int) 10 = ((m : Nat) : Int) := by rw [← hm]; rfl
  have e2 : IntKind.u8.wrap ((m : Nat) : Int) = ((m : Nat) : Int) := by rw [IntKind.wrap_u8]; omega
  have e3 : IntKind.i64.wrap ((m : Nat) : Int) = ((m : Nat) : Int) := IntWalk.i64_in _ (by omega)
  have HP := Lib.hid (P.prims_in hm9 hn first)
  clear h100 hm
  go_enter Try.func7, Try.ntmps7
  go_wp2_with (go_at_call 9; have hpr := prims_any m fl first _ (O.arg (x := bE 0 A0 c0 fl) (by simp)); rw [HP.out] at hpr; refine hpr.mono ?_; clear hpr; rintro e w3 hr; obtain ⟨A, c, l, hl, rfl, O2⟩ := O.gainP hr; clear O hr; have O := O2; clear O2; dsimp only at hl; have HL := Lib.hid hl; clear hl)
  clear e1 e2 e3
  obtain ⟨es, O2, MA, hME, hMF⟩ := O.hide
  have MF : bE 0 A0 c0 fl ∈ es := hMF _ (by simp)
  have ME := Lib.hid hME
  clear hME hMF O
  have O := O2
  clear O2
  have hll : l.length ≤ 256 := by
    have := few_of HL.out (Nat.le_refl _)
    have h2 := P.prims_few m fl first
    rw [HP.out] at h2
    exact Nat.le_trans this h2
  go_loopw [10] (fun t wr => ∃ i : Nat, i ≤ l.length ∧ t = .int .i64 i ∧ Held w wr [] nilRow es) (fun t _ => l.length - (intOf t).toNat)
  case atStart => exact ⟨0, Nat.zero_le _, rfl, O⟩
  case round =>
    clear O
    obtain ⟨i, hi, rfl, O⟩ := hrel
    have q0 : (0 : Int) ≤ i := by omega
    by_cases hlt : i < l.length
    · have q2 : (i : Int) < l.length := by omega
      obtain ⟨x, hx⟩ : ∃ x, l[i]? = some x := ⟨_, List.getElem?_eq_getElem hlt⟩
      obtain ⟨⟨V, E, p⟩, ax⟩ := x
      obtain ⟨hic, hq⟩ := P.list_at (at_of HL.out hx)
      have MV := ME.out _ (ents_v hx)
      have MEE := ME.out _ (ents_e hx)
      have HX := Lib.hid hx
      clear hx
      have HQ := Lib.hid hq
      clear hq
      by_cases h4 : m < 4
      · have hE : E = [] := by have := congrArg Pm.E HQ.out; rw [P.flag_low h4] at this; exact this
        subst hE
        have q3 : decide ((m : Int) < 4) = true := by simp; omega
        have q4 : decide ((4 : Int) ≤ m) = false := by simp; omega
        clear h4
        go_wp2_with fail
        refine region_T (fun w2 => Held w w2 [] nilRow es) [0, 1, 2, 3, 4, 5, 6, 7, 8, 9, 10, 11, 12, 13, 14, 15, 16, 17, 18, 19, 20, 21, 22, 23, 24, 25, 26, 27, 28, 29] 12 [some 35, some 36, some 37, some 38, some 39, some 40, some 41, some 42, some 43, some 44, some 45, some 46, some 47, some 48, some 49, some 50, some 51, some 52, some 53, some 54, some 55, some 56, some 57, some 58, some 59, some 60, some 61, some 62, some 63, some 64] [.int .i64 m, .bool true, .bool true, .slice A l.length c, .int .i64 i, .pointer (some ((adr A).add ((i) * 3))), .pointer (some ((adr A).add ((i) * 3 + 1))), .slice ax.EA 0 ax.Ec, .int .i64 0, .bool false, .bool false, .bool false, .int .i64 m, .bool false, .bool false, undef, undef, undef, undef, undef, undef, undef, undef, undef, undef, undef, undef, undef, .bool false, .bool false] 0 (by kernel_rfl) (by rfl) (by kernel_rfl) (by rfl) (by rfl) (O.drew) (fun F hF => ?_)
        simp only [fillD, Act.put, List.setIfInBounds_toArray, List.set_cons_zero, List.set_cons_succ] at hF
        subst hF
        refine ⟨⟨does_want rfl (by rfl) (fun w' O K hK => ?_), does_want rfl (by rfl) (fun w' O K hK => ?_), does_want rfl (by rfl) (fun w' O K hK => ?_), does_want rfl (by rfl) (fun w' O K hK => ?_), does_want rfl (by rfl) (fun w' O K hK => ?_), does_want rfl (by rfl) (fun w' O K hK => ?_), does_want rfl (by rfl) (fun w' O K hK => ?_), does_want rfl (by rfl) (fun w' O K hK => ?_), does_want rfl (by rfl) (fun w' O K hK => ?_), does_want rfl (by rfl) (fun w' O K hK => ?_), does_want rfl (by rfl) (fun w' O K hK => ?_), does_want rfl (by rfl) (fun w' O K hK => ?_), does_want rfl (by rfl) (fun w' O K hK => ?_), does_want rfl (by rfl) (fun w' O K hK => ?_), does_want rfl (by rfl) (fun w' O K hK => ?_), does_skip rfl (by rfl), does_skip rfl (by rfl), does_skip rfl (by rfl), does_skip rfl (by rfl), does_skip rfl (by rfl), does_skip rfl (by rfl), does_skip rfl (by rfl), does_skip rfl (by rfl), does_skip rfl (by rfl), does_skip rfl (by rfl), does_skip rfl (by rfl), does_skip rfl (by rfl), does_skip rfl (by rfl), does_want rfl (by rfl) (fun w' O K hK => ?_), does_want rfl (by rfl) (fun w' O K hK => ?_), trivial⟩, fun w' O => ?_⟩
        · go_simp
          exact hK _ O
        · go_simp
          exact hK _ O
        · go_simp
          exact hK _ O
        · go_simp
          exact hK _ O
        · go_simp
          exact hK _ O
        · exact wp_at_h Try.underlying24 sizeOf35 (pE w.heap.size A c l) (O.mem MA) rfl (i) rfl rfl hlt rfl (hK _ O)
        · refine wp_fld_h (f35_1 _) rfl ?_
          rw [add_add']
          exact hK _ O
        · exact wp_ecell_h (pE w.heap.size A c l) (O.mem MA) ((i) * 3 + 1) (pmcs_at HX.out 1 _ rfl) rfl agg22 rfl (hK _ O)
        · go_simp
          exact hK _ O
        · go_simp
          exact hK _ O
        · go_simp
          exact hK _ O
        · go_simp
          exact hK _ O
        · go_simp
          exact hK _ O
        · go_simp
          exact hK _ O
        · go_simp
          exact hK _ O
        · go_simp
          exact hK _ O
        · go_simp
          exact hK _ O
        refine wpAny_done (by kernel_rfl) ?_ _
        go_wp2_with fail
        have OO := O
        clear O
        clear O
        have O := OO
        clear OO
        go_loopw [11] (fun t wr => t = .int .i64 0 ∧ Held w wr [] nilRow es) (fun t _ => 0)
        case atStart => exact ⟨rfl, O⟩
        case round =>
          clear O
          obtain ⟨rfl, O⟩ := hrel
          go_wp2_with (first | ((with_reducible refine at_index_ 68 ?_); refine wpList_at_h rfl Try.underlying24 sizeOf35 (pE w.heap.size A c l) (O.mem MA) rfl (i) rfl rfl hlt rfl ?_) | ((with_reducible refine at_fld 69 ?_); refine wpList_fld_h rfl (f35_1 _) rfl ?_; rw [add_add']) | ((with_reducible refine at_load 70 ?_); refine wpList_ecell_h rfl (pE w.heap.size A c l) (O.mem MA) ((i) * 3 + 1) (pmcs_at HX.out 1 _ rfl) rfl agg22 rfl ?_))
          go_roundw
          case rel => first | exact ⟨i + 1, by omega, by go_num, O⟩ | ((repeat apply Exists.intro); exact ⟨⟨i + 1, by omega, by go_num, O⟩, rfl⟩)
          case measure => simp [intOf]; omega
      · have hEV : E.length = V.length := by have := P.flag_len (fl := fl) (first := first) (i := i) (show 4 ≤ m by omega) hm9; rw [← HQ.out] at this; exact this
        have q3 : decide ((m : Int) < 4) = false := by simp; omega
        have q4 : decide ((4 : Int) ≤ m) = true := by simp; omega
        have HEV := Lib.hid hEV
        have hV4 : V.length ≤ 256 := by have := (P.list_le hm9 hn first _ (List.mem_of_getElem? (at_of HL.out HX.out))).1; exact this
        have HFA : Hid (∀ (k v : Nat) (e : Bool), V[k]? = some v → E[k]? = some e → ∃ b, v < fl.length ∧ fl[v]? = some b ∧ e = ((m != 4 && m != 7 && m != 9) || b)) := by
          show _
          intro k v e h1 h2
          have := P.flag_at (fl := fl) (first := first) (i := i) (show 4 ≤ m by omega) hm9 hic (k := k) (v := v) (e := e)
          rw [← HQ.out] at this
          exact this h1 h2
        clear hEV
        go_wp2_with fail
        refine region_T (fun w2 => Held w w2 [] nilRow es) [0, 1, 2, 3, 4, 5, 6, 7, 8, 9, 10, 11, 12, 13, 14, 15, 16, 17, 18, 19, 20, 21, 22, 23, 24, 25, 26, 27, 28, 29] 12 [some 35, some 36, some 37, some 38, some 39, some 40, some 41, some 42, some 43, some 44, some 45, some 46, some 47, some 48, some 49, some 50, some 51, some 52, some 53, some 54, some 55, some 56, some 57, some 58, some 59, some 60, some 61, some 62, some 63, some 64] [.int .i64 m, .bool false, .bool false, undef, undef, undef, undef, undef, undef, undef, .bool false, .bool false, .int .i64 m, .bool true, .bool true, .slice A l.length c, .int .i64 i, .pointer (some ((adr A).add ((i) * 3))), .pointer (some ((adr A).add ((i) * 3 + 1))), .slice ax.EA E.length ax.Ec, .int .i64 E.length, .slice A l.length c, .int .i64 i, .pointer (some ((adr A).add ((i) * 3))), .pointer (some ((adr A).add ((i) * 3))), .slice ax.VA V.length ax.Vc, .int .i64 V.length, .bool false, .bool false, .bool false] 0 (by kernel_rfl) (by rfl) (by kernel_rfl) (by rfl) (by rfl) (O.drew) (fun F hF => ?_)
        simp only [fillD, Act.put, List.setIfInBounds_toArray, List.set_cons_zero, List.set_cons_succ] at hF
        subst hF
        refine ⟨⟨does_want rfl (by rfl) (fun w' O K hK => ?_), does_want rfl (by rfl) (fun w' O K hK => ?_), does_want rfl (by rfl) (fun w' O K hK => ?_), does_skip rfl (by rfl), does_skip rfl (by rfl), does_skip rfl (by rfl), does_skip rfl (by rfl), does_skip rfl (by rfl), does_skip rfl (by rfl), does_skip rfl (by rfl), does_want rfl (by rfl) (fun w' O K hK => ?_), does_want rfl (by rfl) (fun w' O K hK => ?_), does_want rfl (by rfl) (fun w' O K hK => ?_), does_want rfl (by rfl) (fun w' O K hK => ?_), does_want rfl (by rfl) (fun w' O K hK => ?_), does_want rfl (by rfl) (fun w' O K hK => ?_), does_want rfl (by rfl) (fun w' O K hK => ?_), does_want rfl (by rfl) (fun w' O K hK => ?_), does_want rfl (by rfl) (fun w' O K hK => ?_), does_want rfl (by rfl) (fun w' O K hK => ?_), does_want rfl (by rfl) (fun w' O K hK => ?_), does_want rfl (by rfl) (fun w' O K hK => ?_), does_want rfl (by rfl) (fun w' O K hK => ?_), does_want rfl (by rfl) (fun w' O K hK => ?_), does_want rfl (by rfl) (fun w' O K hK => ?_), does_want rfl (by rfl) (fun w' O K hK => ?_), does_want rfl (by rfl) (fun w' O K hK => ?_), does_want rfl (by rfl) (fun w' O K hK => ?_), does_want rfl (by rfl) (fun w' O K hK => ?_), does_want rfl (by rfl) (fun w' O K hK => ?_), trivial⟩, fun w' O => ?_⟩
        · go_simp
          exact hK _ O
        · go_simp
          exact hK _ O
        · go_simp
          exact hK _ O
        · go_simp
          exact hK _ O
        · go_simp
          exact hK _ O
        · go_simp
          exact hK _ O
        · go_simp
          exact hK _ O
        · go_simp
          exact hK _ O
        · go_simp
          exact hK _ O
        · go_simp
          exact hK _ O
        · exact wp_at_h Try.underlying24 sizeOf35 (pE w.heap.size A c l) (O.mem MA) rfl (i) rfl rfl hlt rfl (hK _ O)
        · refine wp_fld_h (f35_1 _) rfl ?_
          rw [add_add']
          exact hK _ O
        · exact wp_ecell_h (pE w.heap.size A c l) (O.mem MA) ((i) * 3 + 1) (pmcs_at HX.out 1 _ rfl) rfl agg22 rfl (hK _ O)
        · go_simp
          exact hK _ O
        · go_simp
          exact hK _ O
        · go_simp
          exact hK _ O
        · exact wp_at_h Try.underlying24 sizeOf35 (pE w.heap.size A c l) (O.mem MA) rfl (i) rfl rfl hlt rfl (hK _ O)
        · refine wp_fld_h (f35_0 _) rfl ?_
          rw [add_add']
          exact hK _ O
        · exact wp_ecell_h (pE w.heap.size A c l) (O.mem MA) ((i) * 3 + 0) (pmcs_at HX.out 0 _ rfl) rfl agg33 rfl (hK _ O)
        · go_simp
          exact hK _ O
        · have gn : ((E.length : Int) != (V.length : Int)) = false := by rw [HEV.out]; simp
          go_simp
          exact hK _ O
        · go_simp
          exact hK _ O
        · go_simp
          exact hK _ O
        refine wpAny_done (by kernel_rfl) ?_ _
        go_wp2_with fail
        have OO := O
        clear O
        clear O
        have O := OO
        clear OO
        clear q3 q4
        go_loopw [11] (fun t wr => ∃ k : Nat, k ≤ E.length ∧ t = .int .i64 k ∧ Held w wr [] nilRow es) (fun t _ => E.length - (intOf t).toNat)
        case atStart => exact ⟨0, Nat.zero_le _, rfl, O⟩
        case round =>
          clear O
          obtain ⟨k, hk, rfl, O⟩ := hrel
          have q5 : (0 : Int) ≤ k := by omega
          by_cases hkl : k < E.length
          · have q6 : (k : Int) < E.length := by omega
            have hkv : k < V.length := by have := HEV.out; omega
            obtain ⟨v, hv⟩ : ∃ v, V[k]? = some v := ⟨_, List.getElem?_eq_getElem hkv⟩
            obtain ⟨e, he⟩ : ∃ e, E[k]? = some e := ⟨_, List.getElem?_eq_getElem hkl⟩
            obtain ⟨b, hvl, hb, heb⟩ := HFA.out k v e hv he
            have HV := Lib.hid hv
            have HE := Lib.hid he
            have HB := Lib.hid hb
            have HEB := Lib.hid heb
            have q7 : decide ((v : Int) < 0) = false := by simp
            have q8n : (fl.length ≤ v) = False := by simp; omega
            clear hv he hb heb
            by_cases h4x : m = 4
            · have g4 : ((m : Int) != 4) = false := by simp; omega
              obtain rfl : e = b := by rw [HEB.out]; simp [h4x]
              clear h4x
              go_wp2_with (first | ((with_reducible refine at_index_ 68 ?_); refine wpList_at_h rfl Try.underlying24 sizeOf35 (pE w.heap.size A c l) (O.mem MA) rfl (i) rfl rfl hlt rfl ?_) | ((with_reducible refine at_fld 69 ?_); refine wpList_fld_h rfl (f35_1 _) rfl ?_; rw [add_add']) | ((with_reducible refine at_load 70 ?_); refine wpList_ecell_h rfl (pE w.heap.size A c l) (O.mem MA) ((i) * 3 + 1) (pmcs_at HX.out 1 _ rfl) rfl agg22 rfl ?_) | ((with_reducible refine at_index_ 77 ?_); refine wpList_at_h rfl Try.underlying24 sizeOf35 (pE w.heap.size A c l) (O.mem MA) rfl (i) rfl rfl hlt rfl ?_) | ((with_reducible refine at_fld 78 ?_); refine wpList_fld_h rfl (f35_0 _) rfl ?_; rw [add_add']) | ((with_reducible refine at_load 79 ?_); refine wpList_ecell_h rfl (pE w.heap.size A c l) (O.mem MA) ((i) * 3 + 0) (pmcs_at HX.out 0 _ rfl) rfl agg33 rfl ?_) | ((with_reducible refine at_index_ 81 ?_); refine wpList_at_h rfl Try.underlying33 sizeOf3 (vOf w.heap.size ((⟨V, E, p⟩, ax) : PA)) (O.mem MV) rfl (k) rfl rfl hkv rfl ?_; rw [Nat.mul_one]) | ((with_reducible refine at_load 82 ?_); refine wpList_ecell_h rfl (vOf w.heap.size ((⟨V, E, p⟩, ax) : PA)) (O.mem MV) (k) (ints_at HV.out) rfl agg3 rfl ?_))
              refine region_T (fun w2 => Held w w2 [] nilRow es) [0, 1, 2, 3, 4, 5, 6, 7, 8, 9, 10, 11, 12, 13, 14, 15, 16, 17, 18, 19, 20, 21, 22, 23, 24, 25, 26, 27, 28, 29, 30, 31, 32, 33, 34] 12 [some 83, some 84, some 85, some 86, some 87, some 88, some 89, some 90, some 91, some 92, some 93, some 94, some 95, some 96, some 97, some 98, some 99, some 100, some 101, some 102, some 103, some 104, some 105, some 106, some 107, some 108, some 109, some 110, some 111, some 112, some 113, some 114, some 115, some 116, some 117] [.int .i64 v, .bool false, .bool false, .int .i64 v, .slice A0 fl.length c0, .int .i64 fl.length, .bool false, .bool false, .bool false, .slice A l.length c, .int .i64 i, .pointer (some ((adr A).add ((i) * 3))), .pointer (some ((adr A).add ((i) * 3 + 1))), .slice ax.EA E.length ax.Ec, .int .i64 k, .pointer (some ((adr ax.EA).add (k))), .bool e, .int .i64 m, .bool false, .bool false, undef, undef, .bool false, .bool false, undef, undef, .bool false, .bool false, .slice A0 fl.length c0, .int .i64 v, .pointer (some ((adr A0).add v)), .bool e, .bool e, .bool false, .bool false] 0 (by kernel_rfl) (by rfl) (by kernel_rfl) (by rfl) (by rfl) (O.drew) (fun F hF => ?_)
              simp only [fillD, Act.put, List.setIfInBounds_toArray, List.set_cons_zero, List.set_cons_succ] at hF
              subst hF
              refine ⟨⟨does_want rfl (by rfl) (fun w' O K hK => ?_), does_want rfl (by rfl) (fun w' O K hK => ?_), does_want rfl (by rfl) (fun w' O K hK => ?_), does_want rfl (by rfl) (fun w' O K hK => ?_), does_want rfl (by rfl) (fun w' O K hK => ?_), does_want rfl (by rfl) (fun w' O K hK => ?_), does_want rfl (by rfl) (fun w' O K hK => ?_), does_want rfl (by rfl) (fun w' O K hK => ?_), does_want rfl (by rfl) (fun w' O K hK => ?_), does_want rfl (by rfl) (fun w' O K hK => ?_), does_want rfl (by rfl) (fun w' O K hK => ?_), does_want rfl (by rfl) (fun w' O K hK => ?_), does_want rfl (by rfl) (fun w' O K hK => ?_), does_want rfl (by rfl) (fun w' O K hK => ?_), does_want rfl (by rfl) (fun w' O K hK => ?_), does_want rfl (by rfl) (fun w' O K hK => ?_), does_want rfl (by rfl) (fun w' O K hK => ?_), does_want rfl (by rfl) (fun w' O K hK => ?_), does_want rfl (by rfl) (fun w' O K hK => ?_), does_want rfl (by rfl) (fun w' O K hK => ?_), does_skip rfl (by rfl), does_skip rfl (by rfl), does_want rfl (by rfl) (fun w' O K hK => ?_), does_want rfl (by rfl) (fun w' O K hK => ?_), does_skip rfl (by rfl), does_skip rfl (by rfl), does_want rfl (by rfl) (fun w' O K hK => ?_), does_want rfl (by rfl) (fun w' O K hK => ?_), does_want rfl (by rfl) (fun w' O K hK => ?_), does_want rfl (by rfl) (fun w' O K hK => ?_), does_want rfl (by rfl) (fun w' O K hK => ?_), does_want rfl (by rfl) (fun w' O K hK => ?_), does_want rfl (by rfl) (fun w' O K hK => ?_), does_want rfl (by rfl) (fun w' O K hK => ?_), does_want rfl (by rfl) (fun w' O K hK => ?_), trivial⟩, fun w' O => ?_⟩
              · go_simp
                exact hK _ O
              · go_simp
                exact hK _ O
              · go_simp
                exact hK _ O
              · go_simp
                exact hK _ O
              · go_simp
                exact hK _ O
              · go_simp
                exact hK _ O
              · go_simp
                try simp only [q8n, decide_false]
                exact hK _ O
              · go_simp
                exact hK _ O
              · go_simp
                exact hK _ O
              · go_simp
                exact hK _ O
              · go_simp
                exact hK _ O
              · exact wp_at_h Try.underlying24 sizeOf35 (pE w.heap.size A c l) (O.mem MA) rfl (i) rfl rfl hlt rfl (hK _ O)
              · refine wp_fld_h (f35_1 _) rfl ?_
                rw [add_add']
                exact hK _ O
              · exact wp_ecell_h (pE w.heap.size A c l) (O.mem MA) ((i) * 3 + 1) (pmcs_at HX.out 1 _ rfl) rfl agg22 rfl (hK _ O)
              · go_simp
                exact hK _ O
              · refine wp_at_h Try.underlying22 sizeOf4 (eOf w.heap.size ((⟨V, E, p⟩, ax) : PA)) (O.mem MEE) rfl (k) rfl rfl hkl rfl ?_
                rw [Nat.mul_one]
                exact hK _ O
              · exact wp_ecell_h (eOf w.heap.size ((⟨V, E, p⟩, ax) : PA)) (O.mem MEE) (k) (bools_at HE.out) rfl agg4 rfl (hK _ O)
              · go_simp
                exact hK _ O
              · go_simp
                exact hK _ O
              · go_simp
                exact hK _ O
              · go_simp
                exact hK _ O
              · go_simp
                exact hK _ O
              · go_simp
                exact hK _ O
              · go_simp
                exact hK _ O
              · go_simp
                exact hK _ O
              · go_simp
                exact hK _ O
              · refine wp_at_h Try.underlying22 sizeOf4 (bE 0 A0 c0 fl) (O.mem MF) rfl (v) rfl rfl hvl rfl ?_
                rw [Nat.mul_one]
                exact hK _ O
              · exact wp_ecell_h (bE 0 A0 c0 fl) (O.mem MF) (v) (bools_at HB.out) rfl agg4 rfl (hK _ O)
              · go_simp
                exact hK _ O
              · go_simp
                exact hK _ O
              · go_simp
                exact hK _ O
              refine wpAny_done (by kernel_rfl) ?_ _
              go_wp2_with fail
              go_roundw
              case rel => first | exact ⟨k + 1, by omega, by go_num, O⟩ | ((repeat apply Exists.intro); exact ⟨⟨k + 1, by omega, by go_num, O⟩, rfl⟩)
              case measure => simp [intOf]; omega
            · by_cases h7x : m = 7
              · have g4 : ((m : Int) != 4) = true := by simp; omega
                have g7 : ((m : Int) != 7) = false := by simp; omega
                obtain rfl : e = b := by rw [HEB.out]; simp [h7x]
                clear h4x h7x
                go_wp2_with (first | ((with_reducible refine at_index_ 68 ?_); refine wpList_at_h rfl Try.underlying24 sizeOf35 (pE w.heap.size A c l) (O.mem MA) rfl (i) rfl rfl hlt rfl ?_) | ((with_reducible refine at_fld 69 ?_); refine wpList_fld_h rfl (f35_1 _) rfl ?_; rw [add_add']) | ((with_reducible refine at_load 70 ?_); refine wpList_ecell_h rfl (pE w.heap.size A c l) (O.mem MA) ((i) * 3 + 1) (pmcs_at HX.out 1 _ rfl) rfl agg22 rfl ?_) | ((with_reducible refine at_index_ 77 ?_); refine wpList_at_h rfl Try.underlying24 sizeOf35 (pE w.heap.size A c l) (O.mem MA) rfl (i) rfl rfl hlt rfl ?_) | ((with_reducible refine at_fld 78 ?_); refine wpList_fld_h rfl (f35_0 _) rfl ?_; rw [add_add']) | ((with_reducible refine at_load 79 ?_); refine wpList_ecell_h rfl (pE w.heap.size A c l) (O.mem MA) ((i) * 3 + 0) (pmcs_at HX.out 0 _ rfl) rfl agg33 rfl ?_) | ((with_reducible refine at_index_ 81 ?_); refine wpList_at_h rfl Try.underlying33 sizeOf3 (vOf w.heap.size ((⟨V, E, p⟩, ax) : PA)) (O.mem MV) rfl (k) rfl rfl hkv rfl ?_; rw [Nat.mul_one]) | ((with_reducible refine at_load 82 ?_); refine wpList_ecell_h rfl (vOf w.heap.size ((⟨V, E, p⟩, ax) : PA)) (O.mem MV) (k) (ints_at HV.out) rfl agg3 rfl ?_))
                refine region_T (fun w2 => Held w w2 [] nilRow es) [0, 1, 2, 3, 4, 5, 6, 7, 8, 9, 10, 11, 12, 13, 14, 15, 16, 17, 18, 19, 20, 21, 22, 23, 24, 25, 26, 27, 28, 29, 30, 31, 32, 33, 34] 12 [some 83, some 84, some 85, some 86, some 87, some 88, some 89, some 90, some 91, some 92, some 93, some 94, some 95, some 96, some 97, some 98, some 99, some 100, some 101, some 102, some 103, some 104, some 105, some 106, some 107, some 108, some 109, some 110, some 111, some 112, some 113, some 114, some 115, some 116, some 117] [.int .i64 v, .bool false, .bool false, .int .i64 v, .slice A0 fl.length c0, .int .i64 fl.length, .bool false, .bool false, .bool false, .slice A l.length c, .int .i64 i, .pointer (some ((adr A).add ((i) * 3))), .pointer (some ((adr A).add ((i) * 3 + 1))), .slice ax.EA E.length ax.Ec, .int .i64 k, .pointer (some ((adr ax.EA).add (k))), .bool e, .int .i64 m, .bool true, .bool true, .int .i64 m, .bool false, .bool false, .bool false, undef, undef, .bool false, .bool false, .slice A0 fl.length c0, .int .i64 v, .pointer (some ((adr A0).add v)), .bool e, .bool e, .bool false, .bool false] 0 (by kernel_rfl) (by rfl) (by kernel_rfl) (by rfl) (by rfl) (O.drew) (fun F hF => ?_)
                simp only [fillD, Act.put, List.setIfInBounds_toArray, List.set_cons_zero, List.set_cons_succ] at hF
                subst hF
                refine ⟨⟨does_want rfl (by rfl) (fun w' O K hK => ?_), does_want rfl (by rfl) (fun w' O K hK => ?_), does_want rfl (by rfl) (fun w' O K hK => ?_), does_want rfl (by rfl) (fun w' O K hK => ?_), does_want rfl (by rfl) (fun w' O K hK => ?_), does_want rfl (by rfl) (fun w' O K hK => ?_), does_want rfl (by rfl) (fun w' O K hK => ?_), does_want rfl (by rfl) (fun w' O K hK => ?_), does_want rfl (by rfl) (fun w' O K hK => ?_), does_want rfl (by rfl) (fun w' O K hK => ?_), does_want rfl (by rfl) (fun w' O K hK => ?_), does_want rfl (by rfl) (fun w' O K hK => ?_), does_want rfl (by rfl) (fun w' O K hK => ?_), does_want rfl (by rfl) (fun w' O K hK => ?_), does_want rfl (by rfl) (fun w' O K hK => ?_), does_want rfl (by rfl) (fun w' O K hK => ?_), does_want rfl (by rfl) (fun w' O K hK => ?_), does_want rfl (by rfl) (fun w' O K hK => ?_), does_want rfl (by rfl) (fun w' O K hK => ?_), does_want rfl (by rfl) (fun w' O K hK => ?_), does_want rfl (by rfl) (fun w' O K hK => ?_), does_want rfl (by rfl) (fun w' O K hK => ?_), does_want rfl (by rfl) (fun w' O K hK => ?_), does_want rfl (by rfl) (fun w' O K hK => ?_), does_skip rfl (by rfl), does_skip rfl (by rfl), does_want rfl (by rfl) (fun w' O K hK => ?_), does_want rfl (by rfl) (fun w' O K hK => ?_), does_want rfl (by rfl) (fun w' O K hK => ?_), does_want rfl (by rfl) (fun w' O K hK => ?_), does_want rfl (by rfl) (fun w' O K hK => ?_), does_want rfl (by rfl) (fun w' O K hK => ?_), does_want rfl (by rfl) (fun w' O K hK => ?_), does_want rfl (by rfl) (fun w' O K hK => ?_), does_want rfl (by rfl) (fun w' O K hK => ?_), trivial⟩, fun w' O => ?_⟩
                · go_simp
                  exact hK _ O
                · go_simp
                  exact hK _ O
                · go_simp
                  exact hK _ O
                · go_simp
                  exact hK _ O
                · go_simp
                  exact hK _ O
                · go_simp
                  exact hK _ O
                · go_simp
                  try simp only [q8n, decide_false]
                  exact hK _ O
                · go_simp
                  exact hK _ O
                · go_simp
                  exact hK _ O
                · go_simp
                  exact hK _ O
                · go_simp
                  exact hK _ O
                · exact wp_at_h Try.underlying24 sizeOf35 (pE w.heap.size A c l) (O.mem MA) rfl (i) rfl rfl hlt rfl (hK _ O)
                · refine wp_fld_h (f35_1 _) rfl ?_
                  rw [add_add']
                  exact hK _ O
                · exact wp_ecell_h (pE w.heap.size A c l) (O.mem MA) ((i) * 3 + 1) (pmcs_at HX.out 1 _ rfl) rfl agg22 rfl (hK _ O)
                · go_simp
                  exact hK _ O
                · refine wp_at_h Try.underlying22 sizeOf4 (eOf w.heap.size ((⟨V, E, p⟩, ax) : PA)) (O.mem MEE) rfl (k) rfl rfl hkl rfl ?_
                  rw [Nat.mul_one]
                  exact hK _ O
                · exact wp_ecell_h (eOf w.heap.size ((⟨V, E, p⟩, ax) : PA)) (O.mem MEE) (k) (bools_at HE.out) rfl agg4 rfl (hK _ O)
                · go_simp
                  exact hK _ O
                · go_simp
                  exact hK _ O
                · go_simp
                  exact hK _ O
                · go_simp
                  exact hK _ O
                · go_simp
                  exact hK _ O
                · go_simp
                  exact hK _ O
                · go_simp
                  exact hK _ O
                · go_simp
                  exact hK _ O
                · go_simp
                  exact hK _ O
                · go_simp
                  exact hK _ O
                · go_simp
                  exact hK _ O
                · refine wp_at_h Try.underlying22 sizeOf4 (bE 0 A0 c0 fl) (O.mem MF) rfl (v) rfl rfl hvl rfl ?_
                  rw [Nat.mul_one]
                  exact hK _ O
                · exact wp_ecell_h (bE 0 A0 c0 fl) (O.mem MF) (v) (bools_at HB.out) rfl agg4 rfl (hK _ O)
                · go_simp
                  exact hK _ O
                · go_simp
                  exact hK _ O
                · go_simp
                  exact hK _ O
                refine wpAny_done (by kernel_rfl) ?_ _
                go_wp2_with fail
                go_roundw
                case rel => first | exact ⟨k + 1, by omega, by go_num, O⟩ | ((repeat apply Exists.intro); exact ⟨⟨k + 1, by omega, by go_num, O⟩, rfl⟩)
                case measure => simp [intOf]; omega
              · by_cases h9x : m = 9
                · have g4 : ((m : Int) != 4) = true := by simp; omega
                  have g7 : ((m : Int) != 7) = true := by simp; omega
                  have g9 : ((m : Int) != 9) = false := by simp; omega
                  obtain rfl : e = b := by rw [HEB.out]; simp [h9x]
                  clear h4x h7x h9x
                  go_wp2_with (first | ((with_reducible refine at_index_ 68 ?_); refine wpList_at_h rfl Try.underlying24 sizeOf35 (pE w.heap.size A c l) (O.mem MA) rfl (i) rfl rfl hlt rfl ?_) | ((with_reducible refine at_fld 69 ?_); refine wpList_fld_h rfl (f35_1 _) rfl ?_; rw [add_add']) | ((with_reducible refine at_load 70 ?_); refine wpList_ecell_h rfl (pE w.heap.size A c l) (O.mem MA) ((i) * 3 + 1) (pmcs_at HX.out 1 _ rfl) rfl agg22 rfl ?_) | ((with_reducible refine at_index_ 77 ?_); refine wpList_at_h rfl Try.underlying24 sizeOf35 (pE w.heap.size A c l) (O.mem MA) rfl (i) rfl rfl hlt rfl ?_) | ((with_reducible refine at_fld 78 ?_); refine wpList_fld_h rfl (f35_0 _) rfl ?_; rw [add_add']) | ((with_reducible refine at_load 79 ?_); refine wpList_ecell_h rfl (pE w.heap.size A c l) (O.mem MA) ((i) * 3 + 0) (pmcs_at HX.out 0 _ rfl) rfl agg33 rfl ?_) | ((with_reducible refine at_index_ 81 ?_); refine wpList_at_h rfl Try.underlying33 sizeOf3 (vOf w.heap.size ((⟨V, E, p⟩, ax) : PA)) (O.mem MV) rfl (k) rfl rfl hkv rfl ?_; rw [Nat.mul_one]) | ((with_reducible refine at_load 82 ?_); refine wpList_ecell_h rfl (vOf w.heap.size ((⟨V, E, p⟩, ax) : PA)) (O.mem MV) (k) (ints_at HV.out) rfl agg3 rfl ?_))
                  refine region_T (fun w2 => Held w w2 [] nilRow es) [0, 1, 2, 3, 4, 5, 6, 7, 8, 9, 10, 11, 12, 13, 14, 15, 16, 17, 18, 19, 20, 21, 22, 23, 24, 25, 26, 27, 28, 29, 30, 31, 32, 33, 34] 12 [some 83, some 84, some 85, some 86, some 87, some 88, some 89, some 90, some 91, some 92, some 93, some 94, some 95, some 96, some 97, some 98, some 99, some 100, some 101, some 102, some 103, some 104, some 105, some 106, some 107, some 108, some 109, some 110, some 111, some 112, some 113, some 114, some 115, some 116, some 117] [.int .i64 v, .bool false, .bool false, .int .i64 v, .slice A0 fl.length c0, .int .i64 fl.length, .bool false, .bool false, .bool false, .slice A l.length c, .int .i64 i, .pointer (some ((adr A).add ((i) * 3))), .pointer (some ((adr A).add ((i) * 3 + 1))), .slice ax.EA E.length ax.Ec, .int .i64 k, .pointer (some ((adr ax.EA).add (k))), .bool e, .int .i64 m, .bool true, .bool true, .int .i64 m, .bool true, .bool true, .bool true, .int .i64 m, .bool false, .bool false, .bool false, .slice A0 fl.length c0, .int .i64 v, .pointer (some ((adr A0).add v)), .bool e, .bool e, .bool false, .bool false] 0 (by kernel_rfl) (by rfl) (by kernel_rfl) (by rfl) (by rfl) (O.drew) (fun F hF => ?_)
                  simp only [fillD, Act.put, List.setIfInBounds_toArray, List.set_cons_zero, List.set_cons_succ] at hF
                  subst hF
                  refine ⟨⟨does_want rfl (by rfl) (fun w' O K hK => ?_), does_want rfl (by rfl) (fun w' O K hK => ?_), does_want rfl (by rfl) (fun w' O K hK => ?_), does_want rfl (by rfl) (fun w' O K hK => ?_), does_want rfl (by rfl) (fun w' O K hK => ?_), does_want rfl (by rfl) (fun w' O K hK => ?_), does_want rfl (by rfl) (fun w' O K hK => ?_), does_want rfl (by rfl) (fun w' O K hK => ?_), does_want rfl (by rfl) (fun w' O K hK => ?_), does_want rfl (by rfl) (fun w' O K hK => ?_), does_want rfl (by rfl) (fun w' O K hK => ?_), does_want rfl (by rfl) (fun w' O K hK => ?_), does_want rfl (by rfl) (fun w' O K hK => ?_), does_want rfl (by rfl) (fun w' O K hK => ?_), does_want rfl (by rfl) (fun w' O K hK => ?_), does_want rfl (by rfl) (fun w' O K hK => ?_), does_want rfl (by rfl) (fun w' O K hK => ?_), does_want rfl (by rfl) (fun w' O K hK => ?_), does_want rfl (by rfl) (fun w' O K hK => ?_), does_want rfl (by rfl) (fun w' O K hK => ?_), does_want rfl (by rfl) (fun w' O K hK => ?_), does_want rfl (by rfl) (fun w' O K hK => ?_), does_want rfl (by rfl) (fun w' O K hK => ?_), does_want rfl (by rfl) (fun w' O K hK => ?_), does_want rfl (by rfl) (fun w' O K hK => ?_), does_want rfl (by rfl) (fun w' O K hK => ?_), does_want rfl (by rfl) (fun w' O K hK => ?_), does_want rfl (by rfl) (fun w' O K hK => ?_), does_want rfl (by rfl) (fun w' O K hK => ?_), does_want rfl (by rfl) (fun w' O K hK => ?_), does_want rfl (by rfl) (fun w' O K hK => ?_), does_want rfl (by rfl) (fun w' O K hK => ?_), does_want rfl (by rfl) (fun w' O K hK => ?_), does_want rfl (by rfl) (fun w' O K hK => ?_), does_want rfl (by rfl) (fun w' O K hK => ?_), trivial⟩, fun w' O => ?_⟩
                  · go_simp
                    exact hK _ O
                  · go_simp
                    exact hK _ O
                  · go_simp
                    exact hK _ O
                  · go_simp
                    exact hK _ O
                  · go_simp
                    exact hK _ O
                  · go_simp
                    exact hK _ O
                  · go_simp
                    try simp only [q8n, decide_false]
                    exact hK _ O
                  · go_simp
                    exact hK _ O
                  · go_simp
                    exact hK _ O
                  · go_simp
                    exact hK _ O
                  · go_simp
                    exact hK _ O
                  · exact wp_at_h Try.underlying24 sizeOf35 (pE w.heap.size A c l) (O.mem MA) rfl (i) rfl rfl hlt rfl (hK _ O)
                  · refine wp_fld_h (f35_1 _) rfl ?_
                    rw [add_add']
                    exact hK _ O
                  · exact wp_ecell_h (pE w.heap.size A c l) (O.mem MA) ((i) * 3 + 1) (pmcs_at HX.out 1 _ rfl) rfl agg22 rfl (hK _ O)
                  · go_simp
                    exact hK _ O
                  · refine wp_at_h Try.underlying22 sizeOf4 (eOf w.heap.size ((⟨V, E, p⟩, ax) : PA)) (O.mem MEE) rfl (k) rfl rfl hkl rfl ?_
                    rw [Nat.mul_one]
                    exact hK _ O
                  · exact wp_ecell_h (eOf w.heap.size ((⟨V, E, p⟩, ax) : PA)) (O.mem MEE) (k) (bools_at HE.out) rfl agg4 rfl (hK _ O)
                  · go_simp
                    exact hK _ O
                  · go_simp
                    exact hK _ O
                  · go_simp
                    exact hK _ O
                  · go_simp
                    exact hK _ O
                  · go_simp
                    exact hK _ O
                  · go_simp
                    exact hK _ O
                  · go_simp
                    exact hK _ O
                  · go_simp
                    exact hK _ O
                  · go_simp
                    exact hK _ O
                  · go_simp
                    exact hK _ O
                  · go_simp
                    exact hK _ O
                  · go_simp
                    exact hK _ O
                  · go_simp
                    exact hK _ O
                  · refine wp_at_h Try.underlying22 sizeOf4 (bE 0 A0 c0 fl) (O.mem MF) rfl (v) rfl rfl hvl rfl ?_
                    rw [Nat.mul_one]
                    exact hK _ O
                  · exact wp_ecell_h (bE 0 A0 c0 fl) (O.mem MF) (v) (bools_at HB.out) rfl agg4 rfl (hK _ O)
                  · go_simp
                    exact hK _ O
                  · go_simp
                    exact hK _ O
                  · go_simp
                    exact hK _ O
                  refine wpAny_done (by kernel_rfl) ?_ _
                  go_wp2_with fail
                  go_roundw
                  case rel => first | exact ⟨k + 1, by omega, by go_num, O⟩ | ((repeat apply Exists.intro); exact ⟨⟨k + 1, by omega, by go_num, O⟩, rfl⟩)
                  case measure => simp [intOf]; omega
                · have g4 : ((m : Int) != 4) = true := by simp; omega
                  have g7 : ((m : Int) != 7) = true := by simp; omega
                  have g9 : ((m : Int) != 9) = true := by simp; omega
                  obtain rfl : e = true := by rw [HEB.out]; simp [h4x, h7x, h9x]
                  clear h4x h7x h9x
                  go_wp2_with (first | ((with_reducible refine at_index_ 68 ?_); refine wpList_at_h rfl Try.underlying24 sizeOf35 (pE w.heap.size A c l) (O.mem MA) rfl (i) rfl rfl hlt rfl ?_) | ((with_reducible refine at_fld 69 ?_); refine wpList_fld_h rfl (f35_1 _) rfl ?_; rw [add_add']) | ((with_reducible refine at_load 70 ?_); refine wpList_ecell_h rfl (pE w.heap.size A c l) (O.mem MA) ((i) * 3 + 1) (pmcs_at HX.out 1 _ rfl) rfl agg22 rfl ?_) | ((with_reducible refine at_index_ 77 ?_); refine wpList_at_h rfl Try.underlying24 sizeOf35 (pE w.heap.size A c l) (O.mem MA) rfl (i) rfl rfl hlt rfl ?_) | ((with_reducible refine at_fld 78 ?_); refine wpList_fld_h rfl (f35_0 _) rfl ?_; rw [add_add']) | ((with_reducible refine at_load 79 ?_); refine wpList_ecell_h rfl (pE w.heap.size A c l) (O.mem MA) ((i) * 3 + 0) (pmcs_at HX.out 0 _ rfl) rfl agg33 rfl ?_) | ((with_reducible refine at_index_ 81 ?_); refine wpList_at_h rfl Try.underlying33 sizeOf3 (vOf w.heap.size ((⟨V, E, p⟩, ax) : PA)) (O.mem MV) rfl (k) rfl rfl hkv rfl ?_; rw [Nat.mul_one]) | ((with_reducible refine at_load 82 ?_); refine wpList_ecell_h rfl (vOf w.heap.size ((⟨V, E, p⟩, ax) : PA)) (O.mem MV) (k) (ints_at HV.out) rfl agg3 rfl ?_))
                  refine region_T (fun w2 => Held w w2 [] nilRow es) [0, 1, 2, 3, 4, 5, 6, 7, 8, 9, 10, 11, 12, 13, 14, 15, 16, 17, 18, 19, 20, 21, 22, 23, 24, 25, 26, 27, 28, 29, 30, 31, 32, 33, 34] 12 [some 83, some 84, some 85, some 86, some 87, some 88, some 89, some 90, some 91, some 92, some 93, some 94, some 95, some 96, some 97, some 98, some 99, some 100, some 101, some 102, some 103, some 104, some 105, some 106, some 107, some 108, some 109, some 110, some 111, some 112, some 113, some 114, some 115, some 116, some 117] [.int .i64 v, .bool false, .bool false, .int .i64 v, .slice A0 fl.length c0, .int .i64 fl.length, .bool false, .bool false, .bool false, .slice A l.length c, .int .i64 i, .pointer (some ((adr A).add ((i) * 3))), .pointer (some ((adr A).add ((i) * 3 + 1))), .slice ax.EA E.length ax.Ec, .int .i64 k, .pointer (some ((adr ax.EA).add (k))), .bool true, .int .i64 m, .bool true, .bool true, .int .i64 m, .bool true, .bool true, .bool true, .int .i64 m, .bool true, .bool true, .bool true, undef, undef, undef, undef, .bool true, .bool false, .bool false] 0 (by kernel_rfl) (by rfl) (by kernel_rfl) (by rfl) (by rfl) (O.drew) (fun F hF => ?_)
                  simp only [fillD, Act.put, List.setIfInBounds_toArray, List.set_cons_zero, List.set_cons_succ] at hF
                  subst hF
                  refine ⟨⟨does_want rfl (by rfl) (fun w' O K hK => ?_), does_want rfl (by rfl) (fun w' O K hK => ?_), does_want rfl (by rfl) (fun w' O K hK => ?_), does_want rfl (by rfl) (fun w' O K hK => ?_), does_want rfl (by rfl) (fun w' O K hK => ?_), does_want rfl (by rfl) (fun w' O K hK => ?_), does_want rfl (by rfl) (fun w' O K hK => ?_), does_want rfl (by rfl) (fun w' O K hK => ?_), does_want rfl (by rfl) (fun w' O K hK => ?_), does_want rfl (by rfl) (fun w' O K hK => ?_), does_want rfl (by rfl) (fun w' O K hK => ?_), does_want rfl (by rfl) (fun w' O K hK => ?_), does_want rfl (by rfl) (fun w' O K hK => ?_), does_want rfl (by rfl) (fun w' O K hK => ?_), does_want rfl (by rfl) (fun w' O K hK => ?_), does_want rfl (by rfl) (fun w' O K hK => ?_), does_want rfl (by rfl) (fun w' O K hK => ?_), does_want rfl (by rfl) (fun w' O K hK => ?_), does_want rfl (by rfl) (fun w' O K hK => ?_), does_want rfl (by rfl) (fun w' O K hK => ?_), does_want rfl (by rfl) (fun w' O K hK => ?_), does_want rfl (by rfl) (fun w' O K hK => ?_), does_want rfl (by rfl) (fun w' O K hK => ?_), does_want rfl (by rfl) (fun w' O K hK => ?_), does_want rfl (by rfl) (fun w' O K hK => ?_), does_want rfl (by rfl) (fun w' O K hK => ?_), does_want rfl (by rfl) (fun w' O K hK => ?_), does_want rfl (by rfl) (fun w' O K hK => ?_), does_skip rfl (by rfl), does_skip rfl (by rfl), does_skip rfl (by rfl), does_skip rfl (by rfl), does_want rfl (by rfl) (fun w' O K hK => ?_), does_want rfl (by rfl) (fun w' O K hK => ?_), does_want rfl (by rfl) (fun w' O K hK => ?_), trivial⟩, fun w' O => ?_⟩
                  · go_simp
                    exact hK _ O
                  · go_simp
                    exact hK _ O
                  · go_simp
                    exact hK _ O
                  · go_simp
                    exact hK _ O
                  · go_simp
                    exact hK _ O
                  · go_simp
                    exact hK _ O
                  · go_simp
                    try simp only [q8n, decide_false]
                    exact hK _ O
                  · go_simp
                    exact hK _ O
                  · go_simp
                    exact hK _ O
                  · go_simp
                    exact hK _ O
                  · go_simp
                    exact hK _ O
                  · exact wp_at_h Try.underlying24 sizeOf35 (pE w.heap.size A c l) (O.mem MA) rfl (i) rfl rfl hlt rfl (hK _ O)
                  · refine wp_fld_h (f35_1 _) rfl ?_
                    rw [add_add']
                    exact hK _ O
                  · exact wp_ecell_h (pE w.heap.size A c l) (O.mem MA) ((i) * 3 + 1) (pmcs_at HX.out 1 _ rfl) rfl agg22 rfl (hK _ O)
                  · go_simp
                    exact hK _ O
                  · refine wp_at_h Try.underlying22 sizeOf4 (eOf w.heap.size ((⟨V, E, p⟩, ax) : PA)) (O.mem MEE) rfl (k) rfl rfl hkl rfl ?_
                    rw [Nat.mul_one]
                    exact hK _ O
                  · exact wp_ecell_h (eOf w.heap.size ((⟨V, E, p⟩, ax) : PA)) (O.mem MEE) (k) (bools_at HE.out) rfl agg4 rfl (hK _ O)
                  · go_simp
                    exact hK _ O
                  · go_simp
                    exact hK _ O
                  · go_simp
                    exact hK _ O
                  · go_simp
                    exact hK _ O
                  · go_simp
                    exact hK _ O
                  · go_simp
                    exact hK _ O
                  · go_simp
                    exact hK _ O
                  · go_simp
                    exact hK _ O
                  · go_simp
                    exact hK _ O
                  · go_simp
                    exact hK _ O
                  · go_simp
                    exact hK _ O
                  · go_simp
                    exact hK _ O
                  · go_simp
                    exact hK _ O
                  · go_simp
                    exact hK _ O
                  refine wpAny_done (by kernel_rfl) ?_ _
                  go_wp2_with fail
                  go_roundw
                  case rel => first | exact ⟨k + 1, by omega, by go_num, O⟩ | ((repeat apply Exists.intro); exact ⟨⟨k + 1, by omega, by go_num, O⟩, rfl⟩)
                  case measure => simp [intOf]; omega
          · have q6 : ¬ (k : Int) < E.length := by omega
            obtain rfl : k = E.length := by omega
            go_wp2_with (first | ((with_reducible refine at_index_ 68 ?_); refine wpList_at_h rfl Try.underlying24 sizeOf35 (pE w.heap.size A c l) (O.mem MA) rfl (i) rfl rfl hlt rfl ?_) | ((with_reducible refine at_fld 69 ?_); refine wpList_fld_h rfl (f35_1 _) rfl ?_; rw [add_add']) | ((with_reducible refine at_load 70 ?_); refine wpList_ecell_h rfl (pE w.heap.size A c l) (O.mem MA) ((i) * 3 + 1) (pmcs_at HX.out 1 _ rfl) rfl agg22 rfl ?_))
            go_roundw
            case rel => first | exact ⟨i + 1, by omega, by go_num, O⟩ | ((repeat apply Exists.intro); exact ⟨⟨i + 1, by omega, by go_num, O⟩, rfl⟩)
            case measure => simp [intOf]; omega
    · have q2 : ¬ (i : Int) < l.length := by omega
      go_wp2_with (go_at_call 8; refine (awake_any _).mono ?_; rintro e w6 ⟨rfl, hb⟩; replace O := O.call hb; clear hb)
      go_ret
      exact ⟨rfl, O.below⟩

theorem readable : ∀ t ∈ Try.f7.params.toList, Try.prog.readableRec t = true ∧ t < Try.prog.types.size := by
  intro t ht
  rw [Try.params7] at ht
  simp only [List.mem_cons, List.not_mem_nil, or_false] at ht
  repeat (first | (rcases ht with rfl | ht; exact ⟨by kernel_rfl, of_decide_eq_true (by kernel_rfl)⟩) | (subst ht; exact ⟨by kernel_rfl, of_decide_eq_true (by kernel_rfl)⟩))
set_option maxRecDepth 100000 in
theorem lifted (os : Os) (started : os.Started) (H : Type) (enc : TypeId × Value → H) :
    ReturnsInHanded {} Try.checked os 7 .any (Rows.buildFlagsSpec.pre6 enc Try.prog Try.f7 Rows.buildFlagsRow.domain false) (Rows.buildFlagsSpec.post enc Try.prog Try.f7 false true false false) := by
  refine returnsInHanded_of_change (C := Try.checked) own started (by kernel_rfl) Try.func7
    (ChangeSpec.witness6 (enc := enc) (C := Try.checked) false ⟨#[], #[.int .u8 0, .slice none 0 0, .bool false], []⟩ 8 (by kernel_rfl) (by kernel_rfl) (by kernel_rfl) (by kernel_rfl)) ?_
  intro W base args ds gs before hval0 hW hcnd _
  have hval : ∀ (j : Nat) t v, Try.f7.params[j]? = some t → args[j]? = some v → Value.okWide Try.prog W .any base t v := hval0
  have hW' := hW
  obtain ⟨p, q, hA0, hV, rfl, hfz, hnd⟩ := hW
  have hA : DataW.TrodAll enc Try.prog W 0 (fun _ => true) true Try.f7.params.toList args.toList ds p := hA0
  rw [Try.params7] at hA hval
  have hlt : ∀ x ∈ p ++ q, x.block < W.heap.size := fun x hx => hW'.lt x hx
  obtain ⟨v0, vs0, d0, ds0, p0, q0, hargs, rfl, rfl, h0, rr0⟩ := trodAll_cons hA
  obtain ⟨v1, vs1, d1, ds1, p1, q1, rfl, rfl, rfl, h1, rr1⟩ := trodAll_cons rr0
  obtain ⟨v2, vs2, d2, ds2, p2, q2, rfl, rfl, rfl, h2, rr2⟩ := trodAll_cons rr1
  obtain ⟨rfl, rfl, rfl⟩ := trodAll_nil rr2
  obtain rfl : args = #[v0, v1, v2] := by cases args; simp_all
  obtain ⟨rfl, rfl⟩ := trodVars_none hV
  obtain ⟨i0, rfl, rfl, rfl, x0⟩ := open_int Try.underlying5 (hval 0 5 v0 rfl rfl) h0
  obtain ⟨u, rfl, hu⟩ := wf_u8 x0
  obtain ⟨A1, n1, c1, rfl⟩ := okWide_slice Try.underlying22 (hval 1 22 v1 rfl rfl)
  obtain ⟨B1, k1, fl, e1, hF⟩ := openFlags h1 (fun x hx => hlt x (by simp [hx]))
  obtain ⟨rfl, rfl, rfl⟩ := Value.slice.inj e1
  obtain ⟨b2, rfl, rfl, rfl⟩ := open_bool Try.underlying4 (hval 2 4 v2 rfl rfl) h2
  clear hA0 hval0
  refine (walk W u A1 c1 fl b2 hu hF).mono fun e W' ⟨he, hg⟩ => ?_
  subst he
  exact ⟨_, rfl, post_true (tb := 4) laid readable (by kernel_rfl) Try.underlying4 rfl (fun l hl => by
    match l, hl with
    | [_, _, _], _ => exact ⟨rfl, rfl, rfl⟩) hW' hg⟩

theorem over : Rows.buildFlagsRow.holds Try.pinned (OpenSpec.ofChange Rows.buildFlagsSpec) :=
  OpenClaim.holds_of_wide 7 Try.f7 rfl rfl rfl rfl rfl rfl rfl ⟨rfl, rfl, rfl, rfl, rfl⟩ rfl rfl rfl rfl rfl (by kernel_rfl) Try.func7 (by kernel_rfl)
    (of_decide_eq_true (by kernel_rfl)) (by unfold Func.isWrapper; first | (rw [if_pos (by decide +kernel)]; kernel_rfl) | (rw [if_neg (by decide +kernel)]; exact ⟨rfl, rfl⟩))
    (fun os started H enc _ => lifted os started H enc)

theorem proved : Rows.BuildFlagsSaid :=
  over
#print axioms proved
end Go.Proofs.Ytadpejblhkcjgaa.buildFlags
