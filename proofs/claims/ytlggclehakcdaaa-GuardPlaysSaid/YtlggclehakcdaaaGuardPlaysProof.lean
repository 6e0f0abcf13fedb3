/-
  For every slice of acts the law GuardPlays returns true: just what the document says is done, up to where it gives up, and what each Try answers. No condition.
-/
import Derived.Test.YtlggclehakcdaaaRow
import Derived.Test.YtlggclehakcdaaaSame
import Derived.Deep.DeepCutAuto
import Derived.Deep.Slices
namespace Go.Proofs.Ytlggclehakcdaaa.guardPlays
open Go.ChangeShapes Go.WideShapes Go.ChangeAt Go.RowKit
set_option linter.unusedVariables false

theorem own : ownKnob Try.prog.godebug = none := by kernel_rfl
theorem cells42 : Try.prog.cellsOf 42 = 3 := by kernel_rfl
/-- A slice of acts that came in. -/
theorem open22 {H : Type} {enc : TypeId × Value → H} {w : World} {r : Reach} {b0 : Nat} {v : Value} {d : DataW H} {p : List MemPlace}
    (hv : Value.okWide Try.prog w r b0 22 v) (h : DataW.Trod enc Try.prog w 0 (fun _ => true) true 22 v d p) (hlt : ∀ x ∈ p, x.block < w.heap.size) :
    ∃ (A : Option Addr) (cap : Nat) (l : List (Int × Int × Int)), v = .slice A l.length cap ∧ ActsAt w w.heap.size A l ∧ l.length ≤ cap ∧ cap ≤ 9223372036854775807 := by
  obtain ⟨A, len, cap, rfl⟩ := okWide_slice Try.underlying22 hv
  obtain ⟨fuel, hf⟩ := h
  rcases Go.Deep.open_slice Try.underlying22 hf with ⟨hcs, hx⟩ | ⟨a, len', cap', m, n, D, Pl, hcs, _, hl, hm, hmm, hx, hi⟩
  · simp [Value.cells] at hcs
    obtain ⟨rfl, rfl, rfl⟩ := hcs
    exact ⟨none, 0, [], rfl, fun i hi => absurd hi (by simp), by simp, by omega⟩
  · simp [Value.cells] at hcs
    obtain ⟨rfl, rfl, rfl⟩ := hcs
    simp only [Prod.mk.injEq] at hx
    obtain ⟨rfl, rfl⟩ := hx
    simp only [if_true] at hmm
    have each : ∀ i, i < len → ∃ q : Int × Int × Int, w.cell? (a.add (i * 3)) = some (.int .i64 q.1) ∧ w.cell? (a.add (i * 3 + 1)) = some (.int .i64 q.2.1) ∧ w.cell? (a.add (i * 3 + 2)) = some (.int .i64 q.2.2) := by
      intro i hil
      obtain ⟨cs, h1, h2⟩ := hi i (by omega)
      rw [cells42] at h1
      obtain ⟨_, hlen, hcell⟩ := World.cells?_some h1
      obtain ⟨xs, k, _, _, _, hxl, hg⟩ := DataW.trod_struct Try.underlying42 h2
      match cs, hlen with
      | [v0, v1, v2], _ =>
        have c3 : Try.prog.cellsOf 3 = 1 := by kernel_rfl
        have g0 := hg 0 _ rfl
        have g1 := hg 1 _ rfl
        have g2 := hg 2 _ rfl
        simp [c3] at g0 g1 g2
        match xs, hxl with
        | [y0, y1, y2], _ =>
          obtain ⟨n0, e0, _, _⟩ := DataW.trod_int Try.underlying3 g0
          obtain ⟨n1, e1, _, _⟩ := DataW.trod_int Try.underlying3 g1
          obtain ⟨n2, e2, _, _⟩ := DataW.trod_int Try.underlying3 g2
          simp at e0 e1 e2
          subst e0 e1 e2
          have f0 := hcell 0 (by omega)
          have f1 := hcell 1 (by omega)
          have f2 := hcell 2 (by omega)
          rw [add_add'] at f0 f1 f2
          exact ⟨(n0, n1, n2), by simpa using f0, by simpa using f1, by simpa using f2⟩
    obtain ⟨q, hq⟩ := Go.Deep.choose_lt each
    refine ⟨some a, cap, (List.range len).map q, by simp, ?_, by simpa using hl, by unfold maxLen at hm; omega⟩
    intro i hil
    have hil' : i < len := by simpa using hil
    obtain ⟨b, off, spot⟩ := a
    refine ⟨_, rfl, hlt (.cell b off) ?_, ?_⟩
    · refine List.mem_append_left _ (MemPlace.mem_row.2 ⟨0, ?_, by simp⟩)
      rw [cells42]; omega
    · simpa using hq i hil'

set_option maxRecDepth 100000 in
set_option maxHeartbeats 4000000 in
theorem walk (A : Option Addr) (cap : Nat) (l : List (Int × Int × Int)) (hc : l.length ≤ cap) (hm : cap ≤ 9223372036854775807) (w : World) (hA : ActsAt w w.heap.size A l) :
    Calls Try.prog 3 #[.slice A l.length cap] w fun e w' => e = .returned (.bool true) ∧ Below w.heap.size w w' := by
  have aw := awake_any
  have hmf : ∀ (fn : Fn) (first cap : Array Value) (w : World), (Instr.makeFunc fn first cap).run Try.prog w = .ok (.func fn first cap) w := fun _ _ _ _ => rfl
  have K0 : Below w.heap.size w (w.alloc (.cells #[.slice A l.length cap] 22)) := (Below.refl _ w).alloc (Nat.le_refl _) _
  have C0 : (w.alloc (.cells #[.slice A l.length cap] 22)).cell? ⟨w.heap.size, 0, none⟩ = some (.slice A l.length cap) := by simp
  have HC := Lib.hid C0
  have S0 : w.heap.size < (w.alloc (.cells #[.slice A l.length cap] 22)).heap.size := by simp
  clear C0
  by_cases big : 60 < l.length
  · have b1 : (60 : Int) < (l.length : Int) := by omega
    clear hA
    go_enter Try.func3, Try.ntmps3
    go_wp2_with fail
    refine (aw _).mono ?_
    rintro e w1 ⟨rfl, hb⟩
    go_wp2_with fail
    go_ret
    exact ⟨rfl, K0.trans (hb.mono K0.size)⟩
  have b1 : ¬ (60 : Int) < (l.length : Int) := by omega
  have b2 : (l.length : Int) ≤ 60 := by omega
  have hA0 : ActsAt (w.alloc (.cells #[.slice A l.length cap] 22)) w.heap.size A l := hA.below K0
  have HA := Lib.hid hA
  clear hA
  go_enter Try.func3, Try.ntmps3
  go_wp2_with fail
  refine (aw _).mono ?_
  rintro e w1 ⟨rfl, hb⟩
  have c1 := (hb.cell (p := ⟨w.heap.size, 0, none⟩) S0).trans HC.out
  have A1 := hA0.below (hb.mono (Nat.le_of_lt S0))
  have K1 := K0.trans (hb.mono K0.size)
  have S1 : w.heap.size < w1.heap.size := Nat.lt_of_lt_of_le S0 hb.size
  clear hb hA0
  have K2 := K1.alloc K1.size (.cells #[.slice none 0 0] 24)
  have K3 := K2.alloc K2.size (.cells #[.int .i64 0] 25)
  have old : ((w1.alloc (.cells #[.slice none 0 0] 24)).alloc (.cells #[.int .i64 0] 25)).cell? ⟨w.heap.size, 0, none⟩ = some (.slice A l.length cap) := (World.cell?_alloc_lt _ _ ⟨w.heap.size, 0, none⟩ (by simp; omega)).trans ((World.cell?_alloc_lt w1 _ ⟨w.heap.size, 0, none⟩ S1).trans c1)
  have A3 : ActsAt ((w1.alloc (.cells #[.slice none 0 0] 24)).alloc (.cells #[.int .i64 0] 25)) w1.heap.size A l := (A1.below (((((Below.refl _ w1).alloc (Nat.le_refl _) _).alloc (by simp) _)).mono (Nat.le_of_lt S1))).more (Nat.le_of_lt S1)
  have own0 : ((w1.alloc (.cells #[.slice none 0 0] 24)).alloc (.cells #[.int .i64 0] 25)).ownsRow (w1.heap.size + 1) 3 1 (.slice none 0 0) ([] : List Int).length (ints []) := ⟨rfl, .inl ⟨rfl, rfl⟩⟩
  have PL := play_ok (l.length + 1) l A cap (w1.heap.size + 1) w1.heap.size (.slice none 0 0) [] ((w1.alloc (.cells #[.slice none 0 0] 24)).alloc (.cells #[.int .i64 0] 25)) (by omega) (by omega) (by simp; omega) hc hm A3 (by omega) (by simp) (by simp) (by simp) own0
  obtain ⟨R, hR⟩ : ∃ R, P.play l = R := ⟨_, rfl⟩
  have hRl : R.1.length ≤ l.length := by rw [← hR]; exact P.play_len l.length l (Nat.le_refl _)
  rw [hR] at PL
  have T := try_any 8 #[.pointer (some ⟨w.heap.size, 0, none⟩), .pointer (some ⟨w1.heap.size, 0, none⟩)] R.2 (w1.alloc (.cells #[.slice none 0 0] 24)) (fun w2 => ∃ v', w2.cell? ⟨w1.heap.size, 0, none⟩ = some v' ∧ w2.ownsRow (w1.heap.size + 1) 3 1 v' R.1.length (ints R.1) ∧ Two w1.heap.size (.slice none 0 0) ((w1.alloc (.cells #[.slice none 0 0] 24)).alloc (.cells #[.int .i64 0] 25)) w2 ∧ Owns (.slice none 0 0) v' ((w1.alloc (.cells #[.slice none 0 0] 24)).alloc (.cells #[.int .i64 0] 25))) (fun _ => by kernel_rfl)
    (c8 A l.length cap ⟨w.heap.size, 0, none⟩ ⟨w1.heap.size, 0, none⟩ R.2 _ _ old (PL.mono fun e w2 ⟨he, v', h1, h2, h3, h4, h5⟩ => ⟨he, (h4.cell (p := ⟨(w1.alloc (.cells #[.slice none 0 0] 24)).heap.size, 0, none⟩) (by simp) (by simp) (by simp [Value.ownBlock])).trans (by simp), (h4.frozen (p := ⟨(w1.alloc (.cells #[.slice none 0 0] 24)).heap.size, 0, none⟩) (by simp) (by simp) (by simp [Value.ownBlock])).trans (by simp), v', h1, by simpa using h3, h4, h5⟩))
  have REF := fun (wx : World) (h : ActsAt wx wx.heap.size A l) => ref_ok (l.length + 1) l A cap wx (by omega) (by omega) hc hm h
  rw [hR] at REF
  have err_of : errno R.2 = P.err R.2 := by rcases R.2 with _ | _ <;> rfl
  have hng : R.2.isSome = false → P.err R.2 = 0 := by rcases R.2 with _ | _ <;> simp [P.err]
  rw [err_of] at T
  obtain ⟨e0, he0⟩ : ∃ x, P.err R.2 = x := ⟨_, rfl⟩
  obtain ⟨gv, hgv⟩ : ∃ x, R.2.isSome = x := ⟨_, rfl⟩
  have REF2 : ∀ (wx : World), ActsAt wx wx.heap.size A l → Calls Try.prog 10 #[.slice A l.length cap] wx fun e w' => ∃ v', e = .returned (.tuple #[v', .bool gv, .int .i64 e0]) ∧ w'.ownsRow wx.heap.size 3 1 v' R.1.length (ints R.1) ∧ Below wx.heap.size wx w' := by
    rw [← hgv, ← he0]; exact REF
  rw [he0] at T hng
  rw [hgv] at hng
  have HT := Lib.hid T
  have HREF := Lib.hid REF2
  have HNG := Lib.hid hng
  clear T REF REF2 hng he0 hgv PL hR err_of own0 old A3
  go_wp2_with fail
  refine HT.out.mono ?_
  rintro e w3 ⟨rfl, w2, ⟨v', g1, g2, g3, g4⟩, rfl⟩
  have hne : ∀ k, v'.ownBlock = some k → k ≠ w1.heap.size + 1 := by
    intro k hk
    rcases g4 with h | h
    · rw [hk] at h; cases h
    · have := h k hk; simp at this; omega
  have d1 : (w2.setCell ⟨(w1.alloc (.cells #[.slice none 0 0] 24)).heap.size, 0, none⟩ (.int .i64 e0)).cell? ⟨w1.heap.size, 0, none⟩ = some v' := (World.cell?_setCell_other _ _ _ _ (by simp)).trans g1
  have d2 : (w2.setCell ⟨(w1.alloc (.cells #[.slice none 0 0] 24)).heap.size, 0, none⟩ (.int .i64 e0)).ownsRow (w1.heap.size + 1) 3 1 v' R.1.length (ints R.1) := own_set g2 (by simpa using hne)
  have K4 : Below w.heap.size w (w2.setCell ⟨(w1.alloc (.cells #[.slice none 0 0] 24)).heap.size, 0, none⟩ (.int .i64 e0)) := (K3.trans (g3.below (B := w.heap.size) (by simp; omega) (by omega) (fun k hk => by cases hk))).setCell (by simp; omega) _
  have d0 : (w2.setCell ⟨(w1.alloc (.cells #[.slice none 0 0] 24)).heap.size, 0, none⟩ (.int .i64 e0)).cell? ⟨w.heap.size, 0, none⟩ = some (.slice A l.length cap) :=
    (World.cell?_setCell_other _ _ _ _ (by simp <;> omega)).trans ((g3.cell (p := ⟨w.heap.size, 0, none⟩) (by simp; omega) (by dsimp only; omega) (by simp [Value.ownBlock])).trans ((World.cell?_alloc_lt _ _ ⟨w.heap.size, 0, none⟩ (by simp; omega)).trans ((World.cell?_alloc_lt w1 _ ⟨w.heap.size, 0, none⟩ S1).trans c1)))
  have z2 : w1.heap.size + 1 + 1 ≤ w2.heap.size := by have := g3.size; simp at this; omega
  have z3 : (w2.setCell ⟨(w1.alloc (.cells #[.slice none 0 0] 24)).heap.size, 0, none⟩ (.int .i64 e0)).heap.size = w2.heap.size := by simp [World.setCell]
  generalize w2.setCell ⟨(w1.alloc (.cells #[.slice none 0 0] 24)).heap.size, 0, none⟩ (.int .i64 e0) = w3 at *
  have RF := HREF.out w3 ((HA.out.below K4).more (by omega))
  obtain ⟨A5, c5, rfl, rd5⟩ := own_form d2 rfl
  clear g1 g2 g3 g4 hne c1 A1 d2 K3 K2 K1 K0
  have z4 : w1.heap.size < w3.heap.size := by omega
  clear z3
  go_wp2_with fail
  refine RF.mono ?_
  rintro e w4 ⟨v6, rfl, g5, g6⟩
  obtain ⟨A6, c6, rfl, rd6⟩ := own_form g5 rfl
  have f1 := (g6.cell (p := ⟨w1.heap.size, 0, none⟩) z4).trans d1
  have rd5' : Reads w4 w4.heap.size 1 A5 R.1.length (ints R.1) := (rd5.below g6).more g6.size
  have K5 := K4.trans (g6.mono K4.size)
  have SM := same_any A5 A6 c5 c6 R.1 w4 rd5' rd6 (by omega)
  clear RF rd5 g5 g6 d0 d1
  cases gv
  · have e00 := HNG.out rfl
    subst e00
    go_wp2_with fail
    refine SM.mono ?_
    rintro e w5 ⟨rfl, hb⟩
    have K6 := K5.trans (hb.mono K5.size)
    go_wp2_with fail
    go_ret
    exact ⟨rfl, K6⟩
  · go_wp2_with fail
    refine SM.mono ?_
    rintro e w5 ⟨rfl, hb⟩
    have K6 := K5.trans (hb.mono K5.size)
    go_wp2_with fail
    go_ret
    exact ⟨by simp, K6⟩

theorem readable : ∀ t ∈ Try.f3.params.toList, Try.prog.readableRec t = true ∧ t < Try.prog.types.size := by
  intro t ht
  rw [Try.params3] at ht
  simp only [List.mem_cons, List.not_mem_nil, or_false] at ht
  repeat (first | (rcases ht with rfl | ht; exact ⟨by kernel_rfl, of_decide_eq_true (by kernel_rfl)⟩) | (subst ht; exact ⟨by kernel_rfl, of_decide_eq_true (by kernel_rfl)⟩))
set_option maxRecDepth 100000 in
theorem lifted (os : Os) (started : os.Started) (H : Type) (enc : TypeId × Value → H) :
    ReturnsInHanded {} Try.checked os 3 .any (Rows.guardPlaysSpec.pre6 enc Try.prog Try.f3 Rows.guardPlaysRow.domain false) (Rows.guardPlaysSpec.post enc Try.prog Try.f3 false true false false) := by
  refine returnsInHanded_of_change (C := Try.checked) own started (by kernel_rfl) Try.func3
    (ChangeSpec.witness6 (enc := enc) (C := Try.checked) false ⟨#[], #[.slice none 0 0], []⟩ 8 (by kernel_rfl) (by kernel_rfl) (by kernel_rfl) (by kernel_rfl)) ?_
  intro W base args ds gs before hval0 hW hcnd _
  have hval : ∀ (j : Nat) t v, Try.f3.params[j]? = some t → args[j]? = some v → Value.okWide Try.prog W .any base t v := hval0
  have hW' := hW
  obtain ⟨p, q, hA0, hV, rfl, hfz, hnd⟩ := hW
  have hA : DataW.TrodAll enc Try.prog W 0 (fun _ => true) true Try.f3.params.toList args.toList ds p := hA0
  rw [Try.params3] at hA hval
  have hlt : ∀ x ∈ p ++ q, x.block < W.heap.size := fun x hx => hW'.lt x hx
  obtain ⟨v0, d0, rfl, rfl, h0⟩ := trodAll_one hA
  obtain ⟨rfl, rfl⟩ := trodVars_none hV
  obtain ⟨A, cap, l, rfl, hr, hc, hm⟩ := open22 (hval 0 22 v0 rfl rfl) h0 (fun x hx => hlt x (by simp [hx]))
  clear hA0 hval0
  refine (walk A cap l hc hm W hr).mono fun e W' ⟨he, hg⟩ => ?_
  subst he
  exact ⟨_, rfl, post_true (tb := 4) laid readable (by kernel_rfl) Try.underlying4 rfl (fun l hl => by
    match l, hl with
    | [_], _ => exact ⟨rfl, rfl, rfl⟩) hW' hg⟩

theorem over : Rows.guardPlaysRow.holds Try.pinned (OpenSpec.ofChange Rows.guardPlaysSpec) :=
  OpenClaim.holds_of_wide 3 Try.f3 rfl rfl rfl rfl rfl rfl rfl ⟨rfl, rfl, rfl, rfl, rfl⟩ rfl rfl rfl rfl rfl (by kernel_rfl) Try.func3 (by kernel_rfl)
    (of_decide_eq_true (by kernel_rfl)) (by unfold Func.isWrapper; first | (rw [if_pos (by decide +kernel)]; kernel_rfl) | (rw [if_neg (by decide +kernel)]; exact ⟨rfl, rfl⟩))
    (fun os started H enc _ => lifted os started H enc)

theorem proved : Rows.GuardPlaysSaid :=
  over
#print axioms proved
end Go.Proofs.Ytlggclehakcdaaa.guardPlays
