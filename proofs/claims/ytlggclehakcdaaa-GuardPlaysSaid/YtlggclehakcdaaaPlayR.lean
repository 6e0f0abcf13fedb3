/- Contract of the document's Play. -/
import Derived.Test.YtlggclehakcdaaaPlayG
import Derived.BigQuiet
import Derived.Deep.QuietTactic
namespace Go.Proofs.Ytlggclehakcdaaa
open Go.ChangeShapes Go.WideShapes Go.ChangeAt Go.RowKit
set_option linter.unusedVariables false
set_option linter.unusedSimpArgs false

theorem own_form {w : World} {base n : Nat} {v : Value} {l : List Int} (h : w.ownsRow base 3 1 v n (ints l)) (hn : n = l.length) : ∃ A c, v = .slice A l.length c ∧ Reads w w.heap.size 1 A l.length (ints l) := by
  subst hn
  rcases h.2 with ⟨rfl, hz⟩ | ⟨g, cap, cur, rfl, _⟩
  · obtain rfl : l = [] := List.eq_nil_of_length_eq_zero hz
    exact ⟨none, 0, rfl, Reads.none_⟩
  · exact ⟨some ⟨g, 0, none⟩, cap, rfl, Reads.of_own h⟩
/-- How the document's Play ends. -/
def RetPlay (w : World) (R : List Int × Option Int) (e : Ending) (w' : World) : Prop :=
  ∃ v', e = .returned (.tuple #[v', .bool R.2.isSome, .int .i64 (P.err R.2)]) ∧ w'.ownsRow w.heap.size 3 1 v' R.1.length (ints R.1) ∧ Below w.heap.size w w'
def RefOk (f : Nat) : Prop := ∀ (l : List (Int × Int × Int)) (A : Option Addr) (cap : Nat) (w : World), l.length < f → l.length ≤ 1000 → l.length ≤ cap → cap ≤ 9223372036854775807 →
    ActsAt w w.heap.size A l → Calls Try.prog 10 #[.slice A l.length cap] w (RetPlay w (P.play l))
theorem bdrewN {B : Nat} {a w : World} (h : Below B a w) (n : Nat) : Below B a (w.drewN n) := ⟨h.os, h.tape, h.output, h.size, h.block⟩
theorem ActsAt.more {w : World} {B B' : Nat} {A : Option Addr} {l : List (Int × Int × Int)} (h : ActsAt w B A l) (hB : B ≤ B') : ActsAt w B' A l := by
  intro i hi
  obtain ⟨ad, e, lt, c⟩ := h i hi
  exact ⟨ad, e, Nat.lt_of_lt_of_le lt hB, c⟩
set_option maxRecDepth 100000 in
set_option maxHeartbeats 4000000 in
theorem ref_ok : ∀ f, RefOk f := by
  intro f
  induction f with
  | zero => intro l A cap w h; exact absurd h (by omega)
  | succ f ih =>
    intro l A cap w hf hl hc hm hA
    obtain ⟨i0, hi0, hz0, hz1, hz2⟩ := info_parts int_info
    have IH := Lib.hid ih
    clear ih
    go_enter Try.func10, Try.ntmps10
    go_wp2_with fail
    go_loopw [5, 6] (fun u t wr => ∃ (i : Nat) (ys : List Int), t = .int .i64 i ∧ i ≤ l.length ∧ ys.length ≤ i ∧ Hid (P.Goes l i ys) ∧ wr.ownsRow w.heap.size 3 1 u ys.length (ints ys) ∧ Below w.heap.size w wr) (fun _ t _ => l.length - (intOf t).toNat)
    case atStart => exact ⟨0, [], rfl, by omega, by simp, Lib.hid (P.goes_0 l), ⟨rfl, .inl ⟨rfl, rfl⟩⟩, Below.refl _ _⟩
    case round =>
      obtain ⟨i, ys, rfl, hi, hyi, hG, hu, hT⟩ := hrel
      have sz := hT.size
      have hAr : ActsAt wr w.heap.size A l := hA.below hT
      by_cases hlt : i < l.length
      · obtain ⟨ad, hAd, hlt', c0, c1, c2⟩ := hAr i hlt
        obtain ⟨kk, n, m, hk⟩ : ∃ kk n m, l[i] = (kk, n, m) := ⟨_, _, _, rfl⟩
        rw [hk] at c0 c1 c2
        have q : (i : Int) < (l.length : Int) := by omega
        have q0 : (0 : Int) ≤ (i : Int) := by omega
        have q1 : (l.length : Int) ≤ 1000 := by omega
        have HK := Lib.hid hk
        clear hk hA
        subst hAd
        dsimp only at c0 c1 c2
        rw [add_off] at c1
        rw [add_off2] at c2
        by_cases k0 : kk = 0
        · subst k0
          have G := Lib.hid (P.goes_kind0 hG.out hlt HK.out rfl)
          clear hG HK IH hAr
          have own2 : ((wr.alloc (.cells #[.int .i64 0, .int .i64 n, .int .i64 m] 42)).alloc (.cells #[.int .i64 n] 3)).ownsRow w.heap.size 3 1 u5 ys.length (ints ys) := (hu.alloc _).alloc _
          have src : Reads ((wr.alloc (.cells #[.int .i64 0, .int .i64 n, .int .i64 m] 42)).alloc (.cells #[.int .i64 n] 3)) (wr.heap.size + 1 + 1) 1 (some ⟨wr.heap.size + 1, 0, none⟩) 1 [.int .i64 n] := ⟨rfl, fun _ => ⟨_, rfl, by simp, fun j x hx => by
            match j, hx with
            | 0, hx => simp at hx; subst hx; simp [Addr.add]⟩⟩
          have one : ∀ z ∈ [Value.int .i64 n], z.oneCell' = true := by intro z hz; simp at hz; subst hz; rfl
          go_wp2_with (at_builtin; refine wpList_append_any _ rfl _ _ 24 (by rfl) w.heap.size 3 i0 (.int .i64 0) 1 8 Try.underlying24 hi0 hz0 hz1 hz2 rfl (by omega) u5 ys.length (ints ys) (by rfl) own2 (wr.heap.size + 1 + 1) (some ⟨wr.heap.size + 1, 0, none⟩) 1 1 [.int .i64 n] (by rfl) src one (by simp only [maxLen]; omega) (by omega) (by simp; omega) ?_; intro v1 w1 hown1 hg1 hat1)
          have hgB : Below w.heap.size w w1 := (((hT.alloc sz _).alloc (by simp; omega) _).grown hg1 (by simp; omega) (fun k hk => (own_lt hu k hk).1))
          exact ⟨⟨i + 1, ys ++ [n], rfl, by omega, by simp; omega, G, by simpa [ints] using hown1, hgB⟩, by simp [intOf]; omega⟩
        by_cases k1 : kk = 1
        · subst k1
          have E := Lib.hid (P.goes_kind1 hG.out hlt HK.out rfl)
          clear hG HK IH hAr
          go_wp2_with fail
          go_quiet (fail)
          go_wp2_with fail
          go_ret3
          exact ⟨u5, by rw [E.out]; rfl, by rw [E.out]; exact hu.alloc _, bdrewN (hT.alloc sz _) _⟩
        by_cases k2 : kk = 2
        · subst k2
          obtain ⟨c, hcut⟩ : ∃ c, P.cut m (l.length - (i + 1)) = c := ⟨_, rfl⟩
          have hc0 : c = min m.toNat (l.length - (i + 1)) := hcut.symm
          have G := Lib.hid (P.goes_kind2 hG.out hlt HK.out rfl c hcut)
          have hcl : c ≤ l.length - (i + 1) := by omega
          have HC0 := Lib.hid hc0
          have hsl : ((l.drop (i + 1)).take c).length = c := by rw [List.length_take, List.length_drop]; omega
          have hpl := P.play_len _ ((l.drop (i + 1)).take c) (Nat.le_refl _)
          rw [hsl] at hpl
          obtain ⟨A', hS, hA'⟩ := cut_acts (some ad) l.length cap i c l rfl (by omega) hc hm
          have hA2 := hA' wr w.heap.size hAr
          clear hc0 hcut hG HK hA' hAr
          go_upto_region 12 with fail
          go_cut [8] (fun t8 wx => t8 = .int .i64 (c : Nat) ∧ wx = wr.alloc (.cells #[.int .i64 2, .int .i64 n, .int .i64 m] 42))
          case first =>
            go_wp2_with fail
            all_goals go_meet
            all_goals exact ⟨vint (by have := HC0.out; omega), rfl⟩
          case rest =>
            obtain ⟨rfl, rfl⟩ := hcut
            generalize (l.drop (i + 1)).take c = sub at *
            obtain ⟨R, hR⟩ : ∃ R, P.play sub = R := ⟨_, rfl⟩
            rw [hR] at hpl
            have hA3 : ActsAt (wr.alloc (.cells #[.int .i64 2, .int .i64 n, .int .i64 m] 42)) (wr.alloc (.cells #[.int .i64 2, .int .i64 n, .int .i64 m] 42)).heap.size A' sub := (hA2.below (((Below.refl _ wr).alloc (Nat.le_refl _) _).mono (by omega))).more (by simp; omega)
            have T := IH.out sub A' (cap - (i + 1)) (wr.alloc (.cells #[.int .i64 2, .int .i64 n, .int .i64 m] 42)) (by omega) (by omega) (by omega) (by omega) hA3
            rw [hR, hsl] at T
            have GR : Hid (P.Goes l (i + 1 + c) (ys ++ R.1 ++ [P.mark R.2])) := by rw [hR] at G; exact G
            have hu1 := hu.alloc (.cells #[.int .i64 2, .int .i64 n, .int .i64 m] 42)
            have hT1 := hT.alloc sz (.cells #[.int .i64 2, .int .i64 n, .int .i64 m] 42)
            have mr := P.mark_rng R.2
            obtain ⟨mk, hmk⟩ : ∃ x, P.mark R.2 = x := ⟨_, rfl⟩
            have hme : P.mark R.2 = -1000000 - (P.err R.2).tmod 1000 := rfl
            have hng : R.2.isSome = false → P.err R.2 = 0 := by rcases R.2 with _ | _ <;> simp [P.err]
            obtain ⟨e0, he0⟩ : ∃ x, P.err R.2 = x := ⟨_, rfl⟩
            obtain ⟨r0, hr0⟩ : ∃ x, e0.tmod 1000 = x := ⟨_, rfl⟩
            obtain ⟨gv, hgv⟩ : ∃ x, R.2.isSome = x := ⟨_, rfl⟩
            have T2 : Calls Try.prog 10 #[.slice A' c (cap - (i + 1))] (wr.alloc (.cells #[.int .i64 2, .int .i64 n, .int .i64 m] 42)) fun e w' => ∃ v', e = .returned (.tuple #[v', .bool gv, .int .i64 e0]) ∧ w'.ownsRow (wr.alloc (.cells #[.int .i64 2, .int .i64 n, .int .i64 m] 42)).heap.size 3 1 v' R.1.length (ints R.1) ∧ Below (wr.alloc (.cells #[.int .i64 2, .int .i64 n, .int .i64 m] 42)).heap.size (wr.alloc (.cells #[.int .i64 2, .int .i64 n, .int .i64 m] 42)) w' := by
              rw [← hgv, ← he0]; exact T
            rw [he0] at hme hng
            rw [hr0, hmk] at hme
            rw [hmk] at mr
            rw [hgv] at hng
            have HMK := Lib.hid hmk
            have HME := Lib.hid hme
            have HR0 := Lib.hid hr0
            have HNG := Lib.hid hng
            have HT := Lib.hid T2
            clear T T2 he0 hmk hme hr0 hR G IH HC0 hgv hng hA2 hA3 hsl
            go_wp2_with fail
            refine HT.out.mono ?_
            rintro e w4 ⟨v', rfl, g1, g2⟩
            have K4 := hT1.trans (g2.mono hT1.size)
            have hu4 : w4.ownsRow w.heap.size 3 1 u5 ys.length (ints ys) := hu1.kept (row := none) ⟨g2.os, g2.tape, g2.output, g2.size, fun k hk _ => g2.block k hk⟩ (by rcases hh : u5.ownBlock with _ | k <;> simp)
            obtain ⟨A5, c5, rfl, rd⟩ := own_form g1 rfl
            have one1 := ints_one R.1
            have z4 := K4.size
            clear g1
            go_upto_region 15 with (at_builtin; refine wpList_append_any _ rfl _ _ 24 (by rfl) w.heap.size 3 i0 (.int .i64 0) 1 8 Try.underlying24 hi0 hz0 hz1 hz2 rfl (by omega) u5 ys.length (ints ys) (by rfl) hu4 w4.heap.size A5 R.1.length c5 (ints R.1) (by rfl) rd one1 (by simp only [maxLen]; omega) (by omega) z4 ?_; intro v6 w6 hown6 hg6 hat6)
            have K6 : Below w.heap.size w w6 := K4.grown hg6 z4 (fun k hk => (own_lt hu4 k hk).1)
            have z6 := K6.size
            cases gv
            · have e00 := HNG.out rfl
              subst e00
              have r00 : r0 = 0 := HR0.out.symm.trans (by decide)
              subst r00
              have m00 : mk = -1000000 := by have := HME.out; omega
              subst m00
              have GR' : Hid (P.Goes l (i + 1 + c) (ys ++ R.1 ++ [-1000000])) := by rw [← HMK.out]; exact GR
              clear GR
              have own7 : (w6.alloc (.cells #[.int .i64 (-1000000)] 3)).ownsRow w.heap.size 3 1 v6 (ys.length + R.1.length) (ints ys ++ ints R.1) := hown6.alloc _
              have src : Reads (w6.alloc (.cells #[.int .i64 (-1000000)] 3)) (w6.heap.size + 1) 1 (some ⟨w6.heap.size, 0, none⟩) 1 [.int .i64 (-1000000)] := ⟨rfl, fun _ => ⟨_, rfl, by simp, fun j x hx => by
                match j, hx with
                | 0, hx => simp at hx; subst hx; simp [Addr.add]⟩⟩
              have one : ∀ z ∈ [Value.int .i64 ((-1000000))], z.oneCell' = true := by intro z hz; simp at hz; subst hz; rfl
              go_wp2_with (at_builtin; refine wpList_append_any _ rfl _ _ 24 (by rfl) w.heap.size 3 i0 (.int .i64 0) 1 8 Try.underlying24 hi0 hz0 hz1 hz2 rfl (by omega) v6 (ys.length + R.1.length) (ints ys ++ ints R.1) (by rfl) own7 (w6.heap.size + 1) (some ⟨w6.heap.size, 0, none⟩) 1 1 [.int .i64 ((-1000000))] (by rfl) src one (by simp only [maxLen]; omega) (by omega) (by simp; omega) ?_; intro v8 w8 hown8 hg8 hat8)
              have K8 : Below w.heap.size w w8 := (K6.alloc K6.size _).grown hg8 (by have := K6.size; simp; omega) (fun k hk => (own_lt hown6 k hk).1)
              exact ⟨⟨i + 1 + c, ys ++ R.1 ++ [(-1000000)], vint (by omega), by omega, by simp; omega, GR', by simpa [ints, Nat.add_assoc] using hown8, K8⟩, by simp [intOf]; omega⟩
            · have hr0 := HR0.out
              have rr : -1000 < r0 ∧ r0 < 1000 := by have := HME.out; omega
              have w1e : IntKind.i64.wrap r0 = r0 := IntWalk.i64_in _ (by omega)
              have w2e : IntKind.i64.wrap (-1000000 - r0) = mk := (IntWalk.i64_in _ (by omega)).trans HME.out.symm
              have w3e : -1000000 - r0 = mk := HME.out.symm
              have w4e : IntKind.i64.wrap mk = mk := IntWalk.i64_in _ (by omega)
              have GR' : Hid (P.Goes l (i + 1 + c) (ys ++ R.1 ++ [mk])) := by rw [← HMK.out]; exact GR
              clear GR
              have own7 : (w6.alloc (.cells #[.int .i64 mk] 3)).ownsRow w.heap.size 3 1 v6 (ys.length + R.1.length) (ints ys ++ ints R.1) := hown6.alloc _
              have src : Reads (w6.alloc (.cells #[.int .i64 mk] 3)) (w6.heap.size + 1) 1 (some ⟨w6.heap.size, 0, none⟩) 1 [.int .i64 mk] := ⟨rfl, fun _ => ⟨_, rfl, by simp, fun j x hx => by
                match j, hx with
                | 0, hx => simp at hx; subst hx; simp [Addr.add]⟩⟩
              have one : ∀ z ∈ [Value.int .i64 (mk)], z.oneCell' = true := by intro z hz; simp at hz; subst hz; rfl
              go_wp2_with (at_builtin; refine wpList_append_any _ rfl _ _ 24 (by rfl) w.heap.size 3 i0 (.int .i64 0) 1 8 Try.underlying24 hi0 hz0 hz1 hz2 rfl (by omega) v6 (ys.length + R.1.length) (ints ys ++ ints R.1) (by rfl) own7 (w6.heap.size + 1) (some ⟨w6.heap.size, 0, none⟩) 1 1 [.int .i64 (mk)] (by rfl) src one (by simp only [maxLen]; omega) (by omega) (by simp; omega) ?_; intro v8 w8 hown8 hg8 hat8)
              have K8 : Below w.heap.size w w8 := (K6.alloc K6.size _).grown hg8 (by have := K6.size; simp; omega) (fun k hk => (own_lt hown6 k hk).1)
              exact ⟨⟨i + 1 + c, ys ++ R.1 ++ [mk], vint (by omega), by omega, by simp; omega, GR', by simpa [ints, Nat.add_assoc] using hown8, K8⟩, by simp [intOf]; omega⟩
        · have b0 : (kk == 0) = false := by simp [k0]
          have b1 : (kk == 1) = false := by simp [k1]
          have b2 : (kk == 2) = false := by simp [k2]
          have G := Lib.hid (P.goes_kind3 hG.out hlt HK.out k0 k1 k2)
          clear hG HK IH k0 k1 k2 hAr
          go_wp2_with fail
          exact ⟨⟨i + 1, ys, rfl, by omega, by omega, G, hu.alloc _, hT.alloc sz _⟩, by simp [intOf]; omega⟩
      · have q : ¬ (i : Int) < (l.length : Int) := by omega
        have E := Lib.hid (P.goes_end hG.out (by omega))
        clear hG hAr
        go_wp2_with fail
        go_ret3
        exact ⟨u5, by rw [E.out]; rfl, by rw [E.out]; exact hu, hT⟩
end Go.Proofs.Ytlggclehakcdaaa
