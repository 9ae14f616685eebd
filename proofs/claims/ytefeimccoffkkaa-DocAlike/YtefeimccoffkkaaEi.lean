/- 'DocAlike' returns true. -/
import Derived.Test.YtefeimccoffkkaaEh
namespace Go.Proofs.Ytefeimccoffkkaa
set_option maxRecDepth 100000
open Go.RowKit

/-- Ints that a slice shows. -/
structure IntsAt (w : World) (ao : Option Addr) (n : Nat) (X : Nat → Int) : Prop where
  len : n ≤ 9223372036854775807
  cells : 0 < n → ∃ b off, ao = some ⟨b, off, none⟩ ∧ ∀ j, j < n → w.cell? ⟨b, off + j, none⟩ = some (.int .i64 (X j))
  bound : ∀ j, j < n → -9223372036854775808 ≤ X j ∧ X j ≤ 9223372036854775807

theorem cell_lt {w : World} {b o : Nat} {v : Value} (h : w.cell? ⟨b, o, none⟩ = some v) : b < w.heap.size := by
  unfold World.cell? at h
  rcases Nat.lt_or_ge b w.heap.size with h1 | h1
  · exact h1
  · rw [Array.getElem?_eq_none h1] at h; simp at h

theorem within_nat (i : Int) (n : Nat) (w : World) (hi : -9223372036854775808 ≤ i ∧ i ≤ 9223372036854775807) (h1 : 1 ≤ n) (h2 : n ≤ 1048576) :
    Calls Try.prog 5 #[.int .i64 i, .int .i64 n] w fun e w' => (∃ r : Nat, r < n ∧ e = .returned (.int .i64 r)) ∧ w' = w := by
  refine (within_any i n w hi h1 h2).mono ?_
  rintro e w' ⟨rfl, rfl⟩
  have a1 := Int.emod_nonneg i (show (n : Int) ≠ 0 by omega)
  have a2 := Int.emod_lt_of_pos i (show 0 < (n : Int) by omega)
  exact ⟨⟨(i % (n : Int)).toNat, by omega, by rw [Int.toNat_of_nonneg a1]⟩, rfl⟩

set_option maxHeartbeats 8000000 in
theorem docAlike_any (ao bo : Option Addr) (n m ca cb : Nat) (X Y : Nat → Int) (w : World) (ha : IntsAt w ao n X) (hb : IntsAt w bo m Y) :
    Calls Try.prog 3 #[.agg #[.slice ao n ca, .slice bo m cb]] w fun e w' => e = .returned (.bool true) ∧ Fr (fun _ => False) w w' := by
  have HX : Hid (IntsAt w ao n X) := ha
  have HY : Hid (IntsAt w bo m Y) := hb
  have hn1 := ha.len
  have hm1 := hb.len
  clear ha hb
  by_cases hlt : 3 ≤ n ∧ 3 ≤ m
  · obtain ⟨hl1, hl2⟩ := hlt
    obtain ⟨xb, xo, rfl, hc1⟩ := HX.out.cells (by omega)
    obtain ⟨yb, yo, rfl, hc2⟩ := HY.out.cells (by omega)
    have x0 := hc1 0 (by omega)
    have x1 := hc1 1 (by omega)
    have x2 := hc1 2 (by omega)
    have y0 := hc2 0 (by omega)
    have y1 := hc2 1 (by omega)
    have y2 := hc2 2 (by omega)
    rw [Nat.add_zero] at x0 y0
    have hxb := cell_lt x0
    have hyb := cell_lt y0
    have HXB : Hid (∀ j, j < 3 → -9223372036854775808 ≤ X j ∧ X j ≤ 9223372036854775807) := fun j hj => HX.out.bound j (by omega)
    have HYB : Hid (∀ j, j < 3 → -9223372036854775808 ≤ Y j ∧ Y j ≤ 9223372036854775807) := fun j hj => HY.out.bound j (by omega)
    have KO : Hid (∀ w', Fr (fun k => w.heap.size + 1 ≤ k) (w.alloc (.cells #[.slice (some ⟨xb, xo, none⟩) n ca, .slice (some ⟨yb, yo, none⟩) m cb] 24)) w' → w'.cell? ⟨w.heap.size, 0, none⟩ = some (.slice (some ⟨xb, xo, none⟩) n ca) ∧ w'.cell? ⟨w.heap.size, 1, none⟩ = some (.slice (some ⟨yb, yo, none⟩) m cb) ∧ w'.cell? ⟨xb, xo + 1, none⟩ = some (.int .i64 (X 1)) ∧ w'.cell? ⟨xb, xo + 2, none⟩ = some (.int .i64 (X 2)) ∧ w'.cell? ⟨yb, yo + 1, none⟩ = some (.int .i64 (Y 1)) ∧ w'.cell? ⟨yb, yo + 2, none⟩ = some (.int .i64 (Y 2))) := fun w' f => by
      have hb := (f.block w.heap.size (by simp) (by omega)).trans (heap_alloc_new w _)
      obtain ⟨c0, c1, _⟩ := cell_of_two hb
      have hold : ∀ b o v, w.cell? ⟨b, o, none⟩ = some v → w'.cell? ⟨b, o, none⟩ = some v := fun b o v h => by
        have hb := cell_lt h
        rw [f.cell (by simp; omega) (by omega), ((Fr.refl (fun _ => False) w).alloc _).cell hb (fun hh => hh)]; exact h
      exact ⟨c0, c1, hold _ _ _ x1, hold _ _ _ x2, hold _ _ _ y1, hold _ _ _ y2⟩
    clear hc1 hc2
    go_enter Try.func3, Try.ntmps3
    go_wp2_with fail
    refine (within_nat _ 80 _ (HXB.out 0 (by omega)) (by omega) (by omega)).mono ?_
    rintro e w1 ⟨⟨r0, hr0, rfl⟩, rfl⟩
    go_wp2_with fail
    refine (within_nat _ 20 _ (HYB.out 0 (by omega)) (by omega) (by omega)).mono ?_
    rintro e w1 ⟨⟨r1, hr1, rfl⟩, rfl⟩
    have hW : (1 : Int) + r0 = ((1 + r0 : Nat) : Int) := by omega
    have hH : (1 : Int) + r1 = ((1 + r1 : Nat) : Int) := by omega
    have hW1 : 1 ≤ 1 + r0 := by omega
    have hH1 : 1 ≤ 1 + r1 := by omega
    have hW80 : 1 + r0 ≤ 80 := by omega
    have hH20 : 1 + r1 ≤ 20 := by omega
    generalize 1 + r0 = W at hW hW1 hW80
    generalize 1 + r1 = H at hH hH1 hH20
    go_wp2_with fail
    refine (docNew_any _).mono ?_
    rintro e w1 ⟨rfl, hw1⟩
    have HP0 : Hid (Pgs w1 w1 (w.heap.size + 1) W H 0 (fun _ => 0) (fun _ => 0) (fun _ _ _ => false) (.slice none 0 0) (.slice none 0 0) [] []) := by
      have h := DocAt.new (w.alloc (.cells #[.slice (some ⟨xb, xo, none⟩) n ca, .slice (some ⟨yb, yo, none⟩) m cb] 24))
      rw [World.size_alloc, ← hw1] at h
      exact ⟨h, rfl, by simp, fun _ h => by simp at h, fun j h => by omega, fun j h => by omega, fun i j h => by omega, fun j h => by omega, Fr.refl _ _⟩
    have HF1 : Hid (Fr (fun k => w.heap.size + 1 ≤ k) (w.alloc (.cells #[.slice (some ⟨xb, xo, none⟩) n ca, .slice (some ⟨yb, yo, none⟩) m cb] 24)) w1) := by rw [hw1]; exact (Fr.refl _ _).alloc _
    rw [World.size_alloc]
    clear hw1 x0 x1 x2 y0 y1 y2
    obtain ⟨d, HDD⟩ : ∃ d, Hid (d = w.heap.size + 1) := ⟨_, rfl⟩
    rw [← HDD.out] at HP0 ⊢
    go_wp2_with fail
    go_loopw [6] (fun i wr => ∃ (k : Nat) (bs gs : Nat → Nat) (Pf : Nat → Nat → Nat → Bool) (pv sv : Value) (ps ss : List Value), k ≤ 3 ∧ i = .int .i64 k ∧ ss.length = k ∧ (∀ j x y, j < k → Pf j x y = false) ∧ Pgs w1 wr d W H k bs gs Pf pv sv ps ss) (fun i _ => 3 - (intOf i).toNat)
    case atStart => exact ⟨0, _, _, _, _, _, _, _, by omega, rfl, rfl, fun j x y h => by omega, HP0.out⟩
    case round =>
      obtain ⟨k, bs, gs, Pf, pv, sv, ps, ss, hk, rfl, hss, hPf, hpg⟩ := hrel
      have HPG : Hid (Pgs w1 wr d W H k bs gs Pf pv sv ps ss) := hpg
      have HPF : Hid (∀ j x y, j < k → Pf j x y = false) := hPf
      clear hpg hPf
      by_cases hk3 : k < 3
      · go_wp2_with fail
        refine (newPage_yes d d W H pv sv ps ss _ HPG.out.doc (by rw [HPG.out.len]; omega) (by omega) hW1 hH1 (Nat.le_trans (Nat.mul_le_mul hW80 hH20) (by decide))).mono ?_
        rintro e w3 ⟨rfl, pv3, sv3, bx, b, g, hd3, _, hm3, hf3, _, hb3, hg3, _, _⟩
        have HP3 : Hid (Pgs w1 w3 d W H (k + 1) (fun j => if j = k then b else bs j) (fun j => if j = k then g else gs j) (upd Pf k (fun _ _ => false)) pv3 sv3 (ps ++ [.pointer (some ⟨b, 0, none⟩)]) (ss ++ [.func (.func 18) #[] #[.pointer (some ⟨bx, 0, none⟩)]])) := HPG.out.more (by omega) rfl hd3 hm3 hf3 hb3 hg3
        rw [HPG.out.len]
        clear hd3 hm3 hf3 hb3 hg3
        go_wp2_with fail
        go_roundw
        case rel => exact ⟨k + 1, _, _, _, _, _, _, _, by omega, congrArg (Value.int .i64) (by omega), by simp [hss], fun j x y hj => by
            unfold upd
            by_cases e : j = k
            · rw [if_pos e]
            · rw [if_neg e]; exact HPF.out j x y (by omega), HP3.out⟩
        case measure => simp [intOf]; omega
      · obtain rfl : k = 3 := by omega
        obtain ⟨c0, c1, x1, x2, y1, y2⟩ := KO.out wr (HF1.out.trans HPG.out.fr (fun k _ h => by have := HDD.out; omega))
        go_wp2_with fail
        refine (within_nat _ 90 _ (HXB.out 1 (by omega)) (by omega) (by omega)).mono ?_
        rintro e w2 ⟨⟨r2, hr2, rfl⟩, rfl⟩
        go_wp2_with fail
        refine (within_nat _ 30 _ (HYB.out 1 (by omega)) (by omega) (by omega)).mono ?_
        rintro e w2 ⟨⟨r3, hr3, rfl⟩, rfl⟩
        go_wp2_with fail
        refine (within_nat _ 90 _ (HXB.out 2 (by omega)) (by omega) (by omega)).mono ?_
        rintro e w2 ⟨⟨a, ha, rfl⟩, rfl⟩
        go_wp2_with fail
        refine (within_nat _ 30 _ (HYB.out 2 (by omega)) (by omega) (by omega)).mono ?_
        rintro e w2 ⟨⟨b, hb, rfl⟩, rfl⟩
        obtain ⟨x, hx⟩ : ∃ x : Int, (r2 : Int) - 5 = x := ⟨_, rfl⟩
        obtain ⟨y, hy⟩ : ∃ y : Int, (r3 : Int) - 5 = y := ⟨_, rfl⟩
        have hxb : -5 ≤ x ∧ x ≤ 85 := by omega
        have hyb : -5 ≤ y ∧ y ≤ 25 := by omega
        clear x1 x2 y1 y2 c0 c1
        go_wp2_with fail
        refine (docFill_any d d (bs 0) (gs 0) _ W H 0 1 (Pf 0) x y a b pv sv ps ss _ HPG.out.doc (HPG.out.mp 0 (by omega)) (HPG.out.pg 0 (by omega)) (by rw [HPG.out.len]; omega) HPG.out.le HPG.out.one (by omega) ⟨by omega, by omega⟩ ⟨by omega, by omega⟩ ⟨by omega, by omega⟩ ⟨by omega, by omega⟩).mono ?_
        rintro e w3 ⟨rfl, sv2, fn, caps, _, _, _, _, _, _, hd3, _, _, _, hm3, hf3, _⟩
        obtain ⟨F0, HF0⟩ : ∃ F0 : Nat → Nat → Bool, Hid (F0 = fillPix (fun _ _ => false) x y a b (decide (1 = 1))) := ⟨fillPix (fun _ _ => false) x y a b (decide (1 = 1)), by show _ = _; rfl⟩
        have HP3 : Hid (Pgs w1 w3 d W H 3 bs gs (upd Pf 0 F0) pv sv2 ps (cut ss ++ [.func fn #[] caps])) := by
          have h := HPG.out.drawn (j := 0) (by omega) hd3 (len_cut HPG.out.le) (one_cut HPG.out.one) hm3 hf3
          rw [show Pf 0 = fun _ _ => false from by funext p e; exact HPF.out 0 p e (by omega)] at h
          rw [HF0.out]
          exact h
        clear hd3 hm3 hf3
        go_wp2_with fail
        go_loopw [13] (fun jv wr => ∃ (j : Int) (sv' : Value) (ss' : List Value), y ≤ j ∧ j ≤ y + b ∧ jv = .int .i64 j ∧ Pgs w1 wr d W H 3 bs gs (upd (upd Pf 0 F0) 1 (partPix x y a x j)) pv sv' ps ss') (fun jv _ => (y + b - intOf jv).toNat)
        case atStart => exact ⟨y, _, _, by omega, by omega, rfl, HP3.out.congr (fun j' hj' p e _ _ => by
            unfold upd
            by_cases e1 : j' = 1
            · rw [if_pos e1, part_start, if_neg (by omega)]; subst e1; exact HPF.out 1 p e (by omega)
            · rw [if_neg e1])⟩
        case round =>
          obtain ⟨j, sv', ss', hj1, hj2, rfl, hpj⟩ := hrel
          have HPJ : Hid (Pgs w1 wr d W H 3 bs gs (upd (upd Pf 0 F0) 1 (partPix x y a x j)) pv sv' ps ss') := hpj
          clear hpj
          by_cases hjl : j < y + b
          · go_wp2_with fail
            go_loopw [14] (fun iv wr => ∃ (i : Int) (sv1 : Value) (ss1 : List Value), x ≤ i ∧ i ≤ x + a ∧ iv = .int .i64 i ∧ Pgs w1 wr d W H 3 bs gs (upd (upd Pf 0 F0) 1 (partPix x y a i j)) pv sv1 ps ss1) (fun iv _ => (x + a - intOf iv).toNat)
            case atStart => exact ⟨x, _, _, by omega, by omega, rfl, HPJ.out⟩
            case round =>
              obtain ⟨i, sv1, ss1, hi1, hi2, rfl, hpi⟩ := hrel
              have HPI : Hid (Pgs w1 wr d W H 3 bs gs (upd (upd Pf 0 F0) 1 (partPix x y a i j)) pv sv1 ps ss1) := hpi
              clear hpi
              by_cases hil : i < x + a
              · by_cases hin : 0 ≤ i ∧ i < W ∧ 0 ≤ j ∧ j < H
                · obtain ⟨g1, g2, g3, g4⟩ := hin
                  obtain ⟨I, HI⟩ : ∃ I : Nat, Hid (i = (I : Int)) := ⟨i.toNat, by show _ = _; omega⟩
                  obtain ⟨J, HJ⟩ : ∃ J : Nat, Hid (j = (J : Int)) := ⟨j.toNat, by show _ = _; omega⟩
                  go_wp2_with fail
                  have hset := docSet_any d d (bs 1) (gs 1) _ W H 1 I J 1 _ pv sv1 ps ss1 wr HPI.out.doc (HPI.out.mp 1 (by omega)) (HPI.out.pg 1 (by omega)) (by rw [HPI.out.len]; omega) HPI.out.le HPI.out.one (by have := HI.out; omega) (by have := HJ.out; omega) (by omega)
                  rw [← HI.out, ← HJ.out] at hset
                  refine hset.mono ?_
                  rintro e w4 ⟨rfl, sv3, s, hd4, _, hm4, hf4, _, _⟩
                  have HP4 : Hid (Pgs w1 w4 d W H 3 bs gs (upd (upd Pf 0 F0) 1 (partPix x y a (i + 1) j)) pv sv3 ps (cut ss1 ++ [.func (.func 46) #[] (pixCaps s)])) := by
                    have h := HPI.out.drawn (j := 1) (by omega) hd4 (len_cut HPI.out.le) (one_cut HPI.out.one) hm4 hf4
                    refine h.congr (fun j' _ p e _ _ => ?_)
                    unfold upd
                    by_cases e1 : j' = 1
                    · rw [if_pos e1, if_pos e1, if_pos rfl, part_next x y a i j I J HI.out HJ.out hi1 hil hj1]
                    · rw [if_neg e1, if_neg e1, if_neg e1]
                  clear hd4 hm4 hf4 hset
                  go_wp2_with fail
                  go_roundw
                  case rel => exact ⟨i + 1, sv3, _, by omega, by omega, congrArg (Value.int .i64) (by omega), HP4.out⟩
                  case measure => simp [intOf]; omega
                · go_wp2_with fail
                  refine (docSet_out d d (bs 1) (gs 1) _ W H 1 i j 1 _ pv sv1 ps ss1 wr HPI.out.doc (HPI.out.mp 1 (by omega)) (HPI.out.pg 1 (by omega)) (by rw [HPI.out.len]; omega) hin).mono ?_
                  rintro e w4 ⟨rfl, hf4⟩
                  have HP4 : Hid (Pgs w1 w4 d W H 3 bs gs (upd (upd Pf 0 F0) 1 (partPix x y a i j)) pv sv1 ps ss1) := HPI.out.same hf4
                  clear hf4
                  by_cases g1 : 0 ≤ i
                  · by_cases g2 : i < W
                    · by_cases g3 : 0 ≤ j
                      · have g4 : ¬ j < H := fun h => hin ⟨g1, g2, g3, h⟩
                        clear hin
                        go_wp2_with fail
                        go_roundw
                        case rel => exact ⟨i + 1, sv1, ss1, by omega, by omega, congrArg (Value.int .i64) (by omega), HP4.out.congr (fun j' hj' p e hp he => by
                            unfold upd
                            by_cases e1 : j' = 1
                            · rw [if_pos e1, if_pos e1]; exact part_skip x y a i j W H (by omega) p e hp he
                            · rw [if_neg e1, if_neg e1])⟩
                        case measure => simp [intOf]; omega
                      · clear hin
                        go_wp2_with fail
                        go_roundw
                        case rel => exact ⟨i + 1, sv1, ss1, by omega, by omega, congrArg (Value.int .i64) (by omega), HP4.out.congr (fun j' hj' p e hp he => by
                            unfold upd
                            by_cases e1 : j' = 1
                            · rw [if_pos e1, if_pos e1]; exact part_skip x y a i j W H (by omega) p e hp he
                            · rw [if_neg e1, if_neg e1])⟩
                        case measure => simp [intOf]; omega
                    · clear hin
                      go_wp2_with fail
                      go_roundw
                      case rel => exact ⟨i + 1, sv1, ss1, by omega, by omega, congrArg (Value.int .i64) (by omega), HP4.out.congr (fun j' hj' p e hp he => by
                          unfold upd
                          by_cases e1 : j' = 1
                          · rw [if_pos e1, if_pos e1]; exact part_skip x y a i j W H (by omega) p e hp he
                          · rw [if_neg e1, if_neg e1])⟩
                      case measure => simp [intOf]; omega
                  · clear hin
                    go_wp2_with fail
                    go_roundw
                    case rel => exact ⟨i + 1, sv1, ss1, by omega, by omega, congrArg (Value.int .i64) (by omega), HP4.out.congr (fun j' hj' p e hp he => by
                        unfold upd
                        by_cases e1 : j' = 1
                        · rw [if_pos e1, if_pos e1]; exact part_skip x y a i j W H (by omega) p e hp he
                        · rw [if_neg e1, if_neg e1])⟩
                    case measure => simp [intOf]; omega
              · obtain rfl : i = x + a := by omega
                have HPE : Hid (Pgs w1 wr d W H 3 bs gs (upd (upd Pf 0 F0) 1 (partPix x y a x (j + 1))) pv sv1 ps ss1) := by
                  have h := HPI.out
                  rw [part_row x y a j (by omega) hj1] at h
                  exact h
                clear hi1 hi2 hil
                go_wp2_with fail
                go_roundw
                case rel => exact ⟨j + 1, sv1, ss1, by omega, by omega, congrArg (Value.int .i64) (by omega), HPE.out⟩
                case measure => simp [intOf]; omega
          · obtain rfl : j = y + b := by omega
            have HPE : Hid (Pgs w1 wr d W H 3 bs gs (upd (upd Pf 0 F0) 1 F0) pv sv' ps ss') := by
              have h := HPJ.out
              have h2 : partPix x y a x (y + b) = F0 := by rw [HF0.out]; exact part_end x y a b
              rw [h2] at h
              exact h
            clear hj1 hj2 hjl
            go_wp2_with fail
            have hblt := (HPE.out.mp 2 (by omega)).lt
            have hglt := (HPE.out.mp 2 (by omega)).glt
            have hne02 := HPE.out.ne 0 2 (by omega) (by omega) (by omega)
            have HLT : Hid (bs 2 < wr.heap.size ∧ gs 2 < wr.heap.size) := ⟨hblt, hglt⟩
            have hsz1 : W ≤ 80 ∧ H ≤ 20 := ⟨hW80, hH20⟩
            refine (docBlit_other 4 d d (bs 2) (gs 2) _ W H 2 (bs 0) (gs 0) _ W H 0 _ _ 0 0 W H 0 0 pv sv' ps ss' wr HPE.out.doc (HPE.out.mp 2 (by omega)) (HPE.out.mp 0 (by omega)) (HPE.out.pg 2 (by omega)) (HPE.out.pg 0 (by omega)) (by rw [HPE.out.len]; omega) HPE.out.le HPE.out.one (by omega) hne02.1 ((HPE.out.mp 0 (by omega)).bg (HPE.out.mp 2 (by omega))) hne02.2 ⟨by omega, by omega⟩ ⟨by omega, by omega⟩ ⟨by omega, by omega⟩ ⟨by omega, by omega⟩ ⟨by omega, by omega⟩ ⟨by omega, by omega⟩).mono ?_
            rintro e w4 ⟨rfl, sv4, fn4, caps4, p1, q1, n1, p2, q2, n2, hd4, _, _, hr4, hm4, hf4, _⟩
            have HR4 : Hid (RS w4 wr.heap.size (.func fn4 #[] caps4) (bs 2) W H (upd (upd Pf 0 F0) 1 F0 2) q1 n1 q2 n2) := hr4
            have HP4 : Hid (Pgs w1 w4 d W H 3 bs gs (fun _ => F0) pv sv4 ps (cut ss' ++ [.func fn4 #[] caps4])) := by
              have h := HPE.out.drawn (j := 2) (by omega) hd4 (len_cut HPE.out.le) (one_cut HPE.out.one) hm4 hf4
              refine h.congr (fun j' hj' p e hp he => ?_)
              match j', hj' with
              | 0, _ => rfl
              | 1, _ => rfl
              | 2, _ => exact blit_whole F0 _ W H p e hp he
            have HCL : Hid ((cut ss').length < 64) := cut_len HPE.out.le
            clear hblt hglt hne02 hd4 hr4 hm4 hf4
            go_wp2_with fail
            refine (docPage_in d d (bs 0) (gs 0) _ W H 0 _ pv sv4 ps _ w4 HP4.out.doc (HP4.out.mp 0 (by omega)) (HP4.out.pg 0 (by omega)) (by rw [HP4.out.len]; omega)).mono ?_
            rintro e w5 ⟨ga, cpa, rfl, ho5, hf5, _⟩
            have HO5 : Hid (w5.ownsRow 0 43 1 (.slice (some ⟨ga, 0, none⟩) (H * stride W) cpa) (H * stride W) (wordCells (render W H F0))) := ho5
            have HF5 : Hid (Fr (fun _ => False) w4 w5) := hf5
            clear ho5 hf5
            go_wp2_with fail
            obtain ⟨N, HN⟩ : ∃ N, Hid (N = H * stride W) := ⟨_, rfl⟩
            obtain ⟨w6, HW6⟩ : ∃ w6, Hid (w6 = w5.alloc (.cells #[.int .i64 W, .int .i64 H, .slice (some ⟨ga, 0, none⟩) N cpa] 37)) := ⟨_, rfl⟩
            rw [← HN.out, ← HW6.out]
            rw [← HN.out] at HO5
            have HF6 : Hid (Fr (fun _ => False) w5 w6) := by rw [HW6.out]; exact (Fr.refl _ _).alloc _
            have HB6 : Hid (w6.heap[w5.heap.size]? = some (.cells #[.int .i64 W, .int .i64 H, .slice (some ⟨ga, 0, none⟩) N cpa] 37 (0, 0))) := by show _ = _; rw [HW6.out]; exact heap_alloc_new w5 _
            have HP6 : Hid (Pgs w1 w6 d W H 3 bs gs (fun _ => F0) pv sv4 ps (cut ss' ++ [.func fn4 #[] caps4])) := (HP4.out.same HF5.out).same HF6.out
            refine (docPage_in d d (bs 1) (gs 1) _ W H 1 _ pv sv4 ps _ w6 HP6.out.doc (HP6.out.mp 1 (by omega)) (HP6.out.pg 1 (by omega)) (by rw [HP6.out.len]; omega)).mono ?_
            rintro e w7 ⟨gb, cpb, rfl, ho7, hf7, _⟩
            rw [← HN.out] at ho7 ⊢
            have HO7 : Hid (w7.ownsRow 0 43 1 (.slice (some ⟨gb, 0, none⟩) N cpb) N (wordCells (render W H F0))) := ho7
            have HF7 : Hid (Fr (fun _ => False) w6 w7) := hf7
            clear ho7 hf7
            go_wp2_with fail
            obtain ⟨w8, HW8⟩ : ∃ w8, Hid (w8 = w7.alloc (.cells #[.int .i64 W, .int .i64 H, .slice (some ⟨gb, 0, none⟩) N cpb] 37)) := ⟨_, rfl⟩
            rw [← HW8.out]
            have HF8 : Hid (Fr (fun _ => False) w7 w8) := by rw [HW8.out]; exact (Fr.refl _ _).alloc _
            have HB8 : Hid (w8.heap[w7.heap.size]? = some (.cells #[.int .i64 W, .int .i64 H, .slice (some ⟨gb, 0, none⟩) N cpb] 37 (0, 0))) := by show _ = _; rw [HW8.out]; exact heap_alloc_new w7 _
            have HP8 : Hid (Pgs w1 w8 d W H 3 bs gs (fun _ => F0) pv sv4 ps (cut ss' ++ [.func fn4 #[] caps4])) := (HP6.out.same HF7.out).same HF8.out
            refine (docPage_in d d (bs 2) (gs 2) _ W H 2 _ pv sv4 ps _ w8 HP8.out.doc (HP8.out.mp 2 (by omega)) (HP8.out.pg 2 (by omega)) (by rw [HP8.out.len]; omega)).mono ?_
            rintro e w9 ⟨gc, cpc, rfl, ho9, hf9, _⟩
            rw [← HN.out] at ho9 ⊢
            have HO9 : Hid (w9.ownsRow 0 43 1 (.slice (some ⟨gc, 0, none⟩) N cpc) N (wordCells (render W H F0))) := ho9
            have HF9 : Hid (Fr (fun _ => False) w8 w9) := hf9
            clear ho9 hf9
            have t : ∀ {a b c : World}, Fr (fun _ => False) a b → Fr (fun _ => False) b c → Fr (fun _ => False) a c := fun f k => f.trans k (fun _ _ h => h)
            have HF59 : Hid (Fr (fun _ => False) w6 w9) := t HF7.out (t HF8.out HF9.out)
            obtain ⟨w10, HW10⟩ : ∃ w10, Hid (w10 = w9.alloc (.cells #[.int .i64 W, .int .i64 H, .slice (some ⟨gc, 0, none⟩) N cpc] 37)) := ⟨_, rfl⟩
            have HF10 : Hid (Fr (fun _ => False) w9 w10) := by rw [HW10.out]; exact (Fr.refl _ _).alloc _
            have HF610 : Hid (Fr (fun _ => False) w6 w10) := t HF59.out HF10.out
            have HF810 : Hid (Fr (fun _ => False) w8 w10) := t HF9.out HF10.out
            have HB10 : Hid (w10.heap[w9.heap.size]? = some (.cells #[.int .i64 W, .int .i64 H, .slice (some ⟨gc, 0, none⟩) N cpc] 37 (0, 0))) := by show _ = _; rw [HW10.out]; exact heap_alloc_new w9 _
            have HLL : Hid (w5.heap.size < w9.heap.size ∧ w7.heap.size < w9.heap.size) := ⟨Nat.lt_of_lt_of_le (lt_of_block HB6.out) HF59.out.size, Nat.lt_of_lt_of_le (lt_of_block HB8.out) HF9.out.size⟩
            have KB : Hid (∀ w', Fr (fun _ => False) w10 w' → w'.heap[w5.heap.size]? = some (.cells #[.int .i64 W, .int .i64 H, .slice (some ⟨ga, 0, none⟩) N cpa] 37 (0, 0)) ∧ w'.heap[w7.heap.size]? = some (.cells #[.int .i64 W, .int .i64 H, .slice (some ⟨gb, 0, none⟩) N cpb] 37 (0, 0)) ∧ w'.heap[w9.heap.size]? = some (.cells #[.int .i64 W, .int .i64 H, .slice (some ⟨gc, 0, none⟩) N cpc] 37 (0, 0))) := fun w' f =>
              ⟨((t HF610.out f).block _ (lt_of_block HB6.out) (fun h => h)).trans HB6.out, ((t HF810.out f).block _ (lt_of_block HB8.out) (fun h => h)).trans HB8.out, (f.block _ (lt_of_block HB10.out) (fun h => h)).trans HB10.out⟩
            have HNL : Hid ((render W H F0).length = N) := by show _ = _; rw [HN.out]; exact length_render W H F0
            have HNB : Hid (N ≤ 9223372036854775807) := by
              have := HP8.out.mp 0 (by omega)
              have := this.words_le
              rw [← HN.out] at this
              show _ ≤ _
              omega
            have HSEEN : Hid (∀ {w0 w' : World} {g cp : Nat}, w0.ownsRow 0 43 1 (.slice (some ⟨g, 0, none⟩) N cp) N (wordCells (render W H F0)) → Fr (fun _ => False) w0 w' → Seen w' (.slice (some ⟨g, 0, none⟩) N cp) (render W H F0)) := fun h f => by
              have h2 := row_kept h f (fun _ _ h => h)
              rw [← HNL.out] at h2 ⊢
              exact Seen.of_row h2 (by rw [HNL.out]; exact HNB.out)
            have HSZ : Hid (w5.heap.size < w7.heap.size ∧ w7.heap.size < w9.heap.size) := ⟨Nat.lt_of_lt_of_le (lt_of_block HB6.out) HF7.out.size, HLL.out.2⟩
            have hb69 := (HF59.out.block _ (lt_of_block HB6.out) (fun h => h)).trans HB6.out
            have hb89 := (HF9.out.block _ (lt_of_block HB8.out) (fun h => h)).trans HB8.out
            obtain ⟨k0, k1, k2, _⟩ := cell_of_three hb69
            obtain ⟨j0, j1, j2, _⟩ := cell_of_three hb89
            obtain ⟨l1, l2⟩ := HLL.out
            clear hb69 hb89 t
            go_wp2_with fail
            rw [← HW10.out]
            clear k0 k1 k2 j0 j1 j2 l1 l2
            refine (eqBitmap_same W H _ _ _ _ (HSEEN.out HO5.out (HF6.out.trans HF610.out (fun _ _ h => h))) (HSEEN.out HO7.out (HF8.out.trans HF810.out (fun _ _ h => h)))).mono ?_
            rintro e w11 ⟨rfl, hf11⟩
            have HF11 : Hid (Fr (fun _ => False) w10 w11) := hf11
            obtain ⟨hb6, _, hb10⟩ := KB.out w11 hf11
            obtain ⟨k0, k1, k2, _⟩ := cell_of_three hb6
            obtain ⟨j0, j1, j2, _⟩ := cell_of_three hb10
            clear hf11 hb6 hb10
            go_wp2_with fail
            clear k0 k1 k2 j0 j1 j2
            refine (eqBitmap_same W H _ _ _ _ (HSEEN.out HO5.out ((HF6.out.trans HF610.out (fun _ _ h => h)).trans HF11.out (fun _ _ h => h))) (HSEEN.out HO9.out (HF10.out.trans HF11.out (fun _ _ h => h)))).mono ?_
            rintro e w12 ⟨rfl, hf12⟩
            have HF12 : Hid (Fr (fun _ => False) w4 w12) := (((HF5.out.trans HF6.out (fun _ _ h => h)).trans HF610.out (fun _ _ h => h)).trans HF11.out (fun _ _ h => h)).trans hf12 (fun _ _ h => h)
            have HP12 : Hid (Pgs w1 w12 d W H 3 bs gs (fun _ => F0) pv sv4 ps (cut ss' ++ [.func fn4 #[] caps4])) := HP4.out.same HF12.out
            have HR12 : Hid (RS w12 wr.heap.size (.func fn4 #[] caps4) (bs 2) W H (upd (upd Pf 0 F0) 1 F0 2) q1 n1 q2 n2) := HR4.out.kept HF12.out (fun _ _ _ h => h)
            clear hf12
            go_wp2_with fail
            refine (undo_rs d d (bs 2) (gs 2) _ W H wr.heap.size _ _ q1 n1 q2 n2 _ pv sv4 ps _ w12 HP12.out.doc HCL.out (HP12.out.mp 2 (by omega)) HR12.out HLT.out.1 HLT.out.2).mono ?_
            rintro e w13 ⟨rfl, sv5, hd13, _, hf13, _⟩
            have HD13 : Hid (DocAt w13 d d pv sv5 ps (cut ss')) := hd13
            have HF13 : Hid (Fr (fun k => d ≤ k) w1 w13) := HP12.out.fr.trans hf13 (fun k _ h => by
              rcases h with h | h | h
              · omega
              · exact (HP12.out.doc.st.lt k h).1
              · rw [h]; exact (HP12.out.lo 2 (by omega)).2)
            have HPL : Hid (ps.length = 3) := HP12.out.len
            clear hd13 hf13
            go_wp2_with fail
            refine (pages_any d d pv sv5 ps (cut ss') _ HD13.out).mono ?_
            rintro e w14 ⟨rfl, rfl⟩
            rw [HPL.out]
            go_wp2_with fail
            refine (wakes_any _).mono ?_
            rintro e w15 ⟨rfl, hf15⟩
            have HF15 : Hid (Fr (fun _ => False) w w15) := by
              have h0 : Fr (fun k => w.heap.size + 1 ≤ k) w _ := ((Fr.refl _ w).alloc _).trans HF1.out (fun _ _ h => h)
              have h1 := h0.trans (HF13.out.trans hf15 (fun _ _ h => h.elim)) (fun k _ h => by have := HDD.out; omega)
              exact h1.mono (fun k hk h => absurd h (by omega))
            clear hf15
            go_wp2_with fail
            go_ret
            exact ⟨rfl, HF15.out⟩
  · have hor : n < 3 ∨ m < 3 := by omega
    by_cases hn3 : n < 3
    · go_enter Try.func3, Try.ntmps3
      go_wp2_with fail
      refine (wakes_any _).mono ?_
      rintro e w1 ⟨rfl, hf⟩
      have HF : Hid (Fr (fun _ => False) w w1) := ((Fr.refl (fun _ => False) w).alloc _).trans hf (fun _ _ h => h)
      clear hf
      go_wp2_with fail
      go_ret
      exact ⟨rfl, HF.out⟩
    · have hm3 : m < 3 := by omega
      clear hor hlt
      go_enter Try.func3, Try.ntmps3
      go_wp2_with fail
      refine (wakes_any _).mono ?_
      rintro e w1 ⟨rfl, hf⟩
      have HF : Hid (Fr (fun _ => False) w w1) := ((Fr.refl (fun _ => False) w).alloc _).trans hf (fun _ _ h => h)
      clear hf
      go_wp2_with fail
      go_ret
      exact ⟨rfl, HF.out⟩
end Go.Proofs.Ytefeimccoffkkaa
