/- The reference's reader: a text of pixels. -/
import Derived.Test.YtpfajkkjnobdlaaDoorQc
import Derived.Test.YtpfajkkjnobdlaaDoorRd
import Derived.Deep.Cut
import Derived.Deep.CutRange
import Derived.Deep.CutBlock
namespace Go.Proofs.YtpfajkkjnobdlaaDoor
set_option maxRecDepth 100000
open Go.RowKit

def digR (W H : Nat) (R : Except Nat (List Bool × List Nat)) : Except Nat Bmp :=
  match R with
  | .error e => .error e
  | .ok (a, r) => if gapS false r = [] then .ok (W, H, plcT W a) else .error 33
theorem digitsS_eq (W H : Nat) (l : List Nat) : digitsS W H l = digR W H (pixS (W * H) [] l) := rfl
theorem plcT_put {W x y : Nat} {bits : List Bool} {v : Bool} (hl : bits.length = y * W + x) (hx : x < W) : ∀ p q, p < W → putPix (plcT W bits) x y v p q = plcT W (bits ++ [v]) p q := by
  intro p q hp
  have key : (p = x ∧ q = y) ↔ q * W + p = bits.length := by
    rw [hl]
    constructor
    · rintro ⟨rfl, rfl⟩; rfl
    · intro e
      have hW : 0 < W := by omega
      have h1 : (q * W + p) / W = (y * W + x) / W := by rw [e]
      have h2 : (q * W + p) % W = (y * W + x) % W := by rw [e]
      rw [Nat.mul_comm q, Nat.mul_comm y, Nat.mul_add_div hW, Nat.mul_add_div hW, Nat.div_eq_of_lt hp, Nat.div_eq_of_lt hx] at h1
      rw [Nat.mul_comm q, Nat.mul_comm y, Nat.mul_add_mod, Nat.mul_add_mod, Nat.mod_eq_of_lt hp, Nat.mod_eq_of_lt hx] at h2
      omega
  unfold putPix plcT
  by_cases h : p = x ∧ q = y
  · rw [if_pos h, key.1 h]; simp
  · rw [if_neg h]
    have hne : ¬ q * W + p = bits.length := fun e => h (key.2 e)
    rw [List.getD_eq_getElem?_getD, List.getD_eq_getElem?_getD, List.getElem?_append]
    split
    · rfl
    · rw [List.getElem?_eq_none (by omega)]
      rcases hk : q * W + p - bits.length with _ | k
      · omega
      · simp

def badT (L : List Nat) : Bool := match L with
  | [] => false
  | c :: _ => !white c && decide (c ≠ 35)
theorem bad_dig {W H : Nat} {L : List Nat} (hs : sizeS W H = true) (hf : first L = false) (hb : badT L = true) : digitsS W H L = .error 30 := by
  obtain ⟨z1, z2, z3⟩ := sizeS_iff.1 hs
  obtain ⟨k, hk⟩ : ∃ k, W * H = k + 1 := ⟨W * H - 1, by have := Nat.mul_pos z1 z2; omega⟩
  cases L with
  | nil => cases hb
  | cons c r =>
    simp only [badT, Bool.and_eq_true, Bool.not_eq_true', decide_eq_true_eq] at hb
    have hg : gapS false (c :: r) = c :: r := by
      show (if c = 35 then _ else if white c = true then _ else _) = _
      rw [if_neg hb.2, if_neg (by rw [hb.1]; simp)]
    have hd : digit c = false := hf
    have h48 : c ≠ 48 := by intro e; rw [e] at hd; exact absurd hd (by decide)
    have h49 : c ≠ 49 := by intro e; rw [e] at hd; exact absurd hd (by decide)
    rw [digitsS_eq, hk, pixS_cons hg, if_neg h48, if_neg h49]; rfl

set_option linter.unusedSimpArgs false in
set_option maxHeartbeats 4000000 in
theorem rtext_any (ao : Option Addr) (cap : Nat) (l : List Nat) (a W H : Nat) (w : World) (h : By8 w ao l) (ha : a ≤ l.length) (hs : sizeS W H = true) (hfi : first (l.drop a) = false) :
    Calls Tryd.prog 33 #[.slice ao l.length cap, .int .i64 (a : Int), .int .i64 (W : Int), .int .i64 (H : Int)] w (ReadQ w (digitsS W H (l.drop a))) := by
  have HB : Hid (By8 w ao l) := h
  have hlim := h.lim
  obtain ⟨z1, z2, z3⟩ := sizeS_iff.1 hs
  have HSZ : Hid (1 ≤ W ∧ 1 ≤ H ∧ W * H ≤ 1048576) := ⟨z1, z2, z3⟩
  obtain ⟨f1, f2, _⟩ := size_facts z1 z2 z3
  obtain ⟨A, hA⟩ : ∃ A, A = W * H := ⟨_, rfl⟩
  have HA : Hid (A = W * H) := hA
  have HBAD : Hid (badT (l.drop a) = true → digitsS W H (l.drop a) = .error 30) := fun hb => bad_dig hs hfi hb
  have HPS : Hid (∀ w' b, By8 w' ao l → b ≤ l.length → Calls Tryd.prog 50 #[.slice ao l.length cap, .int .i64 (b : Int)] w' fun e w'' => (∃ b2 : Nat, e = .returned (.int .i64 (b2 : Int)) ∧ b2 ≤ l.length ∧ b ≤ b2 ∧ l.drop b2 = gapS false (l.drop b)) ∧ w'' = w') := fun w' b h hb => passed_any ao cap l b w' h hb
  obtain ⟨n, hn⟩ : ∃ n, n = l.length := ⟨_, rfl⟩
  have HN : Hid (n = l.length) := hn
  rw [← hn] at hlim ha HPS ⊢
  obtain ⟨PX, hPX⟩ : ∃ PX, PX = pixS A [] (l.drop a) := ⟨_, rfl⟩
  have HPX : Hid (PX = pixS A [] (l.drop a)) := hPX
  obtain ⟨R0, hR0⟩ : ∃ R0, R0 = digitsS W H (l.drop a) := ⟨_, rfl⟩
  have HR0 : Hid (R0 = digR W H PX) := by show _ = _; rw [hR0, digitsS_eq, hPX, hA]
  have HRB : Hid (badT (l.drop a) = true → R0 = .error 30) := fun hb => by rw [hR0]; exact HBAD.out hb
  rw [← hR0]
  clear h hn hR0 hs hA hPX z3 hfi HBAD
  have HF1 : Hid (Fr (fun _ => False) w (w.alloc (.cells #[.int .i64 0, .int .i64 0, .slice none 0 0] 25))) := (Fr.refl _ w).alloc _
  have HB1 : Hid ((w.alloc (.cells #[.int .i64 0, .int .i64 0, .slice none 0 0] 25)).heap[w.heap.size]? = some (.cells #[.int .i64 0, .int .i64 0, .slice none 0 0] 25 (0, 0))) := heap_alloc_new w _
  go_enter Tryd.func33, Tryd.ntmps33
  go_upto_region 1 with (fail)
  have HB8 : Hid (By8 (w.alloc (.cells #[.int .i64 0, .int .i64 0, .slice none 0 0] 25)) ao l) := HB.out.kept HF1.out (fun _ h => h.elim)
  generalize (w.alloc (.cells #[.int .i64 0, .int .i64 0, .slice none 0 0] 25)) = w1 at *
  obtain ⟨B8, hB8⟩ : ∃ B8, B8 = w.heap.size := ⟨_, rfl⟩
  rw [← hB8] at HB1 ⊢
  have HBW : Hid (B8 = w.heap.size) := hB8
  clear hB8 HB
  obtain ⟨bad, hbad⟩ : ∃ bad, bad = badT (l.drop a) := ⟨_, rfl⟩
  have HBD : Hid (bad = badT (l.drop a)) := hbad
  rw [← hbad] at HRB
  clear hbad
  go_cut [31] from 32 (fun u wc => u = .bool bad ∧ wc = w1)
  case first =>
    rcases hr : l.drop a with _ | ⟨c, r⟩
    · have hpe : a = n := by
        have : (l.drop a).length = 0 := by rw [hr]; rfl
        rw [List.length_drop, ← HN.out] at this
        omega
      have hge : decide ((a : Int) < (n : Int)) = false := decide_eq_false (by omega)
      have hge2 : decide (a < n) = false := decide_eq_false (by omega)
      have HBF : Hid (bad = false) := by show _ = _; rw [HBD.out, hr]; rfl
      clear hr hpe
      go_wp2_with fail
      go_meet
      exact ⟨congrArg Value.bool HBF.out.symm, rfl⟩
    · obtain ⟨hlt, hget, hd, hmem⟩ := drop_cons hr
      rw [← HN.out] at hlt
      have hc := HB8.out.byt c hmem
      obtain ⟨bb, off, rfl, hcc⟩ := HB8.out.cell (by intro e; rw [e] at hmem; cases hmem)
      have hcell := hcc a (by rw [← HN.out]; exact hlt)
      rw [hget] at hcell
      have hge : decide ((a : Int) < (n : Int)) = true := decide_eq_true (by omega)
      have hge2 : decide (a < n) = true := decide_eq_true (by omega)
      have hbI : (a : Int) < (n : Int) := by omega
      have HBF : Hid (bad = (!white c && decide (c ≠ 35))) := by show _ = _; rw [HBD.out, hr]; rfl
      clear hr hd hget hmem hcc
      go_wp2_with fail
      refine Calls.mono (zwhite_c c _ hc) ?_
      rintro e wq ⟨rfl, rfl⟩
      cases hwt : white c
      · rw [hwt] at HBF
        by_cases h35 : c = 35
        · subst h35
          go_wp2_with fail
          go_meet
          exact ⟨congrArg Value.bool (by rw [HBF.out]; rfl), rfl⟩
        · have h35b : ((c : Int) != 35) = true := by simp; omega
          go_wp2_with fail
          go_meet
          exact ⟨congrArg Value.bool (by rw [HBF.out, decide_eq_true h35]; rfl), rfl⟩
      · rw [hwt] at HBF
        go_wp2_with fail
        go_meet
        exact ⟨congrArg Value.bool (by rw [HBF.out]; rfl), rfl⟩
  case' rest => obtain ⟨rfl, rfl⟩ := hcut
  obtain ⟨w1, rfl⟩ : ∃ w1, w1 = wc := ⟨_, rfl⟩
  clear HBD
  cases bad
  rotate_left
  · have HR1 : Hid (R0 = .error 30) := HRB.out rfl
    have hb8 := HB1.out
    have hfw := HF1.out
    obtain ⟨wr, rfl⟩ : ∃ wr, wr = w1 := ⟨_, rfl⟩
    have h3 := three_all (x' := .int .i64 0) (y' := .int .i64 0) (z' := .slice none 0 0) hb8
    have HB9 : Hid ((((wr.setCell ⟨B8, 0, none⟩ (.int .i64 0)).setCell ⟨B8, 1, none⟩ (.int .i64 0)).setCell ⟨B8, 2, none⟩ (.slice none 0 0)).heap[B8]? = some (.cells #[.int .i64 0, .int .i64 0, .slice none 0 0] 25 (0, 0))) := h3
    have HF9 : Hid (Fr (fun k => k = B8) wr (((wr.setCell ⟨B8, 0, none⟩ (.int .i64 0)).setCell ⟨B8, 1, none⟩ (.int .i64 0)).setCell ⟨B8, 2, none⟩ (.slice none 0 0))) := (((Fr.refl (fun k => k = B8) wr).setCell (fun _ => rfl) _).setCell (fun _ => rfl) _).setCell (fun _ => rfl) _
    have HFW : Hid (Fr (fun _ => False) w wr) := hfw
    obtain ⟨t0, t1, t2, tf⟩ := cell_of_three hb8
    clear hb8 h3 hfw
    go_wp2_with fail
    generalize (((wr.setCell ⟨B8, 0, none⟩ (.int .i64 0)).setCell ⟨B8, 1, none⟩ (.int .i64 0)).setCell ⟨B8, 2, none⟩ (.slice none 0 0)) = w9 at *
    clear t0 t1 t2 tf
    obtain ⟨t0, t1, t2, tf⟩ := cell_of_three HB9.out
    refine bodyPost_ret (v := .tuple #[.agg zeroB, .int .i64 ((30 : Nat) : Int)]) (by simp [zeroB, results, Tryd.results33, go_sem, t0, t1, t2]) rfl (err_ret (HFW.out.trans HF9.out (fun i hi e => by have := HBW.out; omega)) HR1.out)
  · clear HRB
    go_wp2_with fail
    obtain ⟨NW, hNW⟩ : ∃ NW, NW = H * stride W := ⟨_, rfl⟩
    have HNW : Hid (NW = H * stride W) := hNW
    have HZW : Hid (Calls Tryd.prog 53 #[.int .i64 (W : Int), .int .i64 (H : Int)] w1 fun e w' => ∃ g, e = .returned (.agg #[.int .i64 (W : Int), .int .i64 (H : Int), .slice (some ⟨g, 0, none⟩) NW NW]) ∧ RowAt w' g NW W H (fun _ _ => false) ∧ Fr (fun _ => False) w1 w' ∧ w1.heap.size ≤ g) := by
      rw [hNW]; exact zwhite_any W H w1 HSZ.out.1 HSZ.out.2.1 HSZ.out.2.2
    clear hNW
    refine Calls.mono HZW.out ?_
    rintro e w2 ⟨g, rfl, hrow, hf2, hg⟩
    have HRW : Hid (RowAt w2 g NW W H (fun _ _ => false)) := hrow
    have HF2 : Hid (Fr (fun _ => False) w1 w2) := hf2
    have HG : Hid (w1.heap.size ≤ g) := hg
    clear hrow hf2 hg HZW
    go_upto_region 4 with (fail)
    have HF3 : Hid (Fr (fun _ => False) w2 (w2.alloc (.cells #[.int .i64 (W : Int), .int .i64 (H : Int), .slice (some ⟨g, 0, none⟩) NW NW] 25))) := (Fr.refl _ w2).alloc _
    have HB3 : Hid ((w2.alloc (.cells #[.int .i64 (W : Int), .int .i64 (H : Int), .slice (some ⟨g, 0, none⟩) NW NW] 25)).heap[w2.heap.size]? = some (.cells #[.int .i64 (W : Int), .int .i64 (H : Int), .slice (some ⟨g, 0, none⟩) NW NW] 25 (0, 0))) := heap_alloc_new w2 _
    generalize (w2.alloc (.cells #[.int .i64 (W : Int), .int .i64 (H : Int), .slice (some ⟨g, 0, none⟩) NW NW] 25)) = w3 at *
    have HGL : Hid (g < w2.heap.size) := (World.ownsRow.lt HRW.out g rfl).2
    have HRW3 : Hid (RowAt w3 g NW W H (plcT W [])) := (HRW.out.kept HF3.out (fun h => h)).congr (fun x y _ _ => by simp [plcT])
    have HF13 : Hid (Fr (fun _ => False) w1 w3) := HF2.out.trans HF3.out (fun _ _ h => h)
    obtain ⟨B10, hB10⟩ : ∃ B10, B10 = w2.heap.size := ⟨_, rfl⟩
    rw [← hB10] at HB3 ⊢
    have HBV : Hid (B10 = w2.heap.size) := hB10
    clear hB10 HRW
    have HX : Hid (∀ w', Fr (fun k => k = g) w3 w' → (w'.cell? ⟨B10, 0, none⟩ = some (.int .i64 (W : Int)) ∧ w'.cell? ⟨B10, 1, none⟩ = some (.int .i64 (H : Int)) ∧ w'.cell? ⟨B10, 2, none⟩ = some (.slice (some ⟨g, 0, none⟩) NW NW)) ∧ w'.heap[B8]? = some (.cells #[.int .i64 0, .int .i64 0, .slice none 0 0] 25 (0, 0)) ∧ By8 w' ao l ∧ Fr (fun _ => False) w w') := fun w' f => by
      have h1 : w'.heap[B10]? = _ := (f.block _ (lt_of_block HB3.out) (fun h => by have := HGL.out; have := HBV.out; omega)).trans HB3.out
      obtain ⟨e0, e1, e2, _⟩ := cell_of_three h1
      have f1 : Fr (fun _ => False) w1 w' := HF13.out.trans f (fun i hi e => by have := HG.out; omega)
      have h2 : w'.heap[B8]? = _ := (f1.block _ (lt_of_block HB1.out) (fun h => h)).trans HB1.out
      exact ⟨⟨e0, e1, e2⟩, h2, HB8.out.kept f1 (fun _ h => h.elim), HF1.out.trans f1 (fun _ _ h => h)⟩
    go_wp2_with fail
    go_loopg [1, 11] H (fun q av yv wr => ∃ (y b : Nat) (bits : List Bool), y + q = H ∧ yv = .int .i64 y ∧ av = .int .i64 (b : Int) ∧ b ≤ n ∧ bits.length = y * W ∧ PX = pixS (A - y * W) bits (l.drop b) ∧ RowAt wr g NW W H (plcT W bits) ∧ Fr (fun k => k = g) w3 wr)
    case atStart => exact ⟨0, a, [], by omega, rfl, rfl, ha, by simp, by rw [Nat.zero_mul, Nat.sub_zero]; exact HPX.out, HRW3.out, Fr.refl _ _⟩
    case round =>
      clear HRW3 HPX
      obtain ⟨y, b, bits, hyq, rfl, rfl, hbn, hbl, hpx, hrow, hf⟩ := hrel
      have HRr : Hid (RowAt wr g NW W H (plcT W bits)) := hrow
      have HFr : Hid (Fr (fun k => k = g) w3 wr) := hf
      have HBL : Hid (bits.length = y * W) := hbl
      have HPX : Hid (PX = pixS (A - y * W) bits (l.drop b)) := hpx
      clear hrow hf hbl hpx
      by_cases hyH : y < H
      · have hdy : decide (y < H) = true := decide_eq_true hyH
        go_wp2_with fail
        go_loopg [1, 12] W (fun q av xv wr => ∃ (x b : Nat) (bits : List Bool), x + q = W ∧ xv = .int .i64 x ∧ av = .int .i64 (b : Int) ∧ b ≤ n ∧ bits.length = y * W + x ∧ PX = pixS (A - (y * W + x)) bits (l.drop b) ∧ RowAt wr g NW W H (plcT W bits) ∧ Fr (fun k => k = g) w3 wr)
        case atStart => exact ⟨0, b, bits, by omega, rfl, rfl, hbn, HBL.out, HPX.out, HRr.out, HFr.out⟩
        case round =>
          clear HRr HFr HBL HPX hbn
          obtain ⟨x, b, bits, hxq, rfl, rfl, hbn, hbl, hpx, hrow, hf⟩ := hrel
          have HRx : Hid (RowAt wr g NW W H (plcT W bits)) := hrow
          have HFx : Hid (Fr (fun k => k = g) w3 wr) := hf
          have HBL : Hid (bits.length = y * W + x) := hbl
          have HPX : Hid (PX = pixS (A - (y * W + x)) bits (l.drop b)) := hpx
          clear hrow hf hbl hpx
          by_cases hxW : x < W
          · have hdx : decide (x < W) = true := decide_eq_true hxW
            obtain ⟨k, hk⟩ : ∃ k, A - (y * W + x) = k + 1 := by
              have h3 : (y + 1) * W ≤ H * W := Nat.mul_le_mul_right _ hyH
              rw [Nat.add_mul, Nat.mul_comm H W, ← HA.out] at h3
              exact ⟨A - (y * W + x) - 1, by omega⟩
            have HK : Hid (A - (y * W + x) = k + 1) := hk
            have HPX2 : Hid (PX = pixS (k + 1) bits (l.drop b)) := by show _ = _; rw [HPX.out, hk]
            clear hk HPX
            go_wp2_with fail
            refine Calls.mono (HPS.out wr b (HX.out wr HFx.out).2.2.1 hbn) ?_
            rintro e wq ⟨⟨b2, rfl, hb2n, hbb2, hgap⟩, rfl⟩
            obtain ⟨wr, rfl⟩ : ∃ wr, wr = wq := ⟨_, rfl⟩
            rcases hr : l.drop b2 with _ | ⟨c, r⟩
            · have hpe : b2 = n := by
                have : (l.drop b2).length = 0 := by rw [hr]; rfl
                rw [List.length_drop, ← HN.out] at this
                omega
              have hge : decide ((n : Int) ≤ (b2 : Int)) = true := decide_eq_true (by omega)
              have hge2 : decide (n ≤ b2) = true := decide_eq_true (by omega)
              have HR1 : Hid (R0 = .error 32) := by show _ = _; rw [HR0.out, HPX2.out, pixS_nil (by rw [← hgap, hr])]; rfl
              clear hr hpe hgap
              obtain ⟨_, hb8, _, hfw⟩ := HX.out wr HFx.out
              have h3 := three_all (x' := .int .i64 0) (y' := .int .i64 0) (z' := .slice none 0 0) hb8
              have HB9 : Hid ((((wr.setCell ⟨B8, 0, none⟩ (.int .i64 0)).setCell ⟨B8, 1, none⟩ (.int .i64 0)).setCell ⟨B8, 2, none⟩ (.slice none 0 0)).heap[B8]? = some (.cells #[.int .i64 0, .int .i64 0, .slice none 0 0] 25 (0, 0))) := h3
              have HF9 : Hid (Fr (fun k => k = B8) wr (((wr.setCell ⟨B8, 0, none⟩ (.int .i64 0)).setCell ⟨B8, 1, none⟩ (.int .i64 0)).setCell ⟨B8, 2, none⟩ (.slice none 0 0))) := (((Fr.refl (fun k => k = B8) wr).setCell (fun _ => rfl) _).setCell (fun _ => rfl) _).setCell (fun _ => rfl) _
              have HFW : Hid (Fr (fun _ => False) w wr) := hfw
              obtain ⟨t0, t1, t2, tf⟩ := cell_of_three hb8
              clear hb8 h3 hfw
              go_wp2_with fail
              generalize (((wr.setCell ⟨B8, 0, none⟩ (.int .i64 0)).setCell ⟨B8, 1, none⟩ (.int .i64 0)).setCell ⟨B8, 2, none⟩ (.slice none 0 0)) = w9 at *
              clear t0 t1 t2 tf
              obtain ⟨t0, t1, t2, tf⟩ := cell_of_three HB9.out
              refine bodyPost_ret (v := .tuple #[.agg zeroB, .int .i64 ((32 : Nat) : Int)]) (by simp [zeroB, results, Tryd.results33, go_sem, t0, t1, t2]) rfl (err_ret (HFW.out.trans HF9.out (fun i hi e => by have := HBW.out; omega)) HR1.out)
            · obtain ⟨hlt, hget, hd, hmem⟩ := drop_cons hr
              rw [← HN.out] at hlt
              have hc := HB8.out.byt c hmem
              obtain ⟨bb, off, rfl, hcc⟩ := (HX.out wr HFx.out).2.2.1.cell (by intro e; rw [e] at hmem; cases hmem)
              have hcell := hcc b2 (by rw [← HN.out]; exact hlt)
              rw [hget] at hcell
              have HKC : Hid (∀ w', Fr (fun k => k = g) wr w' → w'.cell? ⟨bb, off + b2, none⟩ = some (.int .u8 (c : Int))) := fun w' f => by
                obtain ⟨bx, o2, e2, hc2⟩ := (HX.out w' (HFx.out.trans f (fun _ _ h => h))).2.2.1.cell (by intro e; rw [e] at hmem; cases hmem)
                simp only [Option.some.injEq, Addr.mk.injEq, and_true] at e2
                obtain ⟨rfl, rfl⟩ := e2
                have h := hc2 b2 (by rw [← HN.out]; exact hlt)
                rw [hget] at h
                exact h
              have hge : decide ((n : Int) ≤ (b2 : Int)) = false := decide_eq_false (by omega)
              have hge2 : decide (n ≤ b2) = false := decide_eq_false (by omega)
              have hbI : (b2 : Int) < (n : Int) := by omega
              have HGE : Hid (gapS false (l.drop b) = c :: r) := by show _ = _; rw [← hgap, hr]
              have HD2 : Hid (l.drop (b2 + 1) = r) := hd
              clear hr hd hget hmem hcc hgap
              by_cases h48 : c = 48
              · subst h48
                obtain ⟨c0, c1, c2⟩ := (HX.out wr HFx.out).1
                have HPX3 : Hid (PX = pixS k (bits ++ [false]) r) := by
                  show _ = _
                  rw [HPX2.out, pixS_cons HGE.out]; rfl
                have HPT : Hid (∀ w', Fr (fun _ => False) wr w' → Calls Tryd.prog 54 #[.agg #[.int .i64 (W : Int), .int .i64 (H : Int), .slice (some ⟨g, 0, none⟩) NW NW], .int .i64 (x : Int), .int .i64 (y : Int), .int .i64 0] w' fun e w'' => e = .returned (.tuple #[]) ∧ RowAt w'' g NW W H (plcT W (bits ++ [false])) ∧ Fr (fun k => k = g) w' w'') := fun w' f => by
                  have h := zput_any W H g NW (plcT W bits) x y false w' (HRx.out.kept f (fun h => h)) HSZ.out.1 HSZ.out.2.1 HSZ.out.2.2 hxW hyH
                  rw [← HNW.out] at h
                  refine h.mono ?_
                  rintro e w'' ⟨h1, h2, h3⟩
                  exact ⟨h1, h2.congr (fun p q hp _ => plcT_put HBL.out hxW p q hp), h3⟩
                have HKK : Hid (∀ w', Fr (fun k => k = g) wr w' → w'.cell? ⟨B10, 0, none⟩ = some (.int .i64 (W : Int)) ∧ w'.cell? ⟨B10, 1, none⟩ = some (.int .i64 (H : Int)) ∧ w'.cell? ⟨B10, 2, none⟩ = some (.slice (some ⟨g, 0, none⟩) NW NW)) := fun w' f => (HX.out w' (HFx.out.trans f (fun _ _ h => h))).1
                go_wp2_with fail
                go_region_held3 (fun w' => (w'.cell? ⟨B10, 0, none⟩ = some (.int .i64 (W : Int)) ∧ w'.cell? ⟨B10, 1, none⟩ = some (.int .i64 (H : Int)) ∧ w'.cell? ⟨B10, 2, none⟩ = some (.slice (some ⟨g, 0, none⟩) NW NW)) ∧ w'.cell? ⟨bb, off + b2, none⟩ = some (.int .u8 48)) (exact ⟨HKK.out _ (by repeat (first | with_reducible exact Fr.refl _ _ | with_reducible refine Fr.drew ?_ | with_reducible refine Fr.trans ?_ hf6 (fun _ _ hh => hh))), HKC.out _ (by repeat (first | with_reducible exact Fr.refl _ _ | with_reducible refine Fr.drew ?_ | with_reducible refine Fr.trans ?_ hf6 (fun _ _ hh => hh)))⟩) (first | (go_at_call 54; refine (HPT.out _ ((Fr.refl _ _).drew)).mono ?_; rintro e w6 ⟨rfl, hr6, hf6⟩))
                have HF6 : Hid (Fr (fun k => k = g) w3 w6) := HFx.out.drew.trans hf6 (fun _ _ hh => hh)
                have HR6 : Hid (RowAt w6 g NW W H (plcT W (bits ++ [false]))) := hr6
                clear hf6 hr6 c0 c1 c2
                go_wp2_with fail
                go_roundg (W - (x + 1))
                case measure => omega
                case rel => exact ⟨x + 1, b2 + 1, bits ++ [false], by omega, congrArg (Value.int .i64) (by omega), congrArg (Value.int .i64) (by omega), by omega, by rw [List.length_append, HBL.out]; rfl, by rw [HPX3.out, HD2.out, show A - (y * W + (x + 1)) = k from by have := HK.out; omega], HR6.out, HF6.out⟩
              · by_cases h49 : c = 49
                · subst h49
                  obtain ⟨c0, c1, c2⟩ := (HX.out wr HFx.out).1
                  have HPX3 : Hid (PX = pixS k (bits ++ [true]) r) := by
                    show _ = _
                    rw [HPX2.out, pixS_cons HGE.out]; rfl
                  have HPT : Hid (∀ w', Fr (fun _ => False) wr w' → Calls Tryd.prog 54 #[.agg #[.int .i64 (W : Int), .int .i64 (H : Int), .slice (some ⟨g, 0, none⟩) NW NW], .int .i64 (x : Int), .int .i64 (y : Int), .int .i64 1] w' fun e w'' => e = .returned (.tuple #[]) ∧ RowAt w'' g NW W H (plcT W (bits ++ [true])) ∧ Fr (fun k => k = g) w' w'') := fun w' f => by
                    have h := zput_any W H g NW (plcT W bits) x y true w' (HRx.out.kept f (fun h => h)) HSZ.out.1 HSZ.out.2.1 HSZ.out.2.2 hxW hyH
                    rw [← HNW.out] at h
                    refine h.mono ?_
                    rintro e w'' ⟨h1, h2, h3⟩
                    exact ⟨h1, h2.congr (fun p q hp _ => plcT_put HBL.out hxW p q hp), h3⟩
                  have HKK : Hid (∀ w', Fr (fun k => k = g) wr w' → w'.cell? ⟨B10, 0, none⟩ = some (.int .i64 (W : Int)) ∧ w'.cell? ⟨B10, 1, none⟩ = some (.int .i64 (H : Int)) ∧ w'.cell? ⟨B10, 2, none⟩ = some (.slice (some ⟨g, 0, none⟩) NW NW)) := fun w' f => (HX.out w' (HFx.out.trans f (fun _ _ h => h))).1
                  go_wp2_with fail
                  go_region_held3 (fun w' => (w'.cell? ⟨B10, 0, none⟩ = some (.int .i64 (W : Int)) ∧ w'.cell? ⟨B10, 1, none⟩ = some (.int .i64 (H : Int)) ∧ w'.cell? ⟨B10, 2, none⟩ = some (.slice (some ⟨g, 0, none⟩) NW NW)) ∧ w'.cell? ⟨bb, off + b2, none⟩ = some (.int .u8 49)) (exact ⟨HKK.out _ (by repeat (first | with_reducible exact Fr.refl _ _ | with_reducible refine Fr.drew ?_ | with_reducible refine Fr.trans ?_ hf6 (fun _ _ hh => hh))), HKC.out _ (by repeat (first | with_reducible exact Fr.refl _ _ | with_reducible refine Fr.drew ?_ | with_reducible refine Fr.trans ?_ hf6 (fun _ _ hh => hh)))⟩) (first | (go_at_call 54; refine (HPT.out _ ((Fr.refl _ _).drew)).mono ?_; rintro e w6 ⟨rfl, hr6, hf6⟩))
                  have HF6 : Hid (Fr (fun k => k = g) w3 w6) := HFx.out.drew.trans hf6 (fun _ _ hh => hh)
                  have HR6 : Hid (RowAt w6 g NW W H (plcT W (bits ++ [true]))) := hr6
                  clear hf6 hr6 c0 c1 c2
                  go_wp2_with fail
                  go_roundg (W - (x + 1))
                  case measure => omega
                  case rel => exact ⟨x + 1, b2 + 1, bits ++ [true], by omega, congrArg (Value.int .i64) (by omega), congrArg (Value.int .i64) (by omega), by omega, by rw [List.length_append, HBL.out]; rfl, by rw [HPX3.out, HD2.out, show A - (y * W + (x + 1)) = k from by have := HK.out; omega], HR6.out, HF6.out⟩
                · have h48b : ((c : Int) != 48) = true := by simp; omega
                  have h49b : ((c : Int) != 49) = true := by simp; omega
                  have HR1 : Hid (R0 = .error 30) := by show _ = _; rw [HR0.out, HPX2.out, pixS_cons HGE.out, if_neg h48, if_neg h49]; rfl
                  obtain ⟨_, hb8, _, hfw⟩ := HX.out wr HFx.out
                  have h3 := three_all (x' := .int .i64 0) (y' := .int .i64 0) (z' := .slice none 0 0) hb8
                  have HB9 : Hid ((((wr.setCell ⟨B8, 0, none⟩ (.int .i64 0)).setCell ⟨B8, 1, none⟩ (.int .i64 0)).setCell ⟨B8, 2, none⟩ (.slice none 0 0)).heap[B8]? = some (.cells #[.int .i64 0, .int .i64 0, .slice none 0 0] 25 (0, 0))) := h3
                  have HF9 : Hid (Fr (fun k => k = B8) wr (((wr.setCell ⟨B8, 0, none⟩ (.int .i64 0)).setCell ⟨B8, 1, none⟩ (.int .i64 0)).setCell ⟨B8, 2, none⟩ (.slice none 0 0))) := (((Fr.refl (fun k => k = B8) wr).setCell (fun _ => rfl) _).setCell (fun _ => rfl) _).setCell (fun _ => rfl) _
                  have HFW : Hid (Fr (fun _ => False) w wr) := hfw
                  obtain ⟨t0, t1, t2, tf⟩ := cell_of_three hb8
                  clear hb8 h3 hfw
                  go_wp2_with fail
                  generalize (((wr.setCell ⟨B8, 0, none⟩ (.int .i64 0)).setCell ⟨B8, 1, none⟩ (.int .i64 0)).setCell ⟨B8, 2, none⟩ (.slice none 0 0)) = w9 at *
                  clear t0 t1 t2 tf
                  obtain ⟨t0, t1, t2, tf⟩ := cell_of_three HB9.out
                  refine bodyPost_ret (v := .tuple #[.agg zeroB, .int .i64 ((30 : Nat) : Int)]) (by simp [zeroB, results, Tryd.results33, go_sem, t0, t1, t2]) rfl (err_ret (HFW.out.trans HF9.out (fun i hi e => by have := HBW.out; omega)) HR1.out)
          · have hdx : decide (x < W) = false := decide_eq_false hxW
            have HXE : Hid (y * W + x = (y + 1) * W) := by show _ = _; rw [Nat.add_mul]; omega
            go_wp2_with fail
            go_roundg (H - (y + 1))
            case measure => omega
            case rel => exact ⟨y + 1, b, bits, by omega, congrArg (Value.int .i64) (by omega), rfl, hbn, by rw [HBL.out, HXE.out], by rw [HPX.out, HXE.out], HRx.out, HFx.out⟩
      · have hdy : decide (y < H) = false := decide_eq_false hyH
        have hyE : y = H := by omega
        have HPX2 : Hid (PX = .ok (bits, l.drop b)) := by
          show _ = _
          rw [HPX.out, hyE, HA.out, Nat.mul_comm H W, Nat.sub_self]; rfl
        have HR1 : Hid (R0 = if gapS false (l.drop b) = [] then .ok (W, H, plcT W bits) else .error 33) := by show _ = _; rw [HR0.out, HPX2.out]; rfl
        clear hyE HPX
        go_wp2_with fail
        refine Calls.mono (HPS.out wr b (HX.out wr HFr.out).2.2.1 hbn) ?_
        rintro e wq ⟨⟨b2, rfl, hb2n, hbb2, hgap⟩, rfl⟩
        obtain ⟨wr, rfl⟩ : ∃ wr, wr = wq := ⟨_, rfl⟩
        rcases hr : l.drop b2 with _ | ⟨c, r⟩
        · have hpe : b2 = n := by
            have : (l.drop b2).length = 0 := by rw [hr]; rfl
            rw [List.length_drop, ← HN.out] at this
            omega
          have hge : decide ((b2 : Int) < (n : Int)) = false := decide_eq_false (by omega)
          have hge2 : decide (b2 < n) = false := decide_eq_false (by omega)
          have HR2 : Hid (R0 = .ok (W, H, plcT W bits)) := by show _ = _; rw [HR1.out, if_pos (by rw [← hgap, hr])]
          clear hr hpe hgap
          obtain ⟨⟨c0, c1, c2⟩, hb8, _, hfw⟩ := HX.out wr HFr.out
          obtain ⟨t0, t1, t2, tf⟩ := cell_of_three hb8
          have h3 := three_all (x' := .int .i64 (W : Int)) (y' := .int .i64 (H : Int)) (z' := .slice (some ⟨g, 0, none⟩) NW NW) hb8
          have HB9 : Hid ((((wr.setCell ⟨B8, 0, none⟩ (.int .i64 (W : Int))).setCell ⟨B8, 1, none⟩ (.int .i64 (H : Int))).setCell ⟨B8, 2, none⟩ (.slice (some ⟨g, 0, none⟩) NW NW)).heap[B8]? = some (.cells #[.int .i64 (W : Int), .int .i64 (H : Int), .slice (some ⟨g, 0, none⟩) NW NW] 25 (0, 0))) := h3
          have HF9 : Hid (Fr (fun k => k = B8) wr (((wr.setCell ⟨B8, 0, none⟩ (.int .i64 (W : Int))).setCell ⟨B8, 1, none⟩ (.int .i64 (H : Int))).setCell ⟨B8, 2, none⟩ (.slice (some ⟨g, 0, none⟩) NW NW))) := (((Fr.refl (fun k => k = B8) wr).setCell (fun _ => rfl) _).setCell (fun _ => rfl) _).setCell (fun _ => rfl) _
          have HFW : Hid (Fr (fun _ => False) w wr) := hfw
          clear hb8 h3 hfw
          go_wp2_with fail
          generalize (((wr.setCell ⟨B8, 0, none⟩ (.int .i64 (W : Int))).setCell ⟨B8, 1, none⟩ (.int .i64 (H : Int))).setCell ⟨B8, 2, none⟩ (.slice (some ⟨g, 0, none⟩) NW NW)) = w9 at *
          clear t0 t1 t2 tf
          obtain ⟨t0, t1, t2, tf⟩ := cell_of_three HB9.out
          refine bodyPost_ret (v := .tuple #[.agg #[.int .i64 (W : Int), .int .i64 (H : Int), .slice (some ⟨g, 0, none⟩) NW NW], .int .i64 0]) (by simp [results, Tryd.results33, go_sem, t0, t1, t2]) rfl ?_
          rw [HR2.out]
          have hg1 : w.heap.size ≤ g := Nat.le_trans HF1.out.size HG.out
          have hgB : g ≠ B8 := by
            have := lt_of_block HB1.out
            have := HG.out
            omega
          refine ⟨HFW.out.trans HF9.out (fun i hi e => by have := HBW.out; omega), _, rfl, g, NW, by show _ = _; rw [HNW.out], HRr.out.kept HF9.out hgB, hg1, HSZ.out.1, HSZ.out.2.1, HSZ.out.2.2⟩
        · obtain ⟨hlt, hget, hd, hmem⟩ := drop_cons hr
          rw [← HN.out] at hlt
          have hge : decide ((b2 : Int) < (n : Int)) = true := decide_eq_true (by omega)
          have hge2 : decide (b2 < n) = true := decide_eq_true (by omega)
          have HR2 : Hid (R0 = .error 33) := by show _ = _; rw [HR1.out, if_neg (by rw [← hgap, hr]; simp)]
          clear hr hgap hget hd hmem
          obtain ⟨_, hb8, _, hfw⟩ := HX.out wr HFr.out
          have h3 := three_all (x' := .int .i64 0) (y' := .int .i64 0) (z' := .slice none 0 0) hb8
          have HB9 : Hid ((((wr.setCell ⟨B8, 0, none⟩ (.int .i64 0)).setCell ⟨B8, 1, none⟩ (.int .i64 0)).setCell ⟨B8, 2, none⟩ (.slice none 0 0)).heap[B8]? = some (.cells #[.int .i64 0, .int .i64 0, .slice none 0 0] 25 (0, 0))) := h3
          have HF9 : Hid (Fr (fun k => k = B8) wr (((wr.setCell ⟨B8, 0, none⟩ (.int .i64 0)).setCell ⟨B8, 1, none⟩ (.int .i64 0)).setCell ⟨B8, 2, none⟩ (.slice none 0 0))) := (((Fr.refl (fun k => k = B8) wr).setCell (fun _ => rfl) _).setCell (fun _ => rfl) _).setCell (fun _ => rfl) _
          have HFW : Hid (Fr (fun _ => False) w wr) := hfw
          obtain ⟨t0, t1, t2, tf⟩ := cell_of_three hb8
          clear hb8 h3 hfw
          go_wp2_with fail
          generalize (((wr.setCell ⟨B8, 0, none⟩ (.int .i64 0)).setCell ⟨B8, 1, none⟩ (.int .i64 0)).setCell ⟨B8, 2, none⟩ (.slice none 0 0)) = w9 at *
          clear t0 t1 t2 tf
          obtain ⟨t0, t1, t2, tf⟩ := cell_of_three HB9.out
          refine bodyPost_ret (v := .tuple #[.agg zeroB, .int .i64 ((33 : Nat) : Int)]) (by simp [zeroB, results, Tryd.results33, go_sem, t0, t1, t2]) rfl (err_ret (HFW.out.trans HF9.out (fun i hi e => by have := HBW.out; omega)) HR2.out)
end Go.Proofs.YtpfajkkjnobdlaaDoor
