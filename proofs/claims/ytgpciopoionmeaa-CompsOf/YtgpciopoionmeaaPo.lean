/- 'pieceOf': the lines of a piece, drawn. -/
import Derived.Deep.Cut
import Derived.Deep.Light
import Derived.Deep.CutRange
import Derived.Test.YtgpciopoionmeaaLi
import Derived.Test.YtgpciopoionmeaaFi
import Derived.Test.YtgpciopoionmeaaPt
namespace Go.Proofs.Ytgpciopoionmeaa
open Go.RowKit

theorem blkUp3 {w : World} {o : Nat} {B : Obj} (h : w.heap[o]? = some B) (x : Obj) : (w.alloc x).heap[o]? = some B := by rw [Below.heap_alloc _ _ _ (lt_of_block h)]; exact h
theorem set3L {w : World} {o : Nat} {x y z : Value} (h : w.heap[o]? = some (.cells #[x, y, z] 102 (0, 0))) (a b c : Value) : (((w.setCell ⟨o, 0, none⟩ a).setCell ⟨o, 1, none⟩ b).setCell ⟨o, 2, none⟩ c).heap[o]? = some (.cells #[a, b, c] 102 (0, 0)) := by
  simp [World.setCell, Array.getElem?_modify, h]
theorem cell_of_five {w : World} {b : Nat} {x y z u v : Value} {t : TypeId} (h : w.heap[b]? = some (.cells #[x, y, z, u, v] t (0, 0))) :
    w.cell? ⟨b, 0, none⟩ = some x ∧ w.cell? ⟨b, 1, none⟩ = some y ∧ w.cell? ⟨b, 2, none⟩ = some z ∧ w.cell? ⟨b, 3, none⟩ = some u ∧ w.cell? ⟨b, 4, none⟩ = some v ∧ (∀ j, w.frozen? ⟨b, j, none⟩ = false) := by
  refine ⟨?_, ?_, ?_, ?_, ?_, fun j => ?_⟩ <;> simp [World.cell?, World.frozen?, h]
theorem fmL_take (a : Nat) (l : List Line) (k : Nat) (h : k < l.length) : fmL a (l.take (k + 1)) = min (fmL a (l.take k)) l[k].2.1 := by
  rw [List.take_add_one, List.getElem?_eq_getElem h]
  unfold fmL; rw [List.foldl_append]; rfl
theorem tmL_take (a : Nat) (l : List Line) (k : Nat) (h : k < l.length) : tmL a (l.take (k + 1)) = max (tmL a (l.take k)) l[k].2.2 := by
  rw [List.take_add_one, List.getElem?_eq_getElem h]
  unfold tmL; rw [List.foldl_append]; rfl
theorem onL_take (l : List Line) (k : Nat) (h : k < l.length) (x y : Nat) : onL (l.take (k + 1)) x y = (onL (l.take k) x y || (decide (l[k].1 = y) && decide (l[k].2.1 ≤ x) && decide (x < l[k].2.2))) := by
  rw [List.take_add_one, List.getElem?_eq_getElem h]
  unfold onL; rw [List.any_append]; simp [Option.toList]

/-- What a piece's lines keep to. -/
structure PtOK (pt : List Line) (Y0 YL a0 b0 al bl : Nat) : Prop where
  ne : 0 < pt.length
  wf : ∀ (i : Nat) (h : i < pt.length), pt[i].2.1 < pt[i].2.2 ∧ pt[i].2.2 ≤ 1048576 ∧ Y0 ≤ pt[i].1 ∧ pt[i].1 ≤ YL
  first : pt[0] = (Y0, a0, b0)
  last : pt[pt.length - 1] = (YL, al, bl)
  len : pt.length ≤ 1048576
  yl : YL ≤ 1048576
  area : (tmL b0 pt - fmL a0 pt) * (YL + 1 - Y0) ≤ 1048576

set_option maxRecDepth 100000 in
set_option maxHeartbeats 8000000 in
theorem pieceOf_ok (base g c Y0 YL a0 b0 al bl : Nat) (pt : List Line) (w : World) (hp : PtOK pt Y0 YL a0 b0 al bl) (ho : w.ownsRow base 102 3 (.slice (some ⟨g, 0, none⟩) pt.length c) pt.length (lineCells pt)) :
    Calls Try.prog 40 #[.slice (some ⟨g, 0, none⟩) pt.length c] w fun e w' => ∃ g2 cap2, e = .returned (.agg #[.int .i64 (fmL a0 pt : Nat), .int .i64 Y0, .int .i64 (tmL b0 pt - fmL a0 pt : Nat), .int .i64 (YL + 1 - Y0 : Nat), .slice (some ⟨g2, 0, none⟩) ((YL + 1 - Y0) * stride (tmL b0 pt - fmL a0 pt)) cap2]) ∧
      RowAt w' g2 cap2 (tmL b0 pt - fmL a0 pt) (YL + 1 - Y0) (fun x y => onL pt (fmL a0 pt + x) (Y0 + y)) ∧ w.heap.size ≤ g2 ∧ Fr (fun _ => False) w w' := by
  have hne := hp.ne
  have hlen := hp.len
  have HL : Hid (∀ w', Fr (fun _ => False) w w' → ∀ (i : Nat) (h : i < pt.length), w'.cell? ⟨g, i * 3, none⟩ = some (.int .i64 (pt[i].1 : Nat)) ∧ w'.cell? ⟨g, i * 3 + 1, none⟩ = some (.int .i64 (pt[i].2.1 : Nat)) ∧ w'.cell? ⟨g, i * 3 + 2, none⟩ = some (.int .i64 (pt[i].2.2 : Nat))) := fun w' hf i hi =>
    line_read (row_kept ho hf (fun _ _ h => h)) rfl hi
  have HWF : Hid (∀ (i : Nat) (h : i < pt.length), pt[i].2.1 < pt[i].2.2 ∧ pt[i].2.2 ≤ 1048576 ∧ Y0 ≤ pt[i].1 ∧ pt[i].1 ≤ YL) := hp.wf
  have HAR : Hid ((tmL b0 pt - fmL a0 pt) * (YL + 1 - Y0) ≤ 1048576) := hp.area
  have hyl := hp.yl
  have HL0 : Hid (∀ w', Fr (fun _ => False) w w' → w'.cell? ⟨g, 0, none⟩ = some (.int .i64 Y0) ∧ w'.cell? ⟨g, 1, none⟩ = some (.int .i64 a0) ∧ w'.cell? ⟨g, 2, none⟩ = some (.int .i64 b0) ∧ w'.cell? ⟨g, (pt.length - 1) * 3, none⟩ = some (.int .i64 YL) ∧ w'.cell? ⟨g, (pt.length - 1) * 3 + 1, none⟩ = some (.int .i64 al) ∧ w'.cell? ⟨g, (pt.length - 1) * 3 + 2, none⟩ = some (.int .i64 bl)) := fun w' hf => by
    obtain ⟨a, b, d⟩ := HL.out w' hf 0 hne
    obtain ⟨a', b', d'⟩ := HL.out w' hf (pt.length - 1) (by omega)
    rw [hp.first] at a b d
    rw [hp.last] at a' b' d'
    exact ⟨by simpa using a, by simpa using b, by simpa using d, a', b', d'⟩
  have H0 := HWF.out 0 hne
  rw [hp.first] at H0
  clear ho hp
  have hw0 : Y0 ≤ YL := H0.2.2.2
  have hab : a0 < b0 ∧ b0 ≤ 1048576 := ⟨H0.1, H0.2.1⟩
  clear H0
  obtain ⟨nl, hnl⟩ : ∃ nl, nl = pt.length - 1 := ⟨_, rfl⟩
  rw [← hnl] at HL0
  have g1 : IntKind.i64.wrap ((pt.length : Int) - 1) = (nl : Int) := by rw [IntKind.wrap_i64]; omega
  have g2 : (0 : Int) ≤ (nl : Int) := by omega
  have g3 : (nl : Int) < (pt.length : Int) := by omega
  have g4 : (0 : Int) < (pt.length : Int) := by omega
  clear hnl
  have HA : Hid (Fr (fun _ => False) w (w.alloc (.cells #[.int .i64 0, .int .i64 0, .int .i64 0, .int .i64 0, .slice none 0 0] 34))) := (Fr.refl _ _).alloc _
  have HR0 : Hid (w.heap.size < (w.alloc (.cells #[.int .i64 0, .int .i64 0, .int .i64 0, .int .i64 0, .slice none 0 0] 34)).heap.size) := by show _ < _; simp
  have HRB : Hid (∀ w', Fr (fun _ => False) (w.alloc (.cells #[.int .i64 0, .int .i64 0, .int .i64 0, .int .i64 0, .slice none 0 0] 34)) w' → w'.heap[w.heap.size]? = some (.cells #[.int .i64 0, .int .i64 0, .int .i64 0, .int .i64 0, .slice none 0 0] 34 (0, 0))) := fun w' hf => (hf.block w.heap.size (by simp) (fun hh => hh)).trans (heap_alloc_new w _)
  go_enter Try.func40, Try.ntmps40
  go_wp2_with fail
  generalize w.alloc (.cells #[.int .i64 0, .int .i64 0, .int .i64 0, .int .i64 0, .slice none 0 0] 34) = w0 at *
  go_cut [3, 4] from 13 to 21 (fun u v wc => ∃ o1 o2 : Nat, u = .pointer (some ⟨o1, 0, none⟩) ∧ v = .pointer (some ⟨o2, 0, none⟩) ∧ w0.heap.size ≤ o1 ∧ w0.heap.size ≤ o2 ∧ o1 ≠ o2 ∧ wc.heap[o1]? = some (.cells #[.int .i64 Y0, .int .i64 a0, .int .i64 b0] 102 (0, 0)) ∧ wc.heap[o2]? = some (.cells #[.int .i64 YL, .int .i64 al, .int .i64 bl] 102 (0, 0)) ∧ Fr (fun _ => False) w0 wc)
  case first =>
    go_region_held3 (fun w' => w'.cell? ⟨g, 0, none⟩ = some (.int .i64 Y0) ∧ w'.cell? ⟨g, 1, none⟩ = some (.int .i64 a0) ∧ w'.cell? ⟨g, 2, none⟩ = some (.int .i64 b0) ∧ w'.cell? ⟨g, nl * 3, none⟩ = some (.int .i64 YL) ∧ w'.cell? ⟨g, nl * 3 + 1, none⟩ = some (.int .i64 al) ∧ w'.cell? ⟨g, nl * 3 + 2, none⟩ = some (.int .i64 bl)) (exact HL0.out _ (HA.out.trans (by repeat (first | with_reducible exact Fr.refl _ _ | with_reducible refine Fr.setCell ?_ (fun hh => absurd hh (Nat.not_lt.2 (by first | exact Nat.le_refl _ | exact Nat.le_succ _ | (simp; omega)))) _ | with_reducible refine Fr.alloc ?_ _ | with_reducible refine Fr.drew ?_)) (fun _ _ h => h))) (fail)
    · go_wp2_with fail
      go_meet
      exact ⟨w0.heap.size, w0.heap.size + 1, rfl, rfl, by omega, by omega, by omega, blkUp3 (heap_alloc_new _ _) _, by have := heap_alloc_new (w0.alloc (.cells #[.int .i64 Y0, .int .i64 a0, .int .i64 b0] 102)) (.cells #[.int .i64 YL, .int .i64 al, .int .i64 bl] 102); rwa [World.size_alloc] at this, (((Fr.refl _ _).alloc _).alloc _).drew⟩
    · go_wp2_with fail
      go_meet
      exact ⟨w0.heap.size + 1, w0.heap.size, rfl, rfl, by omega, by omega, by omega, by have := heap_alloc_new (w0.alloc (.cells #[.int .i64 YL, .int .i64 al, .int .i64 bl] 102)) (.cells #[.int .i64 Y0, .int .i64 a0, .int .i64 b0] 102); rwa [World.size_alloc] at this, blkUp3 (heap_alloc_new _ _) _, (((Fr.refl _ _).alloc _).alloc _).drew⟩
  case rest =>
    obtain ⟨o1, o2, rfl, rfl, q1, q2, q3, hb1, hb2, hfc⟩ := hcut
    have HFC : Hid (Fr (fun _ => False) w wc) := HA.out.trans hfc (fun _ _ h => h)
    have HB1 : Hid (∀ w', Fr (fun _ => False) wc w' → w'.cell? ⟨o1, 0, none⟩ = some (.int .i64 Y0) ∧ w'.cell? ⟨o1, 1, none⟩ = some (.int .i64 a0) ∧ w'.cell? ⟨o1, 2, none⟩ = some (.int .i64 b0) ∧ w'.cell? ⟨o2, 0, none⟩ = some (.int .i64 YL)) := fun w' hf => by
      obtain ⟨x0, x1, x2, _⟩ := cell_of_three (blkOld hf hb1)
      obtain ⟨y0, _, _, _⟩ := cell_of_three (blkOld hf hb2)
      exact ⟨x0, x1, x2, y0⟩
    have HRC : Hid (∀ w', Fr (fun _ => False) wc w' → w'.heap[w.heap.size]? = some (.cells #[.int .i64 0, .int .i64 0, .int .i64 0, .int .i64 0, .slice none 0 0] 34 (0, 0))) := fun w' hf => HRB.out w' (hfc.trans hf (fun _ _ h => h))
    have HB2 : Hid (∀ w', Fr (fun k => k = w.heap.size) wc w' → w'.cell? ⟨o1, 0, none⟩ = some (.int .i64 Y0)) := fun w' hf => by
      have hb' := (hf.block o1 (lt_of_block hb1) (fun e => by have := HR0.out; omega)).trans hb1
      exact (cell_of_three hb').1
    have hwc : w.heap.size < wc.heap.size := Nat.lt_of_lt_of_le HR0.out hfc.size
    obtain ⟨e0, e1, e2, e3⟩ := HB1.out wc (Fr.refl _ _)
    clear hb1 hb2 hfc q1 q2 q3 HRB HL0 HR0 HA
    go_wp2_with fail
    go_quiet (fail)
    go_wp2_with fail
    go_loopg [5, 6, 30] pt.length (fun q fv tv k wr => ∃ (i : Nat), i + q = pt.length ∧ k = .int .i64 i ∧ fv = .int .i64 (fmL a0 (pt.take i) : Nat) ∧ tv = .int .i64 (tmL b0 (pt.take i) : Nat) ∧ Fr (fun _ => False) wc wr)
    case atStart => exact ⟨0, by omega, rfl, rfl, rfl, (Fr.refl _ _).drewN _⟩
    case round =>
      clear e0 e1 e2 e3
      obtain ⟨i, hq, rfl, rfl, rfl, hfr⟩ := hrel
      have HF : Hid (Fr (fun _ => False) wc wr) := hfr
      clear hfr
      by_cases hin : i < pt.length
      · have di : decide (i < pt.length) = true := decide_eq_true hin
        obtain ⟨r0, r1, r2⟩ := HL.out wr (HFC.out.trans HF.out (fun _ _ h => h)) i hin
        have HFM : Hid (fmL a0 (pt.take (i + 1)) = min (fmL a0 (pt.take i)) pt[i].2.1) := fmL_take a0 pt i hin
        have HTM : Hid (tmL b0 (pt.take (i + 1)) = max (tmL b0 (pt.take i)) pt[i].2.2) := tmL_take b0 pt i hin
        generalize pt[i].1 = yi at *
        generalize pt[i].2.1 = ai at *
        generalize pt[i].2.2 = bi at *
        generalize fmL a0 (pt.take i) = fm at *
        generalize tmL b0 (pt.take i) = tm at *
        have HNB : Hid (∀ w', Fr (fun _ => False) (wr.alloc (.cells #[.int .i64 yi, .int .i64 ai, .int .i64 bi] 102)) w' → w'.cell? ⟨wr.heap.size, 0, none⟩ = some (.int .i64 yi) ∧ w'.cell? ⟨wr.heap.size, 1, none⟩ = some (.int .i64 ai) ∧ w'.cell? ⟨wr.heap.size, 2, none⟩ = some (.int .i64 bi)) := fun w' hf => by
          obtain ⟨x0, x1, x2, _⟩ := cell_of_three (blkOld hf (heap_alloc_new wr (.cells #[.int .i64 yi, .int .i64 ai, .int .i64 bi] 102)))
          exact ⟨x0, x1, x2⟩
        go_wp2_with fail
        go_region_held3 (fun w' => w'.cell? ⟨wr.heap.size, 0, none⟩ = some (.int .i64 yi) ∧ w'.cell? ⟨wr.heap.size, 1, none⟩ = some (.int .i64 ai) ∧ w'.cell? ⟨wr.heap.size, 2, none⟩ = some (.int .i64 bi)) (exact HNB.out _ (by repeat (first | with_reducible exact Fr.refl _ _ | with_reducible refine Fr.drew ?_))) (fail)
        all_goals
          go_wp2_with fail
          go_roundg (pt.length - (i + 1))
          case measure => omega
          case rel => exact ⟨i + 1, by omega, rfl, congrArg (Value.int .i64) (by rw [HFM.out]; omega), congrArg (Value.int .i64) (by rw [HTM.out]; omega), (HF.out.alloc _).drew⟩
      · have di : decide (i < pt.length) = false := decide_eq_false hin
        have HTK : Hid (pt.take i = pt) := by rw [show i = pt.length by omega]; exact List.take_length
        rw [HTK.out]
        have HFT : Hid (∀ (i : Nat) (h : i < pt.length), fmL a0 pt ≤ pt[i].2.1 ∧ pt[i].2.2 ≤ tmL b0 pt) := fun i h => ⟨fmL_le.2 _ (List.getElem_mem h), tmL_le.2 _ (List.getElem_mem h)⟩
        have hfa : fmL a0 pt ≤ a0 := fmL_le.1
        have htb : b0 ≤ tmL b0 pt := tmL_le.1
        have htm : tmL b0 pt ≤ 1048576 := by
          rcases tmL_mem (l := pt) (a := b0) with e | ⟨x, hx, e⟩
          · omega
          · obtain ⟨j, hj, rfl⟩ := List.getElem_of_mem hx
            have := HWF.out j hj; omega
        obtain ⟨e0, e1, e2, e3⟩ := HB1.out wr HF.out
        obtain ⟨fm, HFE⟩ : ∃ fm, Hid (fmL a0 pt = fm) := ⟨_, rfl⟩
        obtain ⟨tm, HTE⟩ : ∃ tm, Hid (tmL b0 pt = tm) := ⟨_, rfl⟩
        rw [HFE.out] at hfa HAR HFT
        rw [HTE.out] at htb htm HAR HFT
        rw [HFE.out, HTE.out]
        have g5 : IntKind.i64.wrap ((tm : Int) - (fm : Int)) = ((tm - fm : Nat) : Int) := by rw [IntKind.wrap_i64]; omega
        have g6 : IntKind.i64.wrap ((YL : Int) + 1) = ((YL + 1 : Nat) : Int) := by rw [IntKind.wrap_i64]; omega
        have g7 : IntKind.i64.wrap (((YL + 1 : Nat) : Int) - (Y0 : Int)) = ((YL + 1 - Y0 : Nat) : Int) := by rw [IntKind.wrap_i64]; omega
        generalize hW : tm - fm = W at *
        generalize hH : YL + 1 - Y0 = H at *
        have HW : Hid (tm - fm = W) := hW
        have HH : Hid (YL + 1 - Y0 = H) := hH
        have HW1 : Hid (1 ≤ W) := by show _ ≤ _; omega
        have HH1 : Hid (1 ≤ H) := by show _ ≤ _; omega
        have g8 : (YL : Int) + 1 - (Y0 : Int) = (H : Int) := by omega
        clear hW hH
        go_wp2_with fail
        refine (new_yes W H _ HW1.out HH1.out HAR.out).mono ?_
        rintro e w4 ⟨b, gm, rfl, hnew⟩
        have HM0 : Hid (MapAt w4 b gm (H * stride W) W H (fun _ _ => false)) := hnew.at_
        have HF4 : Hid (Fr (fun _ => False) wc w4) := HF.out.trans hnew.fr (fun _ _ h => h)
        have HNB : Hid (wc.heap.size ≤ b ∧ wc.heap.size ≤ gm) := ⟨Nat.le_trans HF.out.size hnew.nb, Nat.le_trans HF.out.size hnew.ng⟩
        clear hnew e0 e1 e2 e3 HF HTK di
        generalize H * stride W = cpm at *
        go_wp2_with fail
        go_loopg [60] pt.length (fun q k wr => ∃ (i : Nat), i + q = pt.length ∧ k = .int .i64 i ∧ MapAt wr b gm cpm W H (fun x y => onL (pt.take i) (fm + x) (Y0 + y)) ∧ Fr (fun _ => False) wc wr)
        case atStart => exact ⟨0, by omega, rfl, by simpa [onL] using HM0.out, HF4.out⟩
        case round =>
          clear HM0 HF4
          obtain ⟨i, hq, rfl, hm, hfr⟩ := hrel
          have HM : Hid (MapAt wr b gm cpm W H (fun x y => onL (pt.take i) (fm + x) (Y0 + y))) := hm
          have HF : Hid (Fr (fun _ => False) wc wr) := hfr
          clear hfr hm
          by_cases hin : i < pt.length
          · have di : decide (i < pt.length) = true := decide_eq_true hin
            obtain ⟨r0, r1, r2⟩ := HL.out wr (HFC.out.trans HF.out (fun _ _ h => h)) i hin
            have HON : Hid (∀ x y, onL (pt.take (i + 1)) x y = (onL (pt.take i) x y || (decide (pt[i].1 = y) && decide (pt[i].2.1 ≤ x) && decide (x < pt[i].2.2)))) := onL_take pt i hin
            have wf := HWF.out i hin
            have ft := HFT.out i hin
            generalize pt[i].1 = yi at *
            generalize pt[i].2.1 = ai at *
            generalize pt[i].2.2 = bi at *
            have g9 : IntKind.i64.wrap ((ai : Int) - (fm : Int)) = ((ai - fm : Nat) : Int) := by rw [IntKind.wrap_i64]; omega
            have g10 : IntKind.i64.wrap ((yi : Int) - (Y0 : Int)) = ((yi - Y0 : Nat) : Int) := by rw [IntKind.wrap_i64]; omega
            have g11 : IntKind.i64.wrap ((bi : Int) - (ai : Int)) = ((bi - ai : Nat) : Int) := by rw [IntKind.wrap_i64]; omega
            have h1a : (ai : Int) - (fm : Int) = ((ai - fm : Nat) : Int) := by omega
            have h1b : (yi : Int) - (Y0 : Int) = ((yi - Y0 : Nat) : Int) := by omega
            have h1c : (bi : Int) - (ai : Int) = ((bi - ai : Nat) : Int) := by omega
            have HPX : Hid (∀ x y, x < W → y < H → fillPix (fun x y => onL (pt.take i) (fm + x) (Y0 + y)) (ai - fm : Nat) (yi - Y0 : Nat) (bi - ai : Nat) 1 (decide (1 = 1)) x y = onL (pt.take (i + 1)) (fm + x) (Y0 + y)) := fun x y _ _ => by
              rw [HON.out]
              unfold fillPix
              by_cases hc : (0 ≤ (x : Int) - (ai - fm : Nat) ∧ (x : Int) - (ai - fm : Nat) < (bi - ai : Nat)) ∧ (0 ≤ (y : Int) - (yi - Y0 : Nat) ∧ (y : Int) - (yi - Y0 : Nat) < 1)
              · rw [if_pos hc, decide_eq_true (show yi = Y0 + y by omega), decide_eq_true (show ai ≤ fm + x by omega), decide_eq_true (show fm + x < bi by omega)]; simp
              · rw [if_neg hc]
                have : (decide (yi = Y0 + y) && decide (ai ≤ fm + x) && decide (fm + x < bi)) = false := by
                  rw [Bool.eq_false_iff]
                  intro h
                  simp at h
                  omega
                rw [this, Bool.or_false]
            have HNW : Hid (∀ w', Fr (fun _ => False) (wr.alloc (.cells #[.int .i64 yi, .int .i64 ai, .int .i64 bi] 102)) w' → w'.cell? ⟨wr.heap.size, 0, none⟩ = some (.int .i64 yi) ∧ w'.cell? ⟨wr.heap.size, 1, none⟩ = some (.int .i64 ai) ∧ w'.cell? ⟨wr.heap.size, 2, none⟩ = some (.int .i64 bi)) := fun w' hf => by
              obtain ⟨x0, x1, x2, _⟩ := cell_of_three (blkOld hf (heap_alloc_new wr (.cells #[.int .i64 yi, .int .i64 ai, .int .i64 bi] 102)))
              exact ⟨x0, x1, x2⟩
            have HMA : Hid (MapAt (wr.alloc (.cells #[.int .i64 yi, .int .i64 ai, .int .i64 bi] 102)) b gm cpm W H (fun x y => onL (pt.take i) (fm + x) (Y0 + y))) := HM.out.kept ((Fr.refl (fun _ => False) _).alloc _) (fun h => h) (fun h => h)
            have HFA : Hid (Fr (fun _ => False) wc (wr.alloc (.cells #[.int .i64 yi, .int .i64 ai, .int .i64 bi] 102))) := HF.out.alloc _
            obtain ⟨k0, k1, k2⟩ := HNW.out _ (Fr.refl _ _)
            obtain ⟨e0, _, _, _⟩ := HB1.out _ HFA.out
            go_wp2_with fail
            refine (fill_any b gm cpm W H 1 _ (ai - fm : Nat) (yi - Y0 : Nat) (bi - ai : Nat) 1 _ HMA.out (by decide) (by omega) (by omega) (by omega) (by omega)).mono ?_
            rintro e w5 ⟨rfl, hm5, hf5⟩
            have HM5 : Hid (MapAt w5 b gm cpm W H (fun x y => onL (pt.take (i + 1)) (fm + x) (Y0 + y))) := hm5.pix HPX.out
            have HF5 : Hid (Fr (fun _ => False) wc w5) := HFA.out.trans hf5 (fun k hk e => by have := HNB.out.2; omega)
            clear hm5 hf5 k0 k1 k2 e0
            go_wp2_with fail
            go_roundg (pt.length - (i + 1))
            case measure => omega
            case rel => exact ⟨i + 1, by omega, rfl, HM5.out, HF5.out⟩
          · have di : decide (i < pt.length) = false := decide_eq_false hin
            have HMN : Hid (MapAt wr b gm cpm W H (fun x y => onL pt (fm + x) (Y0 + y))) := by
              have := HM.out
              rwa [show i = pt.length by omega, List.take_length] at this
            have HPL : Hid (∀ w', Fr (fun _ => False) wr w' → Calls Try.prog 28 #[.pointer (some ⟨b, 0, none⟩)] w' fun e w'' => ∃ g2 cap2, e = .returned (.agg #[.int .i64 W, .int .i64 H, .slice (some ⟨g2, 0, none⟩) (H * stride W) cap2]) ∧ RowAt w'' g2 cap2 W H (fun x y => onL pt (fm + x) (Y0 + y)) ∧ Fr (fun _ => False) w' w'' ∧ w'.heap.size ≤ g2) := fun w' hf => plain_any b gm cpm W H _ w' (HMN.out.kept hf (fun h => h) (fun h => h))
            clear HM HMN
            generalize hcw : H * stride W = cw at *
            go_wp2_with fail
            have hfw : Fr (fun k => k = w.heap.size) wc wr := HF.out.mono (fun _ _ h => h.elim)
            go_region_held3 (fun w' => w'.cell? ⟨o1, 0, none⟩ = some (.int .i64 Y0)) (exact HB2.out _ (by repeat (first | with_reducible exact hfw | with_reducible refine Fr.drew ?_ | with_reducible exact hf4 | with_reducible refine Fr.slot ?_ _))) (first | (go_at_call 28; refine (HPL.out _ (Fr.refl _ _).drew).mono ?_; rintro e w5 ⟨g2, cap2, rfl, hr5, hf5, hg5⟩; have hf6 : Fr (fun _ => False) wc w5 := HF.out.drew.trans hf5 (fun _ _ h => h); have hf4 : Fr (fun k => k = w.heap.size) wc w5 := hf6.mono (fun _ _ h => h.elim); have hbk := HRC.out w5 hf6; obtain ⟨z0, z1, z2, z3, z4, zf⟩ := cell_of_five hbk))
            have HR5 : Hid (RowAt w5 g2 cap2 W H (fun x y => onL pt (fm + x) (Y0 + y))) := hr5
            have HG5 : Hid (w.heap.size ≤ g2 ∧ g2 ≠ w.heap.size) := by
              have : wr.drew.heap.size = wr.heap.size := rfl
              have := HF.out.size
              constructor <;> omega
            have HF6 : Hid (Fr (fun _ => False) w w5) := HFC.out.trans hf6 (fun _ _ h => h)
            clear hr5 hf5 hg5 hf6 hf4 hfw
            have hbk2 : (((((w5.setCell ⟨w.heap.size, 0, none⟩ (.int .i64 fm)).setCell ⟨w.heap.size, 1, none⟩ (.int .i64 Y0)).setCell ⟨w.heap.size, 2, none⟩ (.int .i64 W)).setCell ⟨w.heap.size, 3, none⟩ (.int .i64 H)).setCell ⟨w.heap.size, 4, none⟩ (.slice (some ⟨g2, 0, none⟩) cw cap2)).heap[w.heap.size]? = some (.cells #[.int .i64 fm, .int .i64 Y0, .int .i64 W, .int .i64 H, .slice (some ⟨g2, 0, none⟩) cw cap2] 34 (0, 0)) := by
              simp [World.setCell, Array.getElem?_modify, hbk]
            have HFS : Hid (Fr (fun k => k = w.heap.size) w5 (((((w5.setCell ⟨w.heap.size, 0, none⟩ (.int .i64 fm)).setCell ⟨w.heap.size, 1, none⟩ (.int .i64 Y0)).setCell ⟨w.heap.size, 2, none⟩ (.int .i64 W)).setCell ⟨w.heap.size, 3, none⟩ (.int .i64 H)).setCell ⟨w.heap.size, 4, none⟩ (.slice (some ⟨g2, 0, none⟩) cw cap2))) :=
              (((((Fr.refl (fun k => k = w.heap.size) w5).setCell (p := ⟨w.heap.size, 0, none⟩) (fun _ => rfl) _).setCell (p := ⟨w.heap.size, 1, none⟩) (fun _ => rfl) _).setCell (p := ⟨w.heap.size, 2, none⟩) (fun _ => rfl) _).setCell (p := ⟨w.heap.size, 3, none⟩) (fun _ => rfl) _).setCell (p := ⟨w.heap.size, 4, none⟩) (fun _ => rfl) _
            generalize (((((w5.setCell ⟨w.heap.size, 0, none⟩ (.int .i64 fm)).setCell ⟨w.heap.size, 1, none⟩ (.int .i64 Y0)).setCell ⟨w.heap.size, 2, none⟩ (.int .i64 W)).setCell ⟨w.heap.size, 3, none⟩ (.int .i64 H)).setCell ⟨w.heap.size, 4, none⟩ (.slice (some ⟨g2, 0, none⟩) cw cap2)) = w6 at *
            clear z0 z1 z2 z3 z4 zf hbk
            obtain ⟨y0, y1, y2, y3, y4, yf⟩ := cell_of_five hbk2
            clear yf hbk2
            go_wp2_with fail
            (try simp only [Exit.inBlock, Exit.then])
            refine bodyPost_ret (by simp [results, Try.results40, go_sem, y0, y1, y2, y3, y4]; rfl) rfl ?_
            rw [HFE.out, HTE.out, HW.out, HH.out, hcw]
            refine ⟨g2, cap2, rfl, HR5.out.kept HFS.out HG5.out.2, HG5.out.1, HF6.out.trans HFS.out (fun k hk e => by omega)⟩

end Go.Proofs.Ytgpciopoionmeaa
