/- 'Mirror' by pixels. -/
import Derived.Test.YtflhbmapikdmhaaDoorRev
import Derived.Test.YtflhbmapikdmhaaDoorLay53
import Derived.Test.YtflhbmapikdmhaaDoorMove
import Derived.Deep.RegionHeld3
import Derived.Deep.RegionWith
namespace Go.Proofs.YtflhbmapikdmhaaDoor
open Go.RowKit

/-- A line of words: block gl. -/
def LineRow (w : World) (gl L : Nat) (l : List Nat) : Prop := w.ownsRow 0 77 1 (.slice (some ⟨gl, 0, none⟩) L L) L (wordCells l)
theorem LineRow.kept {S : Nat → Prop} {w w' : World} {gl L : Nat} {l : List Nat} (h : LineRow w gl L l) (f : Fr S w w') (h1 : ¬ S gl) : LineRow w' gl L l :=
  row_kept h f (fun k hk => by simp [Value.ownBlock] at hk; subst hk; exact h1)
theorem LineRow.len {w : World} {gl L : Nat} {l : List Nat} (h : LineRow w gl L l) : l.length = L := by have := h.1; rw [length_wordCells] at this; omega
theorem LineRow.lt {w : World} {gl L : Nat} {l : List Nat} (h : LineRow w gl L l) : gl < w.heap.size := (World.ownsRow.lt h gl rfl).2
theorem LineRow.at_ {w : World} {gl L : Nat} {l : List Nat} (h : LineRow w gl L l) (hlt : ∀ j : Nat, l[j]?.getD 0 < 18446744073709551616) : LineAt w gl l :=
  ⟨fun j hj => by rw [World.ownsRow.cellAt h j (by have := h.len; omega), wordCells_get, List.getElem?_eq_getElem hj]; rfl, hlt, h.lt⟩
theorem LineRow.put {w : World} {gl L : Nat} {l : List Nat} (h : LineRow w gl L l) (i x : Nat) : LineRow (w.setCell ⟨gl, i, none⟩ (.int .u64 (x : Int))) gl L (l.set i x) := by
  have := (World.ownsRow.stored h i (.int .u64 (x : Int))).1
  rw [wordCells_set] at this
  exact this

/-- The line's pixels behind a row that was turned round. -/
theorem mirror_pix (W : Nat) (P : Nat → Nat → Bool) (y : Nat) (l : List Nat) (hW : 1 ≤ W) (hl : ∀ j, 1 ≤ j → j ≤ stride W → l[j]? = some (rev (wd W P y (stride W - j)))) (a : Nat) (ha : a < W) : linePix l (a - 0 + (stride W * 64 - W) + 64) = P (W - 1 - a) y := by
  have hs : W ≤ 64 * stride W ∧ 64 * stride W < W + 64 := by unfold stride; omega
  unfold linePix
  obtain ⟨q, hq⟩ : ∃ q, q = a - 0 + (stride W * 64 - W) + 64 := ⟨_, rfl⟩
  rw [← hq, hl (q / 64) (by omega) (by omega), Option.getD_some]
  rw [rev_bit _ _ (Nat.mod_lt _ (by omega))]
  have h63 : q % 64 = 63 - (63 - q % 64) := by omega
  unfold wd
  rw [h63, bit_wordOf _ _ (by omega)]
  rw [decide_eq_true (by omega), Bool.true_and]
  congr 1
  omega

def mirPix (W : Nat) (P : Nat → Nat → Bool) : Nat → Nat → Bool := fun x y => P (W - 1 - x) y
def mirPart (W : Nat) (P : Nat → Nat → Bool) (k : Nat) : Nat → Nat → Bool := fun x y => decide (y < k) && P (W - 1 - x) y

theorem mirPart_step (W H : Nat) (P : Nat → Nat → Bool) (k : Nat) (hW : 1 ≤ W) (l : List Nat) (hl : ∀ j, 1 ≤ j → j ≤ stride W → l[j]? = some (rev (wd W P k (stride W - j)))) : ∀ x y, x < W → y < H → laidAll (mirPart W P k) k 0 W (fun a => (fun _ s => s) (mirPart W P k a k) (linePix l (a - 0 + (stride W * 64 - W) + 64))) x y = mirPart W P (k + 1) x y := by
  intro x y hx hy
  unfold laidAll
  by_cases h : y = k
  · subst h
    rw [if_pos ⟨rfl, by omega, by omega⟩]
    show linePix l _ = _
    rw [mirror_pix W P y l hW hl x hx]
    unfold mirPart
    rw [decide_eq_true (by omega), Bool.true_and]
  · rw [if_neg (fun hh => h hh.1)]
    unfold mirPart
    congr 1
    rw [decide_eq_decide]
    omega

set_option maxRecDepth 100000 in
set_option maxHeartbeats 2000000 in
theorem mirror_any (b g cap W H : Nat) (P : Nat → Nat → Bool) (w : World) (h : MapAt w b g cap W H P) :
    Calls Tryd.prog 14 #[.pointer (some ⟨b, 0, none⟩)] w fun e w' => ∃ b2 g2, e = .returned (.pointer (some ⟨b2, 0, none⟩)) ∧ NewMap w w' b2 g2 (H * stride W) W H (mirPix W P) := by
  obtain ⟨i0, hi, hz0, hz1, hz2⟩ := info_parts Tryd.info88
  obtain ⟨f1, f2, f3⟩ := size_facts h.wpos h.hpos h.area
  have HSZ : Hid (1 ≤ W ∧ 1 ≤ H ∧ W * H ≤ 1048576) := ⟨h.wpos, h.hpos, h.area⟩
  have HM : Hid (∀ w', Fr (fun _ => False) w w' → MapAt w' b g cap W H P) := fun w' hf => h.kept hf (fun x => x) (fun x => x)
  have HC : Hid (∀ w', Fr (fun _ => False) w w' → w'.cell? ⟨b, 0, none⟩ = some (.int .i64 W) ∧ w'.cell? ⟨b, 1, none⟩ = some (.int .i64 H) ∧ w'.cell? ⟨b, 2, none⟩ = some (.int .i64 (stride W : Nat))) := fun w' hf => by
    obtain ⟨c0, c1, c2, _⟩ := cell_of_four (h.kept hf (fun x => x) (fun x => x)).blk
    exact ⟨c0, c1, c2⟩
  have hS : 0 < stride W := by have := h.wpos; unfold stride; omega
  have hSb : stride W ≤ 1048576 := by unfold stride; omega
  have hs64 : W ≤ 64 * stride W ∧ 64 * stride W < W + 64 := by unfold stride; omega
  have hbl := h.lt
  have hgl := h.glt
  clear h
  go_enter Tryd.func14, Tryd.ntmps14
  go_wp2_with fail
  go_region_held3 (fun w' => w'.cell? ⟨b, 0, none⟩ = some (.int .i64 W) ∧ w'.cell? ⟨b, 1, none⟩ = some (.int .i64 H)) (first | exact ⟨(HC.out _ ((Fr.refl _ _).drew)).1, (HC.out _ ((Fr.refl _ _).drew)).2.1⟩ | exact ⟨(HC.out _ (((Fr.refl _ _).drew).trans hn1.fr (fun _ _ hh => hh))).1, (HC.out _ (((Fr.refl _ _).drew).trans hn1.fr (fun _ _ hh => hh))).2.1⟩) (first | (go_at_call 44; refine (white_any W H _ HSZ.out.1 HSZ.out.2.1 HSZ.out.2.2).mono ?_; rintro e w1 ⟨b2, g2, rfl, hn1⟩))
  have HN1 : Hid (NewMap w w1 b2 g2 (H * stride W) W H (fun _ _ => false)) := ⟨hn1.at_, ((Fr.refl _ _).drew).trans hn1.fr (fun _ _ hh => hh), hn1.nb, hn1.ng⟩
  clear hn1
  obtain ⟨c0, c1, c2⟩ := HC.out w1 HN1.out.fr
  go_wp2_with (first | (at_make; refine wpList_make_full _ rfl _ _ 37 rfl 0 77 i0 (.int .u64 0) 1 Tryd.underlying37 hi hz0 hz1 .i64 .i64 _ _ (stride W + 2) rfl rfl ?_ ?_ ?_ ?_ ?_ ?_))
  · omega
  · omega
  · rw [hz2]; omega
  · unfold maxLen; omega
  · omega
  · intro w2 hown hgrow
    have HLR : Hid (LineRow w2 w1.heap.size (stride W + 2) (List.replicate (stride W + 2) 0)) := by
      unfold LineRow; rw [wordCells_replicate, ← toList_madeCells_one]; exact hown
    have hf2 : Fr (fun _ => False) w1 w2 := (Fr.refl _ _).grown hgrow (fun _ e _ => by cases e)
    have HF2 : Hid (Fr (fun _ => False) w w2) := HN1.out.fr.trans hf2 (fun _ _ hh => hh)
    have HM2 : Hid (MapAt w2 b2 g2 (H * stride W) W H (mirPart W P 0)) := (HN1.out.at_.kept hf2 (fun x => x) (fun x => x)).pix (fun x y _ _ => by unfold mirPart; simp)
    have HNN : Hid (w.heap.size ≤ b2 ∧ w.heap.size ≤ g2 ∧ b2 < w1.heap.size ∧ g2 < w1.heap.size ∧ w.heap.size ≤ w1.heap.size) := ⟨HN1.out.nb, HN1.out.ng, HN1.out.at_.lt, HN1.out.at_.glt, HN1.out.fr.size⟩
    have hl2 := HLR.out.lt
    clear hown hgrow hf2 HN1 c0 c1 c2 hi hz0 hz1 hz2
    obtain ⟨c0, c1, c2⟩ := HC.out w2 HF2.out
    obtain ⟨fr, hfr⟩ : ∃ fr, fr = stride W * 64 - W := ⟨_, rfl⟩
    have g1 : IntKind.i64.wrap ((stride W : Int) * 64) = (stride W : Int) * 64 := by rw [IntKind.wrap_i64]; omega
    have g2' : IntKind.i64.wrap ((stride W : Int) * 64 - (W : Int)) = (fr : Int) := by rw [IntKind.wrap_i64]; omega
    have g3 : (stride W : Int) * 64 - (W : Int) = (fr : Int) := by omega
    have HFE : Hid (fr = stride W * 64 - W) := hfr
    clear hfr
    have hA0 : ∀ o, (w2.alloc o).cell? ⟨b, 0, none⟩ = some (.int .i64 W) := fun o => (HC.out _ (HF2.out.alloc o)).1
    have hA2 : ∀ o, (w2.alloc o).cell? ⟨b, 2, none⟩ = some (.int .i64 (stride W : Nat)) := fun o => (HC.out _ (HF2.out.alloc o)).2.2
    go_wp2_with fail
    go_region
    obtain ⟨w3, hw3⟩ : ∃ w3, w3 = (w2.alloc (.cells #[.int .i64 fr, .int .i64 0, .int .i64 W] 63)).drew := ⟨_, rfl⟩
    have hf23 : Fr (fun _ => False) w2 w3 := by rw [hw3]; exact ((Fr.refl _ _).alloc _).drew
    have HB3 : Hid (w3.heap[w2.heap.size]? = some (.cells #[.int .i64 fr, .int .i64 0, .int .i64 W] 63 (0, 0))) := by show _ = _; rw [hw3]; exact heap_alloc_new _ _
    have HM3 : Hid (MapAt w3 b2 g2 (H * stride W) W H (mirPart W P 0)) := HM2.out.kept hf23 (fun x => x) (fun x => x)
    have HL3 : Hid (LineRow w3 w1.heap.size (stride W + 2) (List.replicate (stride W + 2) 0)) := HLR.out.kept hf23 (fun hh => hh)
    obtain ⟨gl, hgl1⟩ : ∃ gl, gl = w1.heap.size := ⟨_, rfl⟩
    rw [← hgl1] at HL3 HNN hl2 ⊢
    have HK : Hid (∀ w', Fr (fun i => i = g2 ∨ i = gl) w3 w' → (MapAt w' b g cap W H P ∧ Fr (fun _ => False) w w') ∧ (w'.cell? ⟨b, 1, none⟩ = some (.int .i64 H) ∧ w'.cell? ⟨b, 2, none⟩ = some (.int .i64 (stride W : Nat))) ∧ (w'.cell? ⟨w2.heap.size, 0, none⟩ = some (.int .i64 fr) ∧ w'.cell? ⟨w2.heap.size, 1, none⟩ = some (.int .i64 0) ∧ w'.cell? ⟨w2.heap.size, 2, none⟩ = some (.int .i64 W))) := fun w' hf => by
      obtain ⟨n1, n2, n3, n4, n5⟩ := HNN.out
      have hx : Fr (fun _ => False) w w' := (HF2.out.trans hf23 (fun _ _ hh => hh)).trans hf (fun i hi hh => by omega)
      obtain ⟨_, a1, a2⟩ := HC.out w' hx
      have e1 : w'.heap[w2.heap.size]? = some (.cells #[.int .i64 fr, .int .i64 0, .int .i64 W] 63 (0, 0)) := (hf.block _ (lt_of_block HB3.out) (by omega)).trans HB3.out
      obtain ⟨y0, y1, y2, _⟩ := cell_of_three e1
      exact ⟨⟨HM.out w' hx, hx⟩, ⟨a1, a2⟩, y0, y1, y2⟩
    have HLAY : Hid (∀ (k : Nat) (l : List Nat) w', MapAt w' b2 g2 (H * stride W) W H (mirPart W P k) → LineRow w' gl (stride W + 2) l → (∀ j : Nat, l[j]?.getD 0 < 18446744073709551616) → k < H → (∀ j, 1 ≤ j → j ≤ stride W → l[j]? = some (rev (wd W P k (stride W - j)))) → Calls Tryd.prog 46 #[.slice (some ⟨g2, k * stride W, none⟩) (stride W) (stride W), .slice (some ⟨gl, 0, none⟩) (stride W + 2) (stride W + 2), .agg #[.int .i64 fr, .int .i64 0, .int .i64 W], .func (.func 47) #[] #[]] w' fun e w'' => e = .returned (.tuple #[]) ∧ MapAt w'' b2 g2 (H * stride W) W H (mirPart W P (k + 1)) ∧ Fr (fun i => i = g2) w' w'') := fun k l w' hm hl hlt hk hlj => by
      have hfe := HFE.out
      obtain ⟨n1, n2, n3, n4, n5⟩ := HNN.out
      have := lay_53 (fun _ s => s) (fun _ s => s) isReplace b2 g2 (H * stride W) W H (mirPart W P k) k fr 0 W gl (stride W + 2) l w' hm (hl.at_ hlt) hl.len (by omega) hk (by omega) (by omega) (by omega) (by omega)
      refine this.mono ?_
      rintro e w'' ⟨he, hm2, hf⟩
      rw [hfe] at hm2
      exact ⟨he, hm2.pix (mirPart_step W H P k HSZ.out.1 l hlj), hf⟩
    have HRW : Hid (∀ (k : Nat) w', MapAt w' b2 g2 (H * stride W) W H (mirPart W P k) → k < H → Calls Tryd.prog 34 #[.pointer (some ⟨b2, 0, none⟩), .int .i64 k] w' fun e w'' => e = .returned (.slice (some ⟨g2, k * stride W, none⟩) (stride W) (stride W)) ∧ ∃ q, w'' = w'.drewN q) := fun k w' hm hk => row_any b2 g2 (H * stride W) W H (mirPart W P k) k w' hm hk
    rw [← hw3]
    have h31 : Fr (fun i => i = g2 ∨ i = gl) w3 w3 := Fr.refl _ _
    obtain ⟨_, ⟨c1', c2'⟩, _⟩ := HK.out w3 h31
    clear hw3 hf23 HM2 HLR HF2 HC h31 c0 c1 c2 hA0 hA2 g1 g2' g3 hgl1
    go_wp2_with fail
    go_loopw [43, 6, 7, 8] (fun i _ _ _ wr => ∃ (k : Nat) (l : List Nat), k ≤ H ∧ i = .int .i64 k ∧ MapAt wr b2 g2 (H * stride W) W H (mirPart W P k) ∧ LineRow wr gl (stride W + 2) l ∧ Hid (∀ j : Nat, l[j]?.getD 0 < 18446744073709551616) ∧ Fr (fun i => i = g2 ∨ i = gl) w3 wr) (fun i _ _ _ _ => H - (intOf i).toNat)
    case atStart => exact ⟨0, _, Nat.zero_le _, rfl, HM3.out, HL3.out, (fun j => by rw [List.getElem?_replicate]; split <;> simp), Fr.refl _ _⟩
    case round =>
      obtain ⟨k, l, hk, rfl, hm, hl, hlt, hfr⟩ := hrel
      have HMr : Hid (MapAt wr b2 g2 (H * stride W) W H (mirPart W P k)) := hm
      have HLr : Hid (LineRow wr gl (stride W + 2) l) := hl
      have HFr : Hid (Fr (fun i => i = g2 ∨ i = gl) w3 wr) := hfr
      have HLT : Hid (∀ j : Nat, l[j]?.getD 0 < 18446744073709551616) := hlt.out
      clear hm hl hfr hlt c1' c2'
      by_cases hlk : k < H
      · have HR0 : Hid (Calls Tryd.prog 34 #[.pointer (some ⟨b, 0, none⟩), .int .i64 k] wr fun e w'' => e = .returned (.slice (some ⟨g, k * stride W, none⟩) (stride W) (stride W)) ∧ ∃ q, w'' = wr.drewN q) := row_any b g cap W H P k wr (HK.out wr HFr.out).1.1 hlk
        go_wp2_with fail
        refine HR0.out.mono ?_
        rintro e w5 ⟨rfl, q5, rfl⟩
        have HM5 : Hid (MapAt (wr.drewN q5) b2 g2 (H * stride W) W H (mirPart W P k)) := HMr.out.drewN q5
        have HL5 : Hid (LineRow (wr.drewN q5) gl (stride W + 2) l) := HLr.out.kept ((Fr.refl (fun _ => False) _).drewN q5) (fun hh => hh)
        have HF5 : Hid (Fr (fun i => i = g2 ∨ i = gl) w3 (wr.drewN q5)) := HFr.out.drewN q5
        generalize wr.drewN q5 = w5 at *
        have hkS : k * stride W + stride W ≤ H * stride W := by rw [← Nat.succ_mul]; exact Nat.mul_le_mul_right _ hlk
        go_wp2_with fail
        go_loopw [50, 7, 8] (fun i _ _ wi => ∃ (m : Nat) (l : List Nat), m ≤ stride W ∧ i = .int .i64 m ∧ MapAt wi b2 g2 (H * stride W) W H (mirPart W P k) ∧ LineRow wi gl (stride W + 2) l ∧ Hid (∀ j : Nat, l[j]?.getD 0 < 18446744073709551616) ∧ Hid (∀ j, 1 ≤ j → j ≤ stride W → stride W - j < m → l[j]? = some (rev (wd W P k (stride W - j)))) ∧ Fr (fun i => i = g2 ∨ i = gl) w3 wi) (fun i _ _ _ => stride W - (intOf i).toNat)
        case atStart => exact ⟨0, l, Nat.zero_le _, rfl, HM5.out, HL5.out, HLT.out, (fun j _ _ h => by omega), HF5.out⟩
        case round =>
          obtain ⟨m, l', hmm, rfl, hm, hl, hlt, hlj, hfr⟩ := hrel
          have HMi : Hid (MapAt wr b2 g2 (H * stride W) W H (mirPart W P k)) := hm
          have HLi : Hid (LineRow wr gl (stride W + 2) l') := hl
          have HFi : Hid (Fr (fun i => i = g2 ∨ i = gl) w3 wr) := hfr
          have HLTi : Hid (∀ j : Nat, l'[j]?.getD 0 < 18446744073709551616) := hlt.out
          have HLJ : Hid (∀ j, 1 ≤ j → j ≤ stride W → stride W - j < m → l'[j]? = some (rev (wd W P k (stride W - j)))) := hlj.out
          clear hm hl hfr hlt hlj
          by_cases hmt : m < stride W
          · have hcw := (HK.out wr HFi.out).1.1.word (y := k) (j := m) hlk hmt
            obtain ⟨_, ⟨_, e2⟩, _⟩ := HK.out wr HFi.out
            have hwl := wd_lt W P k m
            have hlen := HLi.out.len
            obtain ⟨t, ht⟩ : ∃ t, t = stride W - m := ⟨_, rfl⟩
            have hts : t ≤ stride W ∧ 1 ≤ t := by omega
            obtain ⟨vt, hct⟩ : ∃ vt : Nat, wr.cell? ⟨gl, t, none⟩ = some (.int .u64 (vt : Int)) := by
              rw [World.ownsRow.cellAt HLi.out t (by omega), wordCells_get, List.getElem?_eq_getElem (show t < l'.length by omega)]
              exact ⟨_, rfl⟩
            have hft := World.ownsRow.frozenAt HLi.out t
            have g1 : IntKind.i64.wrap ((stride W : Int) - (m : Int)) = (t : Int) := by rw [IntKind.wrap_i64]; omega
            have g4 : (0 : Int) ≤ (t : Int) := by omega
            have g5 : (t : Int) < (stride W : Int) + 2 := by omega
            have HNX : Hid (∀ j, 1 ≤ j → j ≤ stride W → stride W - j < m + 1 → (l'.set t (rev (wd W P k m)))[j]? = some (rev (wd W P k (stride W - j)))) := fun j h1 h2 h3 => by
              by_cases e : j = t
              · rw [e, List.getElem?_set_self (by omega), ht, show stride W - (stride W - m) = m from by omega]
              · rw [List.getElem?_set_ne (fun h => e h.symm)]; exact HLJ.out j h1 h2 (by omega)
            have HNT : Hid (∀ j : Nat, (l'.set t (rev (wd W P k m)))[j]?.getD 0 < 18446744073709551616) := fun j => by
              by_cases e : t = j
              · rw [← e, List.getElem?_set_self (by omega)]; exact rev_lt _
              · rw [List.getElem?_set_ne e]; exact HLTi.out j
            obtain ⟨n1, n2, n3, n4, n5⟩ := HNN.out
            have HRV : Hid (∀ w', Calls Tryd.prog 45 #[.int .u64 (wd W P k m : Nat)] w' fun e w'' => e = .returned (.int .u64 (rev (wd W P k m) : Nat)) ∧ w'' = w') := fun w' => rev_any _ w' hwl
            generalize rev (wd W P k m) = RV at *
            generalize wd W P k m = X at *
            have HNE : Hid (gl ≠ g2 ∧ gl ≠ b2) := ⟨by omega, by omega⟩
            clear ht n1 n2 n3 n4 n5
            go_wp2_with fail
            go_region_with (first | (go_at_call 45; refine (HRV.out _).mono ?_; rintro e w6 ⟨rfl, rfl⟩))
            all_goals
              go_wp2_with fail
              go_roundw
              case rel =>
                have q := HNE.out
                exact ⟨m + 1, _, by omega, congrArg (Value.int .i64) (by omega), (HMi.out.kept ((Fr.refl (fun i => i = gl) _).setCell (p := ⟨gl, t, none⟩) (fun _ => rfl) _) (by omega) (by omega)).kept ((Fr.refl (fun _ => False) _).drew) (fun x => x) (fun x => x), (HLi.out.put t RV).kept ((Fr.refl (fun _ => False) _).drew) (fun hh => hh), HNT.out, HNX.out, (HFi.out.setCell (fun _ => Or.inr rfl) _).drew⟩
              case measure => simp [intOf]; omega
          · have hmn : m = stride W := by omega
            have HLJ2 : Hid (∀ j, 1 ≤ j → j ≤ stride W → l'[j]? = some (rev (wd W P k (stride W - j)))) := fun j h1 h2 => HLJ.out j h1 h2 (by omega)
            subst hmn
            have HKC : Hid (∀ w', Fr (fun i => i = g2) wr w' → w'.cell? ⟨w2.heap.size, 0, none⟩ = some (.int .i64 fr) ∧ w'.cell? ⟨w2.heap.size, 1, none⟩ = some (.int .i64 0) ∧ w'.cell? ⟨w2.heap.size, 2, none⟩ = some (.int .i64 W)) := fun w' hf => (HK.out w' (HFi.out.trans hf (fun _ _ hh => Or.inl hh))).2.2
            go_wp2_with fail
            go_region_held3 (fun w' => w'.cell? ⟨w2.heap.size, 0, none⟩ = some (.int .i64 fr) ∧ w'.cell? ⟨w2.heap.size, 1, none⟩ = some (.int .i64 0) ∧ w'.cell? ⟨w2.heap.size, 2, none⟩ = some (.int .i64 W)) (first | exact HKC.out _ ((Fr.refl _ _).drew) | exact HKC.out _ ((Fr.refl _ _).drewN _) | exact HKC.out _ (((Fr.refl _ _).drewN _).trans hf7 (fun _ _ hh => hh))) (first | (go_at_call 34; refine (HRW.out k _ (HMi.out.kept ((Fr.refl (fun _ => False) _).drew) (fun x => x) (fun x => x)) hlk).mono ?_; rintro e w6 ⟨rfl, q6, rfl⟩) | (go_at_call 46; refine (HLAY.out k l' _ (HMi.out.drewN _) (HLi.out.kept ((Fr.refl (fun _ => False) _).drewN _) (fun hh => hh)) HLTi.out hlk HLJ2.out).mono ?_; rintro e w7 ⟨rfl, hm7, hf7⟩))
            obtain ⟨n1, n2, n3, n4, n5⟩ := HNN.out
            have HM7 : Hid (MapAt w7 b2 g2 (H * stride W) W H (mirPart W P (k + 1))) := hm7
            have HL7 : Hid (LineRow w7 gl (stride W + 2) l') := (HLi.out.kept ((Fr.refl (fun _ => False) _).drewN _) (fun hh => hh)).kept hf7 (by omega)
            have HF7 : Hid (Fr (fun i => i = g2 ∨ i = gl) w3 w7) := (HFi.out.drewN _).trans hf7 (fun _ _ hh => Or.inl hh)
            clear hm7 hf7 n1 n2 n3 n4 n5
            go_wp2_with fail
            go_roundw
            case rel => exact ⟨k + 1, l', by omega, congrArg (Value.int .i64) (by omega), HM7.out, HL7.out, HLTi.out, HF7.out⟩
            case measure => simp [intOf]; omega
      · have hkn : k = H := by omega
        subst hkn
        go_wp2_with fail
        go_ret
        have q := HNN.out
        refine ⟨b2, g2, rfl, HMr.out.pix (fun x y _ hy => ?_), (HK.out wr HFr.out).1.2, q.1, q.2.1⟩
        unfold mirPart mirPix
        rw [decide_eq_true hy, Bool.true_and]

end Go.Proofs.YtflhbmapikdmhaaDoor
