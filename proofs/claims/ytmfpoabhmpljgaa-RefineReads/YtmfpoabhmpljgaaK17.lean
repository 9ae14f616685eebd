/- Package bitmap: white, New, Plain; slices' Clone and Equal; EqBitmap, whatever it is given. -/
import Derived.Test.YtmfpoabhmpljgaaK4
import Derived.Test.YtmfpoabhmpljgaaK16
import Derived.Test.YtmfpoabhmpljgaaK14
import Derived.Test.YtmfpoabhmpljgaaK3
import Derived.Deep.Cut
import Derived.Deep.CutRange
import Derived.Deep.Light
import Derived.Deep.RegionHeld3
import Derived.Deep.RegionWith
import Derived.Deep.RegionLaw
import Derived.Deep.AppendLies
namespace Go.Proofs.Ytmfpoabhmpljgaa
open Go.RowKit

/-- A map: its block b, the block g of its words, its size, its pixels. -/
structure MapB (w : World) (b g cap W H : Nat) (P : Nat → Nat → Bool) : Prop where
  blk : w.heap[b]? = some (.cells #[.int .i64 W, .int .i64 H, .int .i64 (stride W : Nat), .slice (some ⟨g, 0, none⟩) (H * stride W) cap] 127 (0, 0))
  own : w.ownsRow 0 80 1 (.slice (some ⟨g, 0, none⟩) (H * stride W) cap) (H * stride W) (wordCells (render W H P))
  wpos : 1 ≤ W
  hpos : 1 ≤ H
  area : W * H ≤ 1048576

theorem MapB.lt {w : World} {b g cap W H : Nat} {P : Nat → Nat → Bool} (h : MapB w b g cap W H P) : b < w.heap.size := lt_of_block h.blk
theorem MapB.glt {w : World} {b g cap W H : Nat} {P : Nat → Nat → Bool} (h : MapB w b g cap W H P) : g < w.heap.size := (h.own.lt g rfl).2
theorem MapB.ne {w : World} {b g cap W H : Nat} {P : Nat → Nat → Bool} (h : MapB w b g cap W H P) : g ≠ b := by
  intro e
  subst e
  rcases h.own.2 with ⟨e, _⟩ | ⟨g', cap', cur, e, _, hg, _⟩
  · cases e
  · simp only [Value.slice.injEq, Option.some.injEq, Addr.mk.injEq] at e
    obtain ⟨⟨rfl, _⟩, _⟩ := e
    rw [h.blk] at hg
    simp at hg
theorem MapB.kept {w w' : World} {b g cap W H : Nat} {P : Nat → Nat → Bool} {S : Nat → Prop} (h : MapB w b g cap W H P) (f : Fr S w w') (h1 : ¬ S b) (h2 : ¬ S g) : MapB w' b g cap W H P :=
  ⟨by rw [f.block b h.lt h1]; exact h.blk, row_kept h.own f (fun k hk => by simp [Value.ownBlock] at hk; subst hk; exact h2), h.wpos, h.hpos, h.area⟩
theorem MapB.drewN {w : World} {b g cap W H : Nat} {P : Nat → Nat → Bool} (h : MapB w b g cap W H P) (n : Nat) : MapB (w.drewN n) b g cap W H P :=
  h.kept (S := fun _ => False) ((Fr.refl _ _).drewN n) (fun hh => hh) (fun hh => hh)
theorem MapB.words_le {w : World} {b g cap W H : Nat} {P : Nat → Nat → Bool} (h : MapB w b g cap W H P) : H * stride W ≤ 1048576 := by
  have h1 := h.wpos
  have h2 := h.area
  refine Nat.le_trans (Nat.mul_le_mul_left H (m := W) ?_) (by rw [Nat.mul_comm]; exact h2)
  unfold stride; omega
/-- A map that a call has made: its blocks are new. -/
structure NewB (w w' : World) (b g cap W H : Nat) (P : Nat → Nat → Bool) : Prop where
  at_ : MapB w' b g cap W H P
  fr : Fr (fun _ => False) w w'
  nb : w.heap.size ≤ b
  ng : w.heap.size ≤ g


set_option maxRecDepth 100000 in
set_option maxHeartbeats 1000000 in
theorem white_any (W H : Nat) (w : World) (h1 : 1 ≤ W) (h2 : 1 ≤ H) (h3 : W * H ≤ 1048576) :
    Calls Try.prog 87 #[.int .i64 W, .int .i64 H] w fun e w' => ∃ b g, e = .returned (.pointer (some ⟨b, 0, none⟩)) ∧ NewB w w' b g (H * stride W) W H (fun _ _ => false) := by
  obtain ⟨i0, hi, hz0, hz1, hz2⟩ := info_parts Try.infoUw
  obtain ⟨f1, f2, f3⟩ := size_facts h1 h2 h3
  have HR : Hid (wordCells (render W H (fun _ _ => false)) = List.replicate (H * stride W) (.int .u64 0)) := by show _ = _; rw [render_white, wordCells_replicate]
  have HA : Hid (1 ≤ W ∧ 1 ≤ H ∧ W * H ≤ 1048576) := ⟨h1, h2, h3⟩
  have HN : Hid (∀ w1 w2 : World, (w2.ownsRow 0 80 1 (.slice (some ⟨w.heap.size, 0, none⟩) (H * stride W) (H * stride W)) (H * stride W) (wordCells (render W H (fun _ _ => false)))) → w2.heap[w1.heap.size]? = some (.cells #[.int .i64 W, .int .i64 H, .int .i64 (stride W : Nat), .slice (some ⟨w.heap.size, 0, none⟩) (H * stride W) (H * stride W)] 127 (0, 0)) → MapB w2 w1.heap.size w.heap.size (H * stride W) W H (fun _ _ => false)) := fun w1 w2 a b => ⟨b, a, h1, h2, h3⟩
  clear h3
  go_enter Try.func87, Try.ntmps87
  go_wp2_with fail
  refine (strideOf_any W _ f1).mono ?_
  rintro e w1 ⟨rfl, rfl⟩
  have hm1 : (H : Int) * (stride W : Int) = ((H * stride W : Nat) : Int) := by push_cast; rfl
  generalize hgS : stride W = S at HR HN hm1 f3 ⊢
  generalize hgN : H * S = N at HR HN hm1 f3
  have HSN : Hid (stride W = S ∧ H * S = N) := ⟨hgS, hgN⟩
  clear hgS hgN
  go_wp2_with (first | (at_make; refine wpList_make_full _ rfl _ _ 24 rfl w1.heap.size 80 i0 (.int .u64 0) 1 Try.underlying24 hi hz0 hz1 .i64 .i64 _ _ N rfl rfl ?_ ?_ ?_ ?_ ?_ ?_))
  · omega
  · omega
  · rw [hz2]; omega
  · unfold maxLen; omega
  · omega
  · intro w2 hown hgrow
    have HG : Hid (w1.grownBy w2 none) := hgrow
    have HO : Hid (w2.ownsRow w1.heap.size 80 1 (.slice (some ⟨w1.heap.size, 0, none⟩) N N) N (List.replicate N (.int .u64 0))) := by rw [← toList_madeCells_one]; exact hown
    clear hgrow hown
    go_wp2
    go_ret
    have hsz : w1.heap.size ≤ w2.heap.size := HG.out.size
    refine ⟨w2.heap.size, w1.heap.size, rfl, ?_, ((Fr.refl _ _).grown HG.out (fun _ e _ => by cases e)).alloc _, hsz, Nat.le_refl _⟩
    rw [HSN.out.1, HSN.out.2]
    refine HN.out w2 _ ?_ (heap_alloc_new _ _)
    rw [HR.out]
    exact (ownsRow_base HO.out (fun _ _ => Nat.zero_le _)).alloc _

set_option maxRecDepth 100000 in
set_option maxHeartbeats 1000000 in
theorem new_yes (W H : Nat) (w : World) (h1 : 1 ≤ W) (h2 : 1 ≤ H) (h3 : W * H ≤ 1048576) :
    Calls Try.prog 64 #[.int .i64 W, .int .i64 H] w fun e w' => ∃ b g, e = .returned (.tuple #[.pointer (some ⟨b, 0, none⟩), .int .i64 0]) ∧ NewB w w' b g (H * stride W) W H (fun _ _ => false) := by
  obtain ⟨f1, f2, f3⟩ := size_facts h1 h2 h3
  have hs : sizeOK (W : Int) (H : Int) = true := by
    unfold sizeOK
    refine decide_eq_true ⟨by omega, by omega, ?_⟩
    rw [← Int.natCast_mul]; omega
  have HA : Hid (1 ≤ W ∧ 1 ≤ H ∧ W * H ≤ 1048576) := ⟨h1, h2, h3⟩
  clear h1 h2 h3
  go_enter Try.func64, Try.ntmps64
  go_wp2_with fail
  refine (isSize_any W H _ (by omega) (by omega)).mono ?_
  rintro e w1 ⟨rfl, rfl⟩
  rw [hs]
  go_wp2_with fail
  refine (white_any W H _ HA.out.1 HA.out.2.1 HA.out.2.2).mono ?_
  rintro e w2 ⟨b, g, rfl, hn⟩
  have HN : Hid (NewB w1 w2 b g (H * stride W) W H (fun _ _ => false)) := hn
  clear hn
  go_wp2_with fail
  go_ret2
  exact ⟨b, g, rfl, HN.out⟩

set_option maxRecDepth 100000 in
set_option maxHeartbeats 1000000 in
theorem new_no (x y : Int) (w : World) (hx : -9223372036854775808 ≤ x ∧ x ≤ 9223372036854775807) (hy : -9223372036854775808 ≤ y ∧ y ≤ 9223372036854775807) (hs : sizeOK x y = false) :
    Calls Try.prog 64 #[.int .i64 x, .int .i64 y] w fun e w' => e = .returned (.tuple #[.pointer none, .int .i64 20]) ∧ w' = w := by
  go_enter Try.func64, Try.ntmps64
  go_wp2_with fail
  refine (isSize_any x y _ hx hy).mono ?_
  rintro e w1 ⟨rfl, rfl⟩
  rw [hs]
  go_wp2_with fail
  go_ret2
  exact ⟨rfl, rfl⟩

set_option maxRecDepth 100000 in
set_option maxHeartbeats 1000000 in
theorem cloneW_some (a : Addr) (n cap : Nat) (l : List Nat) (w : World) (hl : l.length = n) (hn : n ≤ 1048576) (hc : ∀ (j : Nat) (u : Value), (wordCells l)[j]? = some u → w.cell? (a.add j) = some u) :
    Calls Try.prog 51 #[.slice (some a) n cap] w fun e w' => ∃ rv, e = .returned rv ∧ w'.ownsRow w.heap.size 80 1 rv n (wordCells l) ∧ Fr (fun _ => False) w w' ∧ rv ≠ .slice none 0 0 := by
  have q24 : ∀ (w : World) (a : Option Addr) (n c n' c' : Nat), (binOp .eql 24 (.slice a n c) (.slice none n' c')).run Try.prog w = .ok (.bool a.isNone) w := fun w a n c n' c' => Lib.run_eql_slice_nil w 24 80 a n c n' c' Try.underlying24
  obtain ⟨i0, hi, hz0, hz1, hz2⟩ := info_parts Try.infoUw
  have HC : Hid (∀ (j : Nat) (u : Value), (wordCells l)[j]? = some u → w.cell? (a.add j) = some u) := hc
  clear hc
  have hown : (w.alloc (.cells #[] 80)).ownsRow w.heap.size 80 1 (.slice (some ⟨w.heap.size, 0, none⟩) 0 0) 0 [] := World.ownsRow_made w #[] 0 (Nat.le_refl _) (by decide) rfl
  go_enter Try.func51, Try.ntmps51
  go_wp2_with (first | (at_builtin; refine wpList_append_own _ rfl _ _ 24 rfl w.heap.size 80 i0 (.int .u64 0) 1 8 Try.underlying24 hi hz0 hz1 hz2 rfl (by decide) _ _ _ rfl hown a n cap (wordCells l) rfl ?c0 ?c1 ?c2 ?c3 ?c4 ?c5 ?_))
  case c0 => rw [length_wordCells]; omega
  case c1 => exact fun j u hu => cell_later ((Below.refl _ _).alloc (Nat.le_refl _) _) (HC.out j u hu)
  case c2 => exact wordCells_one l
  case c3 => unfold maxLen; omega
  case c4 => omega
  case c5 => simp
  intro v' w1 hown' hgrow hnn
  have HO : Hid (w1.ownsRow w.heap.size 80 1 v' n (wordCells l)) := hown'
  have HB : Hid (Below w.heap.size w w1) := ((Below.refl _ _).alloc (Nat.le_refl _) _).grown hgrow (by simp) (fun k hk => by simp [Value.ownBlock] at hk; omega)
  have HV : Hid (v' ≠ .slice none 0 0) := hnn
  clear hown' hgrow hnn hown
  go_wp2
  go_ret
  exact ⟨v', rfl, HO.out, Fr.of_below HB.out _, HV.out⟩

set_option maxRecDepth 100000 in
set_option maxHeartbeats 1000000 in
theorem plain_any (b g cap W H : Nat) (P : Nat → Nat → Bool) (w : World) (h : MapB w b g cap W H P) :
    Calls Try.prog 65 #[.pointer (some ⟨b, 0, none⟩)] w fun e w' => ∃ g2 cap2, e = .returned (.agg #[.int .i64 W, .int .i64 H, .slice (some ⟨g2, 0, none⟩) (H * stride W) cap2]) ∧ w'.ownsRow 0 80 1 (.slice (some ⟨g2, 0, none⟩) (H * stride W) cap2) (H * stride W) (wordCells (render W H P)) ∧ Fr (fun _ => False) w w' ∧ w.heap.size ≤ g2 := by
  have HA : Hid (MapB w b g cap W H P) := h
  have hwl := h.words_le
  have hbl := h.lt
  have HCC : Hid (∀ w', Fr (fun _ => False) w w' → ∀ (j : Nat) (u : Value), (wordCells (render W H P))[j]? = some u → w'.cell? ((⟨g, 0, none⟩ : Addr).add j) = some u) := fun w' hf j u hu => by
    have h1 := (h.kept hf (fun x => x) (fun x => x)).own
    have hj : j < H * stride W := by
      rcases Nat.lt_or_ge j (H * stride W) with h2 | h2
      · exact h2
      · rw [List.getElem?_eq_none (by rw [length_wordCells, length_render]; exact h2)] at hu; cases hu
    rw [show (⟨g, 0, none⟩ : Addr).add j = ⟨g, j, none⟩ from by unfold Addr.add; split <;> simp_all, h1.cellAt j (by omega)]
    exact hu
  have HKX : Hid (∀ w', Fr (fun k => k = w.heap.size) (w.alloc (.cells #[.int .i64 0, .int .i64 0, .slice none 0 0] 26)) w' → w'.cell? ⟨b, 0, none⟩ = some (.int .i64 W) ∧ w'.cell? ⟨b, 1, none⟩ = some (.int .i64 H) ∧ w'.cell? ⟨b, 3, none⟩ = some (.slice (some ⟨g, 0, none⟩) (H * stride W) cap)) := fun w' hf => by
    have hf2 : Fr (fun k => k = w.heap.size) w w' := ((Fr.refl _ w).alloc _).trans hf (fun _ _ hh => hh)
    obtain ⟨c0, c1, c2, c3, cf⟩ := cell_of_four h.blk
    refine ⟨?_, ?_, ?_⟩ <;> rw [hf2.cellEq hbl (by omega)] <;> assumption
  clear h
  have hln : (render W H P).length = H * stride W := length_render W H P
  generalize render W H P = l at *
  generalize H * stride W = N at *
  go_enter Try.func65, Try.ntmps65
  go_wp2_with fail
  go_region_held3 (fun w' => w'.cell? ⟨b, 0, none⟩ = some (.int .i64 W) ∧ w'.cell? ⟨b, 1, none⟩ = some (.int .i64 H) ∧ w'.cell? ⟨b, 3, none⟩ = some (.slice (some ⟨g, 0, none⟩) N cap)) (first | exact HKX.out _ ((Fr.refl _ _).drew) | exact HKX.out _ (((Fr.refl _ _).drew).trans hf4 (fun _ _ hh => hh.elim)) | exact HKX.out _ ((((((Fr.refl (fun k => k = w.heap.size) _).drew).trans hf4 (fun _ _ hh => hh.elim)).setCell (p := ⟨w.heap.size, 0, none⟩) (fun _ => rfl) _).setCell (p := ⟨w.heap.size, 1, none⟩) (fun _ => rfl) _).setCell (p := ⟨w.heap.size, 2, none⟩) (fun _ => rfl) _)) (first | (go_at_call 51; refine (cloneW_some _ _ _ l _ hln hwl ?_).mono ?_; (exact HCC.out _ (((Fr.refl _ _).alloc _).drew)); rintro e w4 ⟨rv, rfl, ho, hf4, hnn⟩; have hbk : w4.heap[w.heap.size]? = some (.cells #[.int .i64 0, .int .i64 0, .slice none 0 0] 26 (0, 0)) := (hf4.block _ (by simp) (fun hh => hh)).trans (heap_alloc_new w _); obtain ⟨z0, z1, z2, zf⟩ := cell_of_three hbk; obtain ⟨g2, cap2, hrv, hg2⟩ := row_out ho hnn; subst hrv))
  have hlt : w.heap.size + 1 ≤ g2 := by simpa using hg2
  have hfz : Fr (fun k => k = w.heap.size) w4 (((w4.setCell ⟨w.heap.size, 0, none⟩ (.int .i64 W)).setCell ⟨w.heap.size, 1, none⟩ (.int .i64 H)).setCell ⟨w.heap.size, 2, none⟩ (.slice (some ⟨g2, 0, none⟩) N cap2)) := (((Fr.refl (fun k => k = w.heap.size) w4).setCell (p := ⟨w.heap.size, 0, none⟩) (fun _ => rfl) _).setCell (p := ⟨w.heap.size, 1, none⟩) (fun _ => rfl) _).setCell (p := ⟨w.heap.size, 2, none⟩) (fun _ => rfl) _
  have HO : Hid ((((w4.setCell ⟨w.heap.size, 0, none⟩ (.int .i64 W)).setCell ⟨w.heap.size, 1, none⟩ (.int .i64 H)).setCell ⟨w.heap.size, 2, none⟩ (.slice (some ⟨g2, 0, none⟩) N cap2)).ownsRow 0 80 1 (.slice (some ⟨g2, 0, none⟩) N cap2) N (wordCells l)) := row_kept (ownsRow_base ho (fun _ _ => Nat.zero_le _)) hfz (fun k hk => by simp [Value.ownBlock] at hk; omega)
  have HFZ : Hid (Fr (fun _ => False) w (((w4.setCell ⟨w.heap.size, 0, none⟩ (.int .i64 W)).setCell ⟨w.heap.size, 1, none⟩ (.int .i64 H)).setCell ⟨w.heap.size, 2, none⟩ (.slice (some ⟨g2, 0, none⟩) N cap2))) := ((((Fr.refl (fun _ => False) w).alloc _).drew).trans hf4 (fun _ _ hh => hh)).trans hfz (fun i hi hh => by omega)
  have hlt2 : w.heap.size ≤ g2 := by omega
  have hb5 : (((w4.setCell ⟨w.heap.size, 0, none⟩ (.int .i64 W)).setCell ⟨w.heap.size, 1, none⟩ (.int .i64 H)).setCell ⟨w.heap.size, 2, none⟩ (.slice (some ⟨g2, 0, none⟩) N cap2)).heap[w.heap.size]? = some (.cells #[.int .i64 W, .int .i64 H, .slice (some ⟨g2, 0, none⟩) N cap2] 26 (0, 0)) := by
    simp [World.setCell, Array.getElem?_modify, hbk]
  clear hfz ho hf4 hg2 hbk hlt z0 z1 z2 zf
  generalize (((w4.setCell ⟨w.heap.size, 0, none⟩ (.int .i64 W)).setCell ⟨w.heap.size, 1, none⟩ (.int .i64 H)).setCell ⟨w.heap.size, 2, none⟩ (.slice (some ⟨g2, 0, none⟩) N cap2)) = w5 at HO HFZ hb5 ⊢
  obtain ⟨y0, y1, y2, yf⟩ := cell_of_three hb5
  clear hb5 yf
  go_wp2_with fail
  (try simp only [Exit.inBlock, Exit.then])
  refine bodyPost_ret (by simp [results, Try.results65, go_sem, y0, y1, y2]; rfl) rfl ?_
  exact ⟨g2, cap2, rfl, HO.out, HFZ.out, hlt2⟩

theorem eqw_any (v u : Value) (la lb : List Nat) (w : World) (ha : Seen w v la) (hb : Seen w u lb) :
    Calls Try.prog 39 #[v, u] w fun e w' => e = .returned (.bool (decide (la = lb))) ∧ Fr (fun _ => False) w w' := by
  by_cases hl : la.length = lb.length
  · refine (eqw_same v u la lb w ha hb hl _ rfl).mono ?_
    rintro e w' ⟨he, q, rfl⟩
    exact ⟨he, (Fr.refl _ _).drewN q⟩
  · refine (eqw_len v u la lb w ha hb hl).mono ?_
    rintro e w' ⟨he, rfl⟩
    refine ⟨?_, Fr.refl _ _⟩
    rw [decide_eq_false (fun h => hl (by rw [h]))]; exact he

def eqB (x y x2 y2 : Int) (la lb : List Nat) : Bool := (x == x2) && ((y == y2) && decide (la = lb))

set_option maxRecDepth 100000 in
set_option maxHeartbeats 2000000 in
theorem eqBitmap_any (x y x2 y2 : Int) (v u : Value) (la lb : List Nat) (w : World) (ha : Seen w v la) (hb : Seen w u lb) :
    Calls Try.prog 21 #[.agg #[.int .i64 x, .int .i64 y, v], .agg #[.int .i64 x2, .int .i64 y2, u]] w fun e w' => e = .returned (.bool (eqB x y x2 y2 la lb)) ∧ Fr (fun _ => False) w w' := by
  have HQ : Hid (∀ w', Fr (fun _ => False) w w' → Calls Try.prog 39 #[v, u] w' fun e w'' => e = .returned (.bool (decide (la = lb))) ∧ Fr (fun _ => False) w' w'') := fun w' hf => eqw_any v u la lb w' (ha.kept hf) (hb.kept hf)
  obtain ⟨ao, ca, rfl, hla, _⟩ := ha
  obtain ⟨bo, cb, rfl, hlb, _⟩ := hb
  unfold eqB
  generalize decide (la = lb) = d at *
  generalize la.length = n at *
  generalize lb.length = m at *
  rcases hxb : (x == x2) with _ | _
  · go_enter Try.func21, Try.ntmps21
    go_wp2_with fail
    go_ret
    exact ⟨rfl, ((Fr.refl _ _).alloc _).alloc _⟩
  · rcases hyb : (y == y2) with _ | _
    · go_enter Try.func21, Try.ntmps21
      go_wp2_with fail
      go_ret
      exact ⟨rfl, ((Fr.refl _ _).alloc _).alloc _⟩
    · go_enter Try.func21, Try.ntmps21
      go_wp2_with fail
      refine (HQ.out _ (((Fr.refl _ _).alloc _).alloc _)).mono ?_
      rintro e w1 ⟨rfl, hf1⟩
      have HF : Hid (Fr (fun _ => False) w w1) := (((Fr.refl _ _).alloc _).alloc _).trans hf1 (fun _ _ hh => hh)
      clear hf1
      go_wp2_with fail
      go_ret
      exact ⟨by cases d <;> rfl, HF.out⟩

end Go.Proofs.Ytmfpoabhmpljgaa

/- A bitmap that may be, as it is handed in; what the law's numbers need. -/
namespace Go.Proofs.Ytmfpoabhmpljgaa
open Go.RowKit

theorem band64 (c k : Nat) (h : c < 9223372036854775808) (hk : k < 63) : bits .and .i64 (c : Int) ((2 ^ k - 1 : Nat) : Int) = ((c % 2 ^ k : Nat) : Int) := by
  have hp : 2 ^ k ≤ 2 ^ 62 := Nat.pow_le_pow_right (by decide) (by omega)
  have e62 : (2 : Nat) ^ 62 = 4611686018427387904 := rfl
  show IntKind.i64.wrap ((BitVec.ofInt 64 (c : Int) &&& BitVec.ofInt 64 ((2 ^ k - 1 : Nat) : Int)).toNat : Int) = _
  rw [BitVec.toNat_and, BitVec.ofInt_natCast, BitVec.ofInt_natCast, BitVec.toNat_ofNat, BitVec.toNat_ofNat, Nat.mod_eq_of_lt (a := c) (by omega), Nat.mod_eq_of_lt (a := 2 ^ k - 1) (by omega), Nat.and_two_pow_sub_one_eq_mod, IntKind.wrap_i64]
  have : c % 2 ^ k < 2 ^ k := Nat.mod_lt _ (Nat.two_pow_pos _)
  omega
theorem bor64_nat (a b : Nat) (ha : a < 4611686018427387904) (hb : b < 4611686018427387904) : bits .or .i64 (a : Int) (b : Int) = ((a ||| b : Nat) : Int) := by
  have hx : a ||| b < 2 ^ 62 := Nat.or_lt_two_pow (by omega) (by omega)
  show IntKind.i64.wrap ((BitVec.ofInt 64 (a : Int) ||| BitVec.ofInt 64 (b : Int)).toNat : Int) = _
  rw [BitVec.toNat_or, BitVec.ofInt_natCast, BitVec.ofInt_natCast, BitVec.toNat_ofNat, BitVec.toNat_ofNat, Nat.mod_eq_of_lt (a := a) (by omega), Nat.mod_eq_of_lt (a := b) (by omega), IntKind.wrap_i64]
  omega
theorem band64_nat (a b : Nat) (ha : a < 4611686018427387904) (hb : b < 4611686018427387904) : bits .and .i64 (a : Int) (b : Int) = ((a &&& b : Nat) : Int) := by
  have hx : a &&& b < 2 ^ 62 := Nat.and_lt_two_pow _ (by omega)
  show IntKind.i64.wrap ((BitVec.ofInt 64 (a : Int) &&& BitVec.ofInt 64 (b : Int)).toNat : Int) = _
  rw [BitVec.toNat_and, BitVec.ofInt_natCast, BitVec.ofInt_natCast, BitVec.toNat_ofNat, BitVec.toNat_ofNat, Nat.mod_eq_of_lt (a := a) (by omega), Nat.mod_eq_of_lt (a := b) (by omega), IntKind.wrap_i64]
  omega
/-- Digits laid behind a number. -/
theorem bor64 (a k b : Nat) (ha : a * 2 ^ k < 4611686018427387904) (hb : b < 2 ^ k) (hk : k < 62) : bits .or .i64 ((a * 2 ^ k : Nat) : Int) (b : Int) = ((a * 2 ^ k + b : Nat) : Int) := by
  have hp : 2 ^ k ≤ 2 ^ 61 := Nat.pow_le_pow_right (by decide) (by omega)
  have e61 : (2 : Nat) ^ 61 = 2305843009213693952 := rfl
  rw [bor64_nat _ _ ha (by omega), Nat.mul_comm a, Nat.two_pow_add_eq_or_of_lt hb]
theorem bor64_one (a b : Nat) (ha : a < 2305843009213693952) (hb : b ≤ 1) : bits .or .i64 ((a : Int) * 2) (b : Int) = ((2 * a + b : Nat) : Int) := by
  have := bor64 a 1 b (by omega) (by omega) (by omega)
  rw [show ((a * 2 ^ 1 : Nat) : Int) = (a : Int) * 2 by omega] at this
  rw [this]; omega

theorem render_lt' (W H : Nat) (P : Nat → Nat → Bool) (j : Nat) : (render W H P)[j]?.getD 0 < 18446744073709551616 := by
  by_cases h : j < H * stride W
  · rw [render_get' P h]; exact wd_lt _ _ _ _
  · rw [List.getElem?_eq_none (by rw [length_render]; omega)]; simp
theorem render_rowOK (W H : Nat) (P : Nat → Nat → Bool) (hW : 1 ≤ W) (j : Nat) (hj : j < H) : rowOK W (render W H P) j := by
  have hS : 0 < stride W := by unfold stride; omega
  unfold rowOK
  have e : (j + 1) * stride W - 1 = j * stride W + (stride W - 1) := by rw [Nat.add_mul, Nat.one_mul]; omega
  rw [e, render_get P hj (by omega), Option.getD_some]
  apply Nat.eq_of_testBit_eq
  intro i
  rw [Nat.testBit_mod_two_pow, Nat.zero_testBit]
  have hs : W ≤ 64 * stride W ∧ 64 * stride W < W + 64 := by unfold stride; omega
  by_cases hi : i < 64 * stride W - W
  · have h63 : i = 63 - (63 - i) := by omega
    unfold wd
    rw [h63, bit_wordOf _ _ (by omega), decide_eq_false (show ¬ (64 * (stride W - 1) + (63 - i) < W) by omega)]
    simp
  · rw [decide_eq_false hi]; rfl
theorem render_valid (W H : Nat) (Q : Nat → Nat → Bool) (h1 : 1 ≤ W) (h2 : 1 ≤ H) (h3 : W * H ≤ 1048576) : validB (W : Int) (H : Int) (render W H Q) = true := by
  have hs : sizeOK (W : Int) (H : Int) = true := by
    unfold sizeOK
    refine decide_eq_true ⟨by omega, by omega, ?_⟩
    rw [← Int.natCast_mul]; omega
  rw [validB_nat W H _ hs, decide_eq_true (length_render W H Q), Bool.true_and]
  exact decide_eq_true (fun j hj => render_rowOK W H Q h1 j hj)

/-- A slice's capacity covers its length. -/
def CapOK (v : Value) : Prop := ∀ ao n c, v = .slice ao n c → n ≤ c ∧ c ≤ maxLen

/-- A bitmap that may be, in memory. -/
structure Bm (w : World) (v : Value) (W H : Nat) (P : Nat → Nat → Bool) : Prop where
  seen : Seen w v (render W H P)
  cap : CapOK v
  h1 : 1 ≤ W
  h2 : 1 ≤ H
  h3 : W * H ≤ 1048576
theorem Bm.kept {w w' : World} {v : Value} {W H : Nat} {P : Nat → Nat → Bool} (h : Bm w v W H P) (f : Fr (fun _ => False) w w') : Bm w' v W H P := ⟨h.seen.kept f, h.cap, h.h1, h.h2, h.h3⟩
theorem Bm.check {w : World} {v : Value} {W H : Nat} {P : Nat → Nat → Bool} (h : Bm w v W H P) : Calls Try.prog 47 #[.agg #[.int .i64 W, .int .i64 H, v]] w fun e w' => e = .returned (.bool true) ∧ Fr (fun _ => False) w w' := by
  obtain ⟨f1, f2, f3⟩ := size_facts h.h1 h.h2 h.h3
  have := check_any W H v _ w (by omega) (by omega) h.seen (render_lt' W H P)
  rwa [render_valid W H P h.h1 h.h2 h.h3] at this

end Go.Proofs.Ytmfpoabhmpljgaa

/- 'CopyBitmap' of a bitmap that may be. -/
namespace Go.Proofs.Ytmfpoabhmpljgaa
open Go.RowKit

theorem set3_cells {w : World} {o : Nat} {x y z : Value} {t : TypeId} (h : w.heap[o]? = some (.cells #[x, y, z] t (0, 0))) (a b c : Value) : (((w.setCell ⟨o, 0, none⟩ a).setCell ⟨o, 1, none⟩ b).setCell ⟨o, 2, none⟩ c).heap[o]? = some (.cells #[a, b, c] t (0, 0)) := by
  simp [World.setCell, Array.getElem?_modify, h]

theorem blkUp {w : World} {o : Nat} {B : Obj} (h : w.heap[o]? = some B) (x : Obj) : (w.alloc x).heap[o]? = some B := by rw [Below.heap_alloc _ _ _ (lt_of_block h)]; exact h
theorem blkSame {w : World} {o : Nat} {u : Value} (h : w.heap[o]? = some (.cells #[.int .i64 0] 3 (0, 0))) : (w.setCell ⟨o, 0, none⟩ u).heap[o]? = some (.cells #[u] 3 (0, 0)) := one_setCell h
theorem blkOther {w : World} {o k : Nat} {B : Obj} (hk : o ≠ k) (h : w.heap[o]? = some B) (u : Value) : (w.setCell ⟨k, 0, none⟩ u).heap[o]? = some B := by rw [heap_setCell_other _ _ _ _ hk]; exact h
theorem frSet {w w' : World} {k : Nat} (h : w.heap.size ≤ k) (f : Fr (fun _ => False) w w') (u : Value) : Fr (fun _ => False) w (w'.setCell ⟨k, 0, none⟩ u) := Fr.setCell f (fun hh => absurd hh (Nat.not_lt.2 h)) u
theorem blkDrew {w : World} {o : Nat} {B : Obj} (h : w.heap[o]? = some B) : w.drew.heap[o]? = some B := h
theorem blkOld {w w' : World} {o : Nat} {B : Obj} (f : Fr (fun _ => False) w w') (h : w.heap[o]? = some B) : w'.heap[o]? = some B := by rw [f.block o (lt_of_block h) (fun hh => hh)]; exact h
theorem Fr.cells {a b : World} (h : Fr (fun _ => False) a b) : ∀ (o k : Nat), o < a.heap.size → b.cell? ⟨o, k, none⟩ = a.cell? ⟨o, k, none⟩ := fun _ _ ho => h.cellEq ho (fun hh => hh)
theorem Fr.frozens {a b : World} (h : Fr (fun _ => False) a b) : ∀ (o k : Nat), o < a.heap.size → b.frozen? ⟨o, k, none⟩ = a.frozen? ⟨o, k, none⟩ := fun o k ho => by
  unfold World.frozen?
  rw [h.block o ho (fun hh => hh)]

end Go.Proofs.Ytmfpoabhmpljgaa
