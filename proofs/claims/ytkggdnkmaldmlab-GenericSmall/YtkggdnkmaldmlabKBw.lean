/- Package bitmap: white, New, Plain; slices' Clone and Equal; EqBitmap, whatever it is given. -/
import Derived.Test.YtkggdnkmaldmlabK3
import Derived.Test.YtkggdnkmaldmlabKMay
import Derived.Test.YtkggdnkmaldmlabKGet
namespace Go.Proofs.Ytkggdnkmaldmlab
open Go.RowKit

/-- A map: its block b, the block g of its words, its size, its pixels. -/
structure MapB (w : World) (b g cap W H : Nat) (P : Nat → Nat → Bool) : Prop where
  blk : w.heap[b]? = some (.cells #[.int .i64 W, .int .i64 H, .int .i64 (stride W : Nat), .slice (some ⟨g, 0, none⟩) (H * stride W) cap] 91 (0, 0))
  own : w.ownsRow 0 67 1 (.slice (some ⟨g, 0, none⟩) (H * stride W) cap) (H * stride W) (wordCells (render W H P))
  wpos : 1 ≤ W
  hpos : 1 ≤ H
  area : W * H ≤ 1048576

theorem MapB.lt {w : World} {b g cap W H : Nat} {P : Nat → Nat → Bool} (h : MapB w b g cap W H P) : b < w.heap.size := lt_of_block h.blk
theorem MapB.glt {w : World} {b g cap W H : Nat} {P : Nat → Nat → Bool} (h : MapB w b g cap W H P) : g < w.heap.size := (h.own.lt g rfl).2
theorem MapB.ne {w : World} {b g cap W H : Nat} {P : Nat → Nat → Bool} (h : MapB w b g cap W H P) : g ≠ b := by
  intro e
  subst e
  rcases h.own.2 with ⟨e, _⟩ | ⟨g', cap', cur, e, _, hg, _⟩
  · cases e
  · simp only [Value.slice.injEq, Option.some.injEq, Addr.mk.injEq] at e
    obtain ⟨⟨rfl, _⟩, _⟩ := e
    rw [h.blk] at hg
    simp at hg
theorem MapB.kept {w w' : World} {b g cap W H : Nat} {P : Nat → Nat → Bool} {S : Nat → Prop} (h : MapB w b g cap W H P) (f : Fr S w w') (h1 : ¬ S b) (h2 : ¬ S g) : MapB w' b g cap W H P :=
  ⟨by rw [f.block b h.lt h1]; exact h.blk, row_kept h.own f (fun k hk => by simp [Value.ownBlock] at hk; subst hk; exact h2), h.wpos, h.hpos, h.area⟩
theorem MapB.drewN {w : World} {b g cap W H : Nat} {P : Nat → Nat → Bool} (h : MapB w b g cap W H P) (n : Nat) : MapB (w.drewN n) b g cap W H P :=
  h.kept (S := fun _ => False) ((Fr.refl _ _).drewN n) (fun hh => hh) (fun hh => hh)
theorem MapB.words_le {w : World} {b g cap W H : Nat} {P : Nat → Nat → Bool} (h : MapB w b g cap W H P) : H * stride W ≤ 1048576 := by
  have h1 := h.wpos
  have h2 := h.area
  refine Nat.le_trans (Nat.mul_le_mul_left H (m := W) ?_) (by rw [Nat.mul_comm]; exact h2)
  unfold stride; omega
/-- A map that a call has made: its blocks are new. -/
structure NewB (w w' : World) (b g cap W H : Nat) (P : Nat → Nat → Bool) : Prop where
  at_ : MapB w' b g cap W H P
  fr : Fr (fun _ => False) w w'
  nb : w.heap.size ≤ b
  ng : w.heap.size ≤ g


set_option maxRecDepth 100000 in
set_option maxHeartbeats 1000000 in
theorem white_any (W H : Nat) (w : World) (h1 : 1 ≤ W) (h2 : 1 ≤ H) (h3 : W * H ≤ 1048576) :
    Calls Try.prog 46 #[.int .i64 W, .int .i64 H] w fun e w' => ∃ b g, e = .returned (.pointer (some ⟨b, 0, none⟩)) ∧ NewB w w' b g (H * stride W) W H (fun _ _ => false) := by
  obtain ⟨i0, hi, hz0, hz1, hz2⟩ := info_parts Try.info98
  obtain ⟨f1, f2, f3⟩ := size_facts h1 h2 h3
  have HR : Hid (wordCells (render W H (fun _ _ => false)) = List.replicate (H * stride W) (.int .u64 0)) := by show _ = _; rw [render_white, wordCells_replicate]
  have HA : Hid (1 ≤ W ∧ 1 ≤ H ∧ W * H ≤ 1048576) := ⟨h1, h2, h3⟩
  have HN : Hid (∀ w1 w2 : World, (w2.ownsRow 0 67 1 (.slice (some ⟨w.heap.size, 0, none⟩) (H * stride W) (H * stride W)) (H * stride W) (wordCells (render W H (fun _ _ => false)))) → w2.heap[w1.heap.size]? = some (.cells #[.int .i64 W, .int .i64 H, .int .i64 (stride W : Nat), .slice (some ⟨w.heap.size, 0, none⟩) (H * stride W) (H * stride W)] 91 (0, 0)) → MapB w2 w1.heap.size w.heap.size (H * stride W) W H (fun _ _ => false)) := fun w1 w2 a b => ⟨b, a, h1, h2, h3⟩
  clear h3
  go_enter Try.func46, Try.ntmps46
  go_wp2_with fail
  refine (strideOf_any W _ f1).mono ?_
  rintro e w1 ⟨rfl, rfl⟩
  have hm1 : (H : Int) * (stride W : Int) = ((H * stride W : Nat) : Int) := by push_cast; rfl
  generalize hgS : stride W = S at HR HN hm1 f3 ⊢
  generalize hgN : H * S = N at HR HN hm1 f3
  have HSN : Hid (stride W = S ∧ H * S = N) := ⟨hgS, hgN⟩
  clear hgS hgN
  go_wp2_with (first | (at_make; refine wpList_make_full _ rfl _ _ 22 rfl w1.heap.size 67 i0 (.int .u64 0) 1 Try.underlying22 hi hz0 hz1 .i64 .i64 _ _ N rfl rfl ?_ ?_ ?_ ?_ ?_ ?_))
  · omega
  · omega
  · rw [hz2]; omega
  · unfold maxLen; omega
  · omega
  · intro w2 hown hgrow
    have HG : Hid (w1.grownBy w2 none) := hgrow
    have HO : Hid (w2.ownsRow w1.heap.size 67 1 (.slice (some ⟨w1.heap.size, 0, none⟩) N N) N (List.replicate N (.int .u64 0))) := by rw [← toList_madeCells_one]; exact hown
    clear hgrow hown
    go_wp2
    go_ret
    have hsz : w1.heap.size ≤ w2.heap.size := HG.out.size
    refine ⟨w2.heap.size, w1.heap.size, rfl, ?_, ((Fr.refl _ _).grown HG.out (fun _ e _ => by cases e)).alloc _, hsz, Nat.le_refl _⟩
    rw [HSN.out.1, HSN.out.2]
    refine HN.out w2 _ ?_ (heap_alloc_new _ _)
    rw [HR.out]
    exact (ownsRow_base HO.out (fun _ _ => Nat.zero_le _)).alloc _

set_option maxRecDepth 100000 in
set_option maxHeartbeats 1000000 in
theorem new_yes (W H : Nat) (w : World) (h1 : 1 ≤ W) (h2 : 1 ≤ H) (h3 : W * H ≤ 1048576) :
    Calls Try.prog 28 #[.int .i64 W, .int .i64 H] w fun e w' => ∃ b g, e = .returned (.tuple #[.pointer (some ⟨b, 0, none⟩), .int .i64 0]) ∧ NewB w w' b g (H * stride W) W H (fun _ _ => false) := by
  obtain ⟨f1, f2, f3⟩ := size_facts h1 h2 h3
  have hs : sizeOK (W : Int) (H : Int) = true := by
    unfold sizeOK
    refine decide_eq_true ⟨by omega, by omega, ?_⟩
    rw [← Int.natCast_mul]; omega
  have HA : Hid (1 ≤ W ∧ 1 ≤ H ∧ W * H ≤ 1048576) := ⟨h1, h2, h3⟩
  clear h1 h2 h3
  go_enter Try.func28, Try.ntmps28
  go_wp2_with fail
  refine (isSize_any W H _ (by omega) (by omega)).mono ?_
  rintro e w1 ⟨rfl, rfl⟩
  rw [hs]
  go_wp2_with fail
  refine (white_any W H _ HA.out.1 HA.out.2.1 HA.out.2.2).mono ?_
  rintro e w2 ⟨b, g, rfl, hn⟩
  have HN : Hid (NewB w1 w2 b g (H * stride W) W H (fun _ _ => false)) := hn
  clear hn
  go_wp2_with fail
  go_ret2
  exact ⟨b, g, rfl, HN.out⟩

set_option maxRecDepth 100000 in
set_option maxHeartbeats 1000000 in
theorem new_no (x y : Int) (w : World) (hx : -9223372036854775808 ≤ x ∧ x ≤ 9223372036854775807) (hy : -9223372036854775808 ≤ y ∧ y ≤ 9223372036854775807) (hs : sizeOK x y = false) :
    Calls Try.prog 28 #[.int .i64 x, .int .i64 y] w fun e w' => e = .returned (.tuple #[.pointer none, .int .i64 20]) ∧ w' = w := by
  go_enter Try.func28, Try.ntmps28
  go_wp2_with fail
  refine (isSize_any x y _ hx hy).mono ?_
  rintro e w1 ⟨rfl, rfl⟩
  rw [hs]
  go_wp2_with fail
  go_ret2
  exact ⟨rfl, rfl⟩

set_option maxRecDepth 100000 in
set_option maxHeartbeats 1000000 in
theorem cloneW_some (a : Addr) (n cap : Nat) (l : List Nat) (w : World) (hl : l.length = n) (hn : n ≤ 1048576) (hc : ∀ (j : Nat) (u : Value), (wordCells l)[j]? = some u → w.cell? (a.add j) = some u) :
    Calls Try.prog 26 #[.slice (some a) n cap] w fun e w' => ∃ rv, e = .returned rv ∧ w'.ownsRow w.heap.size 67 1 rv n (wordCells l) ∧ Fr (fun _ => False) w w' ∧ rv ≠ .slice none 0 0 := by
  have q24 : ∀ (w : World) (a : Option Addr) (n c n' c' : Nat), (binOp .eql 22 (.slice a n c) (.slice none n' c')).run Try.prog w = .ok (.bool a.isNone) w := fun w a n c n' c' => Lib.run_eql_slice_nil w 22 67 a n c n' c' Try.underlying22
  obtain ⟨i0, hi, hz0, hz1, hz2⟩ := info_parts Try.info98
  have HC : Hid (∀ (j : Nat) (u : Value), (wordCells l)[j]? = some u → w.cell? (a.add j) = some u) := hc
  clear hc
  have hown : (w.alloc (.cells #[] 67)).ownsRow w.heap.size 67 1 (.slice (some ⟨w.heap.size, 0, none⟩) 0 0) 0 [] := World.ownsRow_made w #[] 0 (Nat.le_refl _) (by decide) rfl
  go_enter Try.func26, Try.ntmps26
  go_wp2_with (first | (at_builtin; refine wpList_append_own _ rfl _ _ 22 rfl w.heap.size 67 i0 (.int .u64 0) 1 8 Try.underlying22 hi hz0 hz1 hz2 rfl (by decide) _ _ _ rfl hown a n cap (wordCells l) rfl ?c0 ?c1 ?c2 ?c3 ?c4 ?c5 ?_))
  case c0 => rw [length_wordCells]; omega
  case c1 => exact fun j u hu => cell_later ((Below.refl _ _).alloc (Nat.le_refl _) _) (HC.out j u hu)
  case c2 => exact wordCells_one l
  case c3 => unfold maxLen; omega
  case c4 => omega
  case c5 => simp
  intro v' w1 hown' hgrow hnn
  have HO : Hid (w1.ownsRow w.heap.size 67 1 v' n (wordCells l)) := hown'
  have HB : Hid (Below w.heap.size w w1) := ((Below.refl _ _).alloc (Nat.le_refl _) _).grown hgrow (by simp) (fun k hk => by simp [Value.ownBlock] at hk; omega)
  have HV : Hid (v' ≠ .slice none 0 0) := hnn
  clear hown' hgrow hnn hown
  go_wp2
  go_ret
  exact ⟨v', rfl, HO.out, Fr.of_below HB.out _, HV.out⟩

set_option maxRecDepth 100000 in
set_option maxHeartbeats 1000000 in
theorem plain_any (b g cap W H : Nat) (P : Nat → Nat → Bool) (w : World) (h : MapB w b g cap W H P) :
    Calls Try.prog 29 #[.pointer (some ⟨b, 0, none⟩)] w fun e w' => ∃ g2 cap2, e = .returned (.agg #[.int .i64 W, .int .i64 H, .slice (some ⟨g2, 0, none⟩) (H * stride W) cap2]) ∧ w'.ownsRow 0 67 1 (.slice (some ⟨g2, 0, none⟩) (H * stride W) cap2) (H * stride W) (wordCells (render W H P)) ∧ Fr (fun _ => False) w w' ∧ w.heap.size ≤ g2 := by
  have HA : Hid (MapB w b g cap W H P) := h
  have hwl := h.words_le
  have hbl := h.lt
  have HCC : Hid (∀ w', Fr (fun _ => False) w w' → ∀ (j : Nat) (u : Value), (wordCells (render W H P))[j]? = some u → w'.cell? ((⟨g, 0, none⟩ : Addr).add j) = some u) := fun w' hf j u hu => by
    have h1 := (h.kept hf (fun x => x) (fun x => x)).own
    have hj : j < H * stride W := by
      rcases Nat.lt_or_ge j (H * stride W) with h2 | h2
      · exact h2
      · rw [List.getElem?_eq_none (by rw [length_wordCells, length_render]; exact h2)] at hu; cases hu
    rw [show (⟨g, 0, none⟩ : Addr).add j = ⟨g, j, none⟩ from by unfold Addr.add; split <;> simp_all, h1.cellAt j (by omega)]
    exact hu
  have HKX : Hid (∀ w', Fr (fun k => k = w.heap.size) (w.alloc (.cells #[.int .i64 0, .int .i64 0, .slice none 0 0] 24)) w' → w'.cell? ⟨b, 0, none⟩ = some (.int .i64 W) ∧ w'.cell? ⟨b, 1, none⟩ = some (.int .i64 H) ∧ w'.cell? ⟨b, 3, none⟩ = some (.slice (some ⟨g, 0, none⟩) (H * stride W) cap)) := fun w' hf => by
    have hf2 : Fr (fun k => k = w.heap.size) w w' := ((Fr.refl _ w).alloc _).trans hf (fun _ _ hh => hh)
    obtain ⟨c0, c1, c2, c3, cf⟩ := cell_of_four h.blk
    refine ⟨?_, ?_, ?_⟩ <;> rw [hf2.cellEq hbl (by omega)] <;> assumption
  clear h
  have hln : (render W H P).length = H * stride W := length_render W H P
  generalize render W H P = l at *
  generalize H * stride W = N at *
  go_enter Try.func29, Try.ntmps29
  go_wp2_with fail
  go_region_held3 (fun w' => w'.cell? ⟨b, 0, none⟩ = some (.int .i64 W) ∧ w'.cell? ⟨b, 1, none⟩ = some (.int .i64 H) ∧ w'.cell? ⟨b, 3, none⟩ = some (.slice (some ⟨g, 0, none⟩) N cap)) (first | exact HKX.out _ ((Fr.refl _ _).drew) | exact HKX.out _ (((Fr.refl _ _).drew).trans hf4 (fun _ _ hh => hh.elim)) | exact HKX.out _ ((((((Fr.refl (fun k => k = w.heap.size) _).drew).trans hf4 (fun _ _ hh => hh.elim)).setCell (p := ⟨w.heap.size, 0, none⟩) (fun _ => rfl) _).setCell (p := ⟨w.heap.size, 1, none⟩) (fun _ => rfl) _).setCell (p := ⟨w.heap.size, 2, none⟩) (fun _ => rfl) _)) (first | (go_at_call 26; refine (cloneW_some _ _ _ l _ hln hwl ?_).mono ?_; (exact HCC.out _ (((Fr.refl _ _).alloc _).drew)); rintro e w4 ⟨rv, rfl, ho, hf4, hnn⟩; have hbk : w4.heap[w.heap.size]? = some (.cells #[.int .i64 0, .int .i64 0, .slice none 0 0] 24 (0, 0)) := (hf4.block _ (by simp) (fun hh => hh)).trans (heap_alloc_new w _); obtain ⟨z0, z1, z2, zf⟩ := cell_of_three hbk; obtain ⟨g2, cap2, hrv, hg2⟩ := row_out ho hnn; subst hrv))
  have hlt : w.heap.size + 1 ≤ g2 := by simpa using hg2
  have hfz : Fr (fun k => k = w.heap.size) w4 (((w4.setCell ⟨w.heap.size, 0, none⟩ (.int .i64 W)).setCell ⟨w.heap.size, 1, none⟩ (.int .i64 H)).setCell ⟨w.heap.size, 2, none⟩ (.slice (some ⟨g2, 0, none⟩) N cap2)) := (((Fr.refl (fun k => k = w.heap.size) w4).setCell (p := ⟨w.heap.size, 0, none⟩) (fun _ => rfl) _).setCell (p := ⟨w.heap.size, 1, none⟩) (fun _ => rfl) _).setCell (p := ⟨w.heap.size, 2, none⟩) (fun _ => rfl) _
  have HO : Hid ((((w4.setCell ⟨w.heap.size, 0, none⟩ (.int .i64 W)).setCell ⟨w.heap.size, 1, none⟩ (.int .i64 H)).setCell ⟨w.heap.size, 2, none⟩ (.slice (some ⟨g2, 0, none⟩) N cap2)).ownsRow 0 67 1 (.slice (some ⟨g2, 0, none⟩) N cap2) N (wordCells l)) := row_kept (ownsRow_base ho (fun _ _ => Nat.zero_le _)) hfz (fun k hk => by simp [Value.ownBlock] at hk; omega)
  have HFZ : Hid (Fr (fun _ => False) w (((w4.setCell ⟨w.heap.size, 0, none⟩ (.int .i64 W)).setCell ⟨w.heap.size, 1, none⟩ (.int .i64 H)).setCell ⟨w.heap.size, 2, none⟩ (.slice (some ⟨g2, 0, none⟩) N cap2))) := ((((Fr.refl (fun _ => False) w).alloc _).drew).trans hf4 (fun _ _ hh => hh)).trans hfz (fun i hi hh => by omega)
  have hlt2 : w.heap.size ≤ g2 := by omega
  have hb5 : (((w4.setCell ⟨w.heap.size, 0, none⟩ (.int .i64 W)).setCell ⟨w.heap.size, 1, none⟩ (.int .i64 H)).setCell ⟨w.heap.size, 2, none⟩ (.slice (some ⟨g2, 0, none⟩) N cap2)).heap[w.heap.size]? = some (.cells #[.int .i64 W, .int .i64 H, .slice (some ⟨g2, 0, none⟩) N cap2] 24 (0, 0)) := by
    simp [World.setCell, Array.getElem?_modify, hbk]
  clear hfz ho hf4 hg2 hbk hlt z0 z1 z2 zf
  generalize (((w4.setCell ⟨w.heap.size, 0, none⟩ (.int .i64 W)).setCell ⟨w.heap.size, 1, none⟩ (.int .i64 H)).setCell ⟨w.heap.size, 2, none⟩ (.slice (some ⟨g2, 0, none⟩) N cap2)) = w5 at HO HFZ hb5 ⊢
  obtain ⟨y0, y1, y2, yf⟩ := cell_of_three hb5
  clear hb5 yf
  go_wp2_with fail
  (try simp only [Exit.inBlock, Exit.then])
  refine bodyPost_ret (by simp [results, Try.results29, go_sem, y0, y1, y2]; rfl) rfl ?_
  exact ⟨g2, cap2, rfl, HO.out, HFZ.out, hlt2⟩

set_option maxRecDepth 100000 in
set_option maxHeartbeats 1000000 in
theorem eqs_len (v u : Value) (la lb : List Nat) (w : World) (ha : Seen w v la) (hb : Seen w u lb) (hl : la.length ≠ lb.length) :
    Calls Try.prog 52 #[v, u] w fun e w' => e = .returned (.bool false) ∧ w' = w := by
  obtain ⟨ao, ca, rfl, hla, _⟩ := ha
  obtain ⟨bo, cb, rfl, hlb, _⟩ := hb
  have ht : ((la.length : Int) != (lb.length : Int)) = true := by rw [bne_iff_ne]; omega
  go_enter Try.func52, Try.ntmps52
  go_wp2
  go_ret
  exact ⟨rfl, rfl⟩

set_option maxRecDepth 100000 in
set_option maxHeartbeats 1000000 in
theorem eqs_same (v u : Value) (la lb : List Nat) (w : World) (ha : Seen w v la) (hb : Seen w u lb) (hl : la.length = lb.length) (bb : Bool) (hbb : Hid (bb = decide (la = lb))) :
    Calls Try.prog 52 #[v, u] w fun e w' => e = .returned (.bool bb) ∧ ∃ q, w' = w.drewN q := by
  obtain ⟨ao, ca, rfl, hla, hca⟩ := ha
  obtain ⟨bo, cb, rfl, hlb, hcb⟩ := hb
  have HA : Hid (la ≠ [] → ∃ b off, ao = some ⟨b, off, none⟩ ∧ ∀ j, j < la.length → w.cell? ⟨b, off + j, none⟩ = some (.int .u64 (la[j]?.getD 0 : Nat))) := hca
  have HB : Hid (lb ≠ [] → ∃ b off, bo = some ⟨b, off, none⟩ ∧ ∀ j, j < lb.length → w.cell? ⟨b, off + j, none⟩ = some (.int .u64 (lb[j]?.getD 0 : Nat))) := hcb
  have HL : Hid (la.length = lb.length) := hl
  clear hca hcb hl hlb
  rw [← HL.out]
  obtain ⟨n, hn⟩ : ∃ n, n = la.length := ⟨_, rfl⟩
  rw [← hn] at hla ⊢
  have Hn : Hid (n = la.length) := hn
  clear hn
  have ht : ((n : Int) != (n : Int)) = false := by simp
  by_cases h0 : n = 0
  · have hbt : bb = true := by
      rw [hbb.out]
      have e1 : la = [] := List.eq_nil_of_length_eq_zero (by have := Hn.out; omega)
      have e2 : lb = [] := List.eq_nil_of_length_eq_zero (by have := Hn.out; have := HL.out; omega)
      simp [e1, e2]
    subst hbt; subst h0
    go_enter Try.func52, Try.ntmps52
    go_wp2
    refine wp_loop_rounds 1 ?_
    rw [rounds_succ]
    go_wp2
    go_ret
    exact ⟨rfl, 0, rfl⟩
  · obtain ⟨b, off, rfl, hca⟩ := HA.out (fun e => h0 (by have := Hn.out; rw [e] at this; simpa using this))
    obtain ⟨b2, off2, rfl, hcb⟩ := HB.out (fun e => h0 (by have := Hn.out; have h2 := HL.out; rw [e] at h2; simp at h2; rw [h2] at this; simpa using this))
    have KA : Hid (∀ j, j < n → w.cell? ⟨b, off + j, none⟩ = some (.int .u64 (la[j]?.getD 0 : Nat))) := fun j hj => hca j (by have := Hn.out; omega)
    have KB : Hid (∀ j, j < n → w.cell? ⟨b2, off2 + j, none⟩ = some (.int .u64 (lb[j]?.getD 0 : Nat))) := fun j hj => hcb j (by have := Hn.out; have := HL.out; omega)
    clear hca hcb HA HB
    go_enter Try.func52, Try.ntmps52
    go_wp2
    go_loopw [13] (fun i wr => ∃ (k q : Nat), k ≤ n ∧ i = .int .i64 k ∧ wr = w.drewN q ∧ Hid (la.take k = lb.take k)) (fun i _ => n - (intOf i).toNat)
    case atStart => exact ⟨0, 0, Nat.zero_le _, rfl, rfl, rfl⟩
    case round =>
      obtain ⟨k, q, hk, rfl, rfl, HT⟩ := hrel
      by_cases hlt : k < n
      · have c1 := KA.out k hlt
        have c2 := KB.out k hlt
        have HE : Hid (la[k]?.getD 0 = lb[k]?.getD 0 → la.take (k + 1) = lb.take (k + 1)) := fun he => take_succ_eq HT.out (by have := Hn.out; omega) (by have := Hn.out; have := HL.out; omega) he
        have HD : Hid (la[k]?.getD 0 ≠ lb[k]?.getD 0 → bb = false) := fun he => by
          rw [hbb.out]; simp; intro e; exact he (by rw [e])
        generalize la[k]?.getD 0 = x at *
        generalize lb[k]?.getD 0 = y at *
        by_cases hxy : x = y
        · subst hxy
          have HE2 : Hid (la.take (k + 1) = lb.take (k + 1)) := HE.out rfl
          clear HE HD
          have hne : ((x : Int) != (x : Int)) = false := by simp
          go_wp2
          go_quiet (fail)
          go_wp2
          go_roundw
          case rel => exact ⟨k + 1, _, by omega, congrArg (Value.int .i64) (by omega), rfl, HE2⟩
          case measure => simp [intOf]; omega
        · have hne : ((x : Int) != (y : Int)) = true := by rw [bne_iff_ne]; omega
          have hbf := HD.out hxy
          subst hbf
          clear HE HD
          go_wp2
          go_quiet (fail)
          go_wp2
          go_ret
          exact ⟨rfl, q + nq, World.drewN_drewN _ _ _⟩
      · have hkn : k = n := by omega
        have hbt : bb = true := by
          rw [hbb.out]
          have h1 := HT.out
          rw [List.take_of_length_le (by have := Hn.out; omega), List.take_of_length_le (by have := Hn.out; have := HL.out; omega)] at h1
          simp [h1]
        subst hbt; subst hkn
        go_wp2
        go_ret
        exact ⟨rfl, q, rfl⟩

theorem eqs_any (v u : Value) (la lb : List Nat) (w : World) (ha : Seen w v la) (hb : Seen w u lb) :
    Calls Try.prog 52 #[v, u] w fun e w' => e = .returned (.bool (decide (la = lb))) ∧ Fr (fun _ => False) w w' := by
  by_cases hl : la.length = lb.length
  · refine (eqs_same v u la lb w ha hb hl _ rfl).mono ?_
    rintro e w' ⟨he, q, rfl⟩
    exact ⟨he, (Fr.refl _ _).drewN q⟩
  · refine (eqs_len v u la lb w ha hb hl).mono ?_
    rintro e w' ⟨he, rfl⟩
    refine ⟨?_, Fr.refl _ _⟩
    rw [decide_eq_false (fun h => hl (by rw [h]))]; exact he
theorem eqw_any (v u : Value) (la lb : List Nat) (w : World) (ha : Seen w v la) (hb : Seen w u lb) :
    Calls Try.prog 48 #[v, u] w fun e w' => e = .returned (.bool (decide (la = lb))) ∧ Fr (fun _ => False) w w' := by
  by_cases hl : la.length = lb.length
  · refine (eqw_same v u la lb w ha hb hl _ rfl).mono ?_
    rintro e w' ⟨he, q, rfl⟩
    exact ⟨he, (Fr.refl _ _).drewN q⟩
  · refine (eqw_len v u la lb w ha hb hl).mono ?_
    rintro e w' ⟨he, rfl⟩
    refine ⟨?_, Fr.refl _ _⟩
    rw [decide_eq_false (fun h => hl (by rw [h]))]; exact he

def eqB (x y x2 y2 : Int) (la lb : List Nat) : Bool := (x == x2) && ((y == y2) && decide (la = lb))

set_option maxRecDepth 100000 in
set_option maxHeartbeats 2000000 in
theorem eqBitmap_any (x y x2 y2 : Int) (v u : Value) (la lb : List Nat) (w : World) (ha : Seen w v la) (hb : Seen w u lb) :
    Calls Try.prog 35 #[.agg #[.int .i64 x, .int .i64 y, v], .agg #[.int .i64 x2, .int .i64 y2, u]] w fun e w' => e = .returned (.bool (eqB x y x2 y2 la lb)) ∧ Fr (fun _ => False) w w' := by
  have HQ : Hid (∀ w', Fr (fun _ => False) w w' → Calls Try.prog 48 #[v, u] w' fun e w'' => e = .returned (.bool (decide (la = lb))) ∧ Fr (fun _ => False) w' w'') := fun w' hf => eqw_any v u la lb w' (ha.kept hf) (hb.kept hf)
  obtain ⟨ao, ca, rfl, hla, _⟩ := ha
  obtain ⟨bo, cb, rfl, hlb, _⟩ := hb
  unfold eqB
  generalize decide (la = lb) = d at *
  generalize la.length = n at *
  generalize lb.length = m at *
  rcases hxb : (x == x2) with _ | _
  · go_enter Try.func35, Try.ntmps35
    go_wp2_with fail
    go_ret
    exact ⟨rfl, ((Fr.refl _ _).alloc _).alloc _⟩
  · rcases hyb : (y == y2) with _ | _
    · go_enter Try.func35, Try.ntmps35
      go_wp2_with fail
      go_ret
      exact ⟨rfl, ((Fr.refl _ _).alloc _).alloc _⟩
    · go_enter Try.func35, Try.ntmps35
      go_wp2_with fail
      refine (HQ.out _ (((Fr.refl _ _).alloc _).alloc _)).mono ?_
      rintro e w1 ⟨rfl, hf1⟩
      have HF : Hid (Fr (fun _ => False) w w1) := (((Fr.refl _ _).alloc _).alloc _).trans hf1 (fun _ _ hh => hh)
      clear hf1
      go_wp2_with fail
      go_ret
      exact ⟨by cases d <;> rfl, HF.out⟩

end Go.Proofs.Ytkggdnkmaldmlab
