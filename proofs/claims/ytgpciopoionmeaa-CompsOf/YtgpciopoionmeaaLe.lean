/- 'LendBitmap' and 'BackBitmap'. -/
import Derived.Test.YtgpciopoionmeaaCp
import Derived.BigRegion
namespace Go.Proofs.Ytgpciopoionmeaa
open Go.RowKit

def marks (l : List Nat) (k : Nat) : List Nat := l ++ List.replicate k 42405
theorem marks_zero (l : List Nat) : marks l 0 = l := by simp [marks]
theorem marks_succ (l : List Nat) (k : Nat) : marks l (k + 1) = marks l k ++ [42405] := by unfold marks; rw [List.replicate_succ', List.append_assoc]
theorem length_marks (l : List Nat) (k : Nat) : (marks l k).length = l.length + k := by simp [marks]
theorem marks_get (l : List Nat) (k : Nat) (h : k < 7) : (marks l 7)[l.length + k]? = some 42405 := by
  unfold marks
  rw [List.getElem?_append_right (by omega), show l.length + k - l.length = k from by omega, List.getElem?_replicate, if_pos h]
theorem marks_front (l : List Nat) : (marks l 7).take l.length = l := by
  unfold marks
  rw [List.take_left]
theorem row_shrink {w : World} {b e g n k cap : Nat} {xs : List Value} (h : w.ownsRow b e 1 (.slice (some ⟨g, 0, none⟩) n cap) n xs) (hk : k ≤ n) : w.ownsRow b e 1 (.slice (some ⟨g, 0, none⟩) k cap) k (xs.take k) := by
  obtain ⟨h1, h2⟩ := h
  refine ⟨by rw [List.length_take]; omega, ?_⟩
  rcases h2 with ⟨e, _⟩ | ⟨g', cap', cur, hv, hb, hg, hc, hm, hs, ht⟩
  · cases e
  · simp only [Value.slice.injEq, Option.some.injEq, Addr.mk.injEq, true_and, and_true] at hv
    obtain ⟨rfl, rfl⟩ := hv
    refine Or.inr ⟨g, cap, cur, rfl, hb, hg, by omega, hm, hs, ?_⟩
    rw [← ht, List.take_take]
    congr 1; omega

/-- Nil is nothing. -/
def NilOK (v : Value) : Prop := ∀ n c, v = .slice none n c → n = 0 ∧ c = 0

/-- Words that are lent, with marks behind them. -/
def Lent (w : World) (g : Nat) (l : List Nat) : Prop := w.ownsRow 0 62 1 (.slice (some ⟨g, 0, none⟩) (l.length + 7) (l.length + 7)) (l.length + 7) (wordCells (marks l 7))
theorem Lent.kept {S : Nat → Prop} {w w' : World} {g : Nat} {l : List Nat} (h : Lent w g l) (f : Fr S w w') (h1 : ¬ S g) : Lent w' g l :=
  row_kept h f (fun k hk => by simp [Value.ownBlock] at hk; subst hk; exact h1)
theorem Lent.lt {w : World} {g : Nat} {l : List Nat} (h : Lent w g l) : g < w.heap.size := (World.ownsRow.lt h g rfl).2
theorem Lent.seen {w : World} {g : Nat} {l : List Nat} (h : Lent w g l) (hl : l.length ≤ 1048576) : Seen w (.slice (some ⟨g, 0, none⟩) l.length (l.length + 7)) l := by
  have h1 := row_shrink (k := l.length) h (by omega)
  rw [wordCells_take, marks_front] at h1
  exact Seen.of_row h1 (by omega)

set_option maxRecDepth 100000 in
set_option maxHeartbeats 2000000 in
theorem eqBitmap_int (W H : Int) (v u : Value) (l : List Nat) (w : World) (ha : Seen w v l) (hb : Seen w u l) :
    Calls Try.prog 20 #[.agg #[.int .i64 W, .int .i64 H, v], .agg #[.int .i64 W, .int .i64 H, u]] w fun e w' => e = .returned (.bool true) ∧ Fr (fun _ => False) w w' := by
  have HQ : Hid (∀ w', Fr (fun _ => False) w w' → Calls Try.prog 43 #[v, u] w' fun e w'' => e = .returned (.bool true) ∧ ∃ q, w'' = w'.drewN q) := fun w' hf => eqw_same v u l l w' (ha.kept hf) (hb.kept hf) rfl true (by show true = _; simp)
  obtain ⟨ao, ca, rfl, hla, _⟩ := ha
  obtain ⟨bo, cb, rfl, hlb, _⟩ := hb
  have hw1 : (W == W) = true := by simp
  have hw2 : (H == H) = true := by simp
  go_enter Try.func20, Try.ntmps20
  go_wp2_with fail
  refine (HQ.out _ (((Fr.refl _ _).alloc _).alloc _)).mono ?_
  rintro e w1 ⟨rfl, q, hw1⟩
  have HF : Hid (Fr (fun _ => False) w w1) := by rw [hw1]; exact (((Fr.refl _ _).alloc _).alloc _).drewN q
  clear hw1
  go_wp2_with fail
  go_ret
  exact ⟨rfl, HF.out⟩

set_option maxRecDepth 100000 in
set_option maxHeartbeats 8000000 in
theorem lendB_any (x y : Int) (v : Value) (l : List Nat) (w : World) (hv : Seen w v l) (hnil : NilOK v) (hl : l.length ≤ 1000) :
    Calls Try.prog 10 #[.agg #[.int .i64 x, .int .i64 y, v]] w fun e w' => ∃ g, e = .returned (.agg #[.int .i64 x, .int .i64 y, .slice (some ⟨g, 0, none⟩) l.length (l.length + 7)]) ∧ Lent w' g l ∧ w.heap.size ≤ g ∧ Fr (fun _ => False) w w' := by
  obtain ⟨i0, hi, hz0, hz1, hz2⟩ := info_parts Try.infoUw
  have HSeen : Hid (∀ w', Fr (fun _ => False) w w' → Seen w' v l) := fun w' hf => hv.kept hf
  obtain ⟨ao, cap, rfl, _, _⟩ := hv
  have HNO : Hid (ao = none → l.length = 0 ∧ cap = 0) := fun e => hnil _ _ (by rw [e])
  have HLE : Hid (∀ (u : World) (g n : Nat), n = l.length → u.ownsRow 0 62 1 (.slice (some ⟨g, 0, none⟩) (n + 7) (n + 7)) (n + 7) (wordCells (marks l 7)) → Lent u g l) := fun u g n e h => by subst e; exact h
  obtain ⟨n, hn⟩ : ∃ n, n = l.length := ⟨_, rfl⟩
  rw [← hn] at hl HNO ⊢
  have HN : Hid (n = l.length) := hn
  have HA : Hid (Fr (fun _ => False) w ((w.alloc (.cells #[.int .i64 x, .int .i64 y, .slice ao n cap] 25)).alloc (.cells #[.int .i64 0, .int .i64 0, .slice none 0 0] 25))) := ((Fr.refl _ _).alloc _).alloc _
  have HSeen2 : Hid (∀ w', Fr (fun _ => False) w w' → Seen w' (.slice ao n cap) l) := by rw [hn]; exact HSeen.out
  clear hn hnil HSeen
  have HB1 : Hid (∀ w', Fr (fun _ => False) ((w.alloc (.cells #[.int .i64 x, .int .i64 y, .slice ao n cap] 25)).alloc (.cells #[.int .i64 0, .int .i64 0, .slice none 0 0] 25)) w' → w'.heap[w.heap.size]? = some (.cells #[.int .i64 x, .int .i64 y, .slice ao n cap] 25 (0, 0)) ∧ w'.heap[w.heap.size + 1]? = some (.cells #[.int .i64 0, .int .i64 0, .slice none 0 0] 25 (0, 0))) := fun w' hf =>
    ⟨blkOld hf (blkUp (heap_alloc_new _ _) _), blkOld hf (by have := heap_alloc_new (w.alloc (.cells #[.int .i64 x, .int .i64 y, .slice ao n cap] 25)) (.cells #[.int .i64 0, .int .i64 0, .slice none 0 0] 25); rwa [World.size_alloc] at this)⟩
  have hw7 : IntKind.i64.wrap ((n : Int) + 7) = ((n + 7 : Nat) : Int) := by rw [IntKind.wrap_i64]; omega
  go_enter Try.func10, Try.ntmps10
  go_upto_region 1 with (fail)
  generalize hw0 : (w.alloc (.cells #[.int .i64 x, .int .i64 y, .slice ao n cap] 25)).alloc (.cells #[.int .i64 0, .int .i64 0, .slice none 0 0] 25) = w0 at *
  have HSZ : Hid (w0.heap.size = w.heap.size + 2) := by show _ = _; rw [← hw0]; simp
  clear hw0
  obtain ⟨kb1, _⟩ := HB1.out w0 (Fr.refl _ _)
  obtain ⟨c0, c1, c2, _⟩ := cell_of_three kb1
  clear kb1
  obtain ⟨B, hB⟩ : ∃ B, B = w0.heap.size := ⟨_, rfl⟩
  go_wp2_with (first | (at_make; refine wpList_make_own _ rfl _ _ 23 rfl B 62 i0 (.int .u64 0) 1 Try.underlying23 hi hz0 hz1 .i64 .i64 _ (n + 7) rfl rfl ?_ ?_ ?_ ?_ ?_))
  · omega
  · rw [hz2]; omega
  · unfold maxLen; omega
  · omega
  · intro w1 hown1 hgrow1
    have HF1 : Hid (Fr (fun _ => False) w0 w1) := (Fr.refl _ _).grown hgrow1 (fun k hk _ => by cases hk)
    rw [← hB] at hown1 ⊢
    have HBE : Hid (B = w0.heap.size) := hB
    have HS1 : Hid (Seen w1 (.slice ao n cap) l) := HSeen2.out _ (HA.out.trans HF1.out (fun _ _ h => h))
    obtain ⟨kb1, _⟩ := HB1.out w1 HF1.out
    clear c0 c1 c2
    obtain ⟨c0, c1, c2, _⟩ := cell_of_three kb1
    clear hgrow1 hB kb1
    go_wp2_with (first | (at_builtin; refine wpList_append_fits_any _ rfl _ _ 23 rfl B 62 i0 1 Try.underlying23 hi hz1 B 0 (n + 7) [] rfl hown1 ao n cap (wordCells l) rfl ?_ ?_ ?_ ?_ ?_ ?_))
    · rw [length_wordCells, ← HN.out]; omega
    · intro e
      exact HNO.out e
    · intro ad e j u hu
      have hne : l ≠ [] := by intro e2; rw [e2] at hu; simp [wordCells] at hu
      obtain ⟨ao', cap', e4, _, hcc⟩ := HS1.out
      obtain ⟨b, off, e3, hc⟩ := hcc hne
      simp only [Value.slice.injEq] at e4
      rw [e4.1, e3] at e
      simp only [Option.some.injEq] at e
      subst e
      rw [wordCells_get] at hu
      have hj : j < l.length := by
        rcases Nat.lt_or_ge j l.length with h | h
        · exact h
        · rw [List.getElem?_eq_none h] at hu; simp at hu
      rw [List.getElem?_eq_getElem hj] at hu
      simp at hu
      subst hu
      rw [show (⟨b, off, none⟩ : Addr).add j = ⟨b, off + j, none⟩ from by unfold Addr.add; split <;> simp_all]
      have h1 := hc j hj
      rw [List.getElem?_eq_getElem hj] at h1
      exact h1
    · exact wordCells_one l
    · omega
    · intro w2 hown2 hgrow2
      have HF2 : Hid (Fr (fun _ => False) w0 w2) := HF1.out.grown hgrow2 (fun k hk hlt => by simp at hk; have := HBE.out; omega)
      have HO2 : Hid (w2.ownsRow B 62 1 (.slice (some ⟨B, 0, none⟩) (n + 0) (n + 7)) (n + 0) (wordCells (marks l 0))) := by
        rw [marks_zero]
        exact hown2
      clear hown1 hown2 hgrow2 c0 c1 c2
      go_wp2_with fail
      go_loopw [3, 4] (fun x i wr => ∃ k : Nat, k ≤ 7 ∧ i = .int .i64 k ∧ x = .slice (some ⟨B, 0, none⟩) (n + k) (n + 7) ∧ wr.ownsRow B 62 1 (.slice (some ⟨B, 0, none⟩) (n + k) (n + 7)) (n + k) (wordCells (marks l k)) ∧ Fr (fun _ => False) w0 wr) (fun _ i _ => 7 - (intOf i).toNat)
      case atStart => exact ⟨0, by omega, rfl, by simp, HO2.out, HF2.out⟩
      case round =>
        obtain ⟨k, hk, rfl, rfl, hown, hfr⟩ := hrel
        have HO : Hid (wr.ownsRow B 62 1 (.slice (some ⟨B, 0, none⟩) (n + k) (n + 7)) (n + k) (wordCells (marks l k))) := hown
        have HF3 : Hid (Fr (fun _ => False) w0 wr) := hfr
        have hs : B ≤ wr.heap.size := by have := hfr.size; have := HBE.out; omega
        clear hfr
        by_cases hlt : k < 7
        · go_wp2_with (first | (at_builtin; refine wpList_append_fits _ rfl _ _ 23 rfl B 62 i0 1 Try.underlying23 hi hz1 B (n + k) (n + 7) (wordCells (marks l k)) rfl (hown.alloc _) ⟨wr.heap.size, 0, none⟩ 1 1 _ rfl rfl (cell_one_new _ _ _) ?_ ?_ ?_))
          · intro u hu; simp at hu; subst hu; rfl
          · omega
          · intro w3 hown3 hgrow3
            have HO3 : Hid (w3.ownsRow B 62 1 (.slice (some ⟨B, 0, none⟩) (n + (k + 1)) (n + 7)) (n + (k + 1)) (wordCells (marks l (k + 1)))) := by
              rw [marks_succ, wordCells_append, show n + (k + 1) = n + k + 1 from by omega]; exact hown3
            have HF4 : Hid (Fr (fun _ => False) w0 w3) := (HF3.out.alloc _).grown hgrow3 (fun k hk hlt => by simp at hk; have := HBE.out; omega)
            clear hown3 hgrow3 hown
            go_wp2_with fail
            go_roundw
            case rel => exact ⟨k + 1, by omega, congrArg (Value.int .i64) (by omega), by rw [show n + (k + 1) = n + k + 1 from by omega], HO3.out, HF4.out⟩
            case measure => simp [intOf]; omega
        · have hk7 : k = 7 := by omega
          subst hk7
          clear hown
          obtain ⟨kb1, kb2⟩ := HB1.out wr HF3.out
          obtain ⟨c0, c1, c2, _⟩ := cell_of_three kb1
          obtain ⟨d0, d1, d2, df⟩ := cell_of_three kb2
          have z0 := df 0
          have z1 := df 1
          have z2 := df 2
          have HKB : Hid (wr.heap[w.heap.size + 1]? = some (.cells #[.int .i64 0, .int .i64 0, .slice none 0 0] 25 (0, 0))) := kb2
          clear kb1 kb2 df
          have hn0 : (0 : Int) ≤ (n : Int) := by omega
          have hn7 : (n : Int) ≤ ((n + 7 : Nat) : Int) := by omega
          go_wp2_with fail
          go_region
          all_goals
            go_wp2_with fail
            have hb5 := set3_cells HKB.out (.int .i64 x) (.int .i64 y) (.slice (some ⟨B, 0, none⟩) n (n + 7))
            have hfz : Fr (fun k => k = w.heap.size + 1) wr (((wr.setCell ⟨w.heap.size + 1, 0, none⟩ (.int .i64 x)).setCell ⟨w.heap.size + 1, 1, none⟩ (.int .i64 y)).setCell ⟨w.heap.size + 1, 2, none⟩ (.slice (some ⟨B, 0, none⟩) n (n + 7))) := (((Fr.refl (fun k => k = w.heap.size + 1) wr).setCell (p := ⟨w.heap.size + 1, 0, none⟩) (fun _ => rfl) _).setCell (p := ⟨w.heap.size + 1, 1, none⟩) (fun _ => rfl) _).setCell (p := ⟨w.heap.size + 1, 2, none⟩) (fun _ => rfl) _
            have hsz := HSZ.out
            have hbe := HBE.out
            have HR : Hid (Lent (((wr.setCell ⟨w.heap.size + 1, 0, none⟩ (.int .i64 x)).setCell ⟨w.heap.size + 1, 1, none⟩ (.int .i64 y)).setCell ⟨w.heap.size + 1, 2, none⟩ (.slice (some ⟨B, 0, none⟩) n (n + 7))) B l) := HLE.out _ _ n HN.out (row_kept (ownsRow_base HO.out (fun _ _ => Nat.zero_le _)) hfz (fun k hk => by simp [Value.ownBlock] at hk; omega))
            have HF : Hid (Fr (fun _ => False) w (((wr.setCell ⟨w.heap.size + 1, 0, none⟩ (.int .i64 x)).setCell ⟨w.heap.size + 1, 1, none⟩ (.int .i64 y)).setCell ⟨w.heap.size + 1, 2, none⟩ (.slice (some ⟨B, 0, none⟩) n (n + 7)))) := (HA.out.trans HF3.out (fun _ _ h => h)).trans hfz (fun i hi e => by omega)
            generalize (((wr.setCell ⟨w.heap.size + 1, 0, none⟩ (.int .i64 x)).setCell ⟨w.heap.size + 1, 1, none⟩ (.int .i64 y)).setCell ⟨w.heap.size + 1, 2, none⟩ (.slice (some ⟨B, 0, none⟩) n (n + 7))) = w5 at *
            obtain ⟨m0, m1, m2, _⟩ := cell_of_three hb5
            refine bodyPost_ret (v := .agg #[.int .i64 x, .int .i64 y, (.slice (some ⟨B, 0, none⟩) n (n + 7))]) (by simp [results, Try.results10, go_sem, m0, m1, m2]) rfl ?_
            exact ⟨B, rfl, HR.out.kept (Fr.refl (fun _ => False) _).drew (fun h => h), by omega, HF.out.drew⟩

set_option maxRecDepth 100000 in
set_option maxHeartbeats 8000000 in
theorem backB_any (x y : Int) (g : Nat) (u : Value) (l : List Nat) (w : World) (hl : l.length ≤ 1000) (hr : Lent w g l) (hu : Seen w u l) :
    Calls Try.prog 12 #[.agg #[.int .i64 x, .int .i64 y, .slice (some ⟨g, 0, none⟩) l.length (l.length + 7)], .agg #[.int .i64 x, .int .i64 y, u]] w fun e w' => e = .returned (.bool true) ∧ Fr (fun k => k = g) w w' := by
  have HE : Hid (∀ w', Fr (fun _ => False) w w' → Calls Try.prog 20 #[.agg #[.int .i64 x, .int .i64 y, .slice (some ⟨g, 0, none⟩) l.length (l.length + 7)], .agg #[.int .i64 x, .int .i64 y, u]] w' fun e w'' => e = .returned (.bool true) ∧ Fr (fun _ => False) w' w'') := fun w' hf => eqBitmap_int x y _ _ l w' ((hr.kept hf (fun h => h)).seen (by omega)) (hu.kept hf)
  have HG : Hid (g < w.heap.size) := hr.lt
  have HR0 : Hid (∀ n, n = l.length → ∀ w', Fr (fun _ => False) w w' → w'.ownsRow 0 62 1 (.slice (some ⟨g, 0, none⟩) (n + 7) (n + 7)) (n + 7) (wordCells (marks l 7))) := fun n e w' hf => by subst e; exact hr.kept hf (fun h => h)
  obtain ⟨uo, ucap, rfl, _, _⟩ := hu
  clear hr
  obtain ⟨n, hn⟩ : ∃ n, n = l.length := ⟨_, rfl⟩
  rw [← hn] at hl HE ⊢
  have HN : Hid (n = l.length) := hn
  clear hn
  have HA : Hid (Fr (fun _ => False) w ((w.alloc (.cells #[.int .i64 x, .int .i64 y, .slice (some ⟨g, 0, none⟩) n (n + 7)] 25)).alloc (.cells #[.int .i64 x, .int .i64 y, .slice uo n ucap] 25))) := ((Fr.refl _ _).alloc _).alloc _
  have HB : Hid (∀ w', Fr (fun _ => False) ((w.alloc (.cells #[.int .i64 x, .int .i64 y, .slice (some ⟨g, 0, none⟩) n (n + 7)] 25)).alloc (.cells #[.int .i64 x, .int .i64 y, .slice uo n ucap] 25)) w' → w'.cell? ⟨w.heap.size, 2, none⟩ = some (.slice (some ⟨g, 0, none⟩) n (n + 7)) ∧ w'.cell? ⟨w.heap.size + 1, 2, none⟩ = some (.slice uo n ucap)) := fun w' hf => by
    obtain ⟨_, _, a2, _⟩ := cell_of_three (blkOld hf (blkUp (heap_alloc_new w (.cells #[.int .i64 x, .int .i64 y, .slice (some ⟨g, 0, none⟩) n (n + 7)] 25)) _))
    obtain ⟨_, _, b2, _⟩ := cell_of_three (blkOld hf (by have := heap_alloc_new (w.alloc (.cells #[.int .i64 x, .int .i64 y, .slice (some ⟨g, 0, none⟩) n (n + 7)] 25)) (.cells #[.int .i64 x, .int .i64 y, .slice uo n ucap] 25); rwa [World.size_alloc] at this))
    exact ⟨a2, b2⟩
  have hw7 : IntKind.i64.wrap ((n : Int) + 7) = (n : Int) + 7 := by rw [IntKind.wrap_i64]; omega
  go_enter Try.func12, Try.ntmps12
  go_wp2_with fail
  refine (HE.out _ HA.out).mono ?_
  rintro e w1 ⟨rfl, hf1⟩
  have HR1 : Hid (w1.ownsRow 0 62 1 (.slice (some ⟨g, 0, none⟩) (n + 7) (n + 7)) (n + 7) (wordCells (marks l 7))) := HR0.out n HN.out _ (HA.out.trans hf1 (fun _ _ h => h))
  have HF1 : Hid (Fr (fun k => k = g) w w1) := (HA.out.trans hf1 (fun _ _ h => h)).mono (fun _ _ h => h.elim)
  obtain ⟨c2, d2⟩ := HB.out _ hf1
  clear hf1 HE HR0
  go_wp2_with fail
  go_loop [5, 7] (fun ok i => ∃ k : Nat, k ≤ 7 ∧ ok = .bool true ∧ i = .int .i64 ((n : Int) + (k : Int))) (fun _ i => n + 7 - (intOf i).toNat)
  case atStart => exact ⟨0, by omega, rfl, by simp⟩
  case round =>
    obtain ⟨k, hk, rfl, rfl⟩ := hrel
    by_cases hlt : k < 7
    · have hcx : w1.cell? ⟨g, n + k, none⟩ = some (.int .u64 42405) := by
        rw [HR1.out.cellAt (n + k) (by omega), wordCells_get, HN.out, marks_get l k hlt]; rfl
      go_wp2_with fail
      go_round
      case rel => exact ⟨k + 1, by omega, rfl, congrArg (Value.int .i64) (by omega)⟩
      case measure => simp [intOf]; omega
    · have hk7 : k = 7 := by omega
      subst hk7
      go_wp2_with fail
      go_loopw [8] (fun i wr => ∃ (k : Nat) (ys : List Value), k ≤ n + 7 ∧ i = .int .i64 k ∧ wr.ownsRow 0 62 1 (.slice (some ⟨g, 0, none⟩) (n + 7) (n + 7)) (n + 7) ys ∧ Fr (fun k => k = g) w wr) (fun i _ => n + 7 - (intOf i).toNat)
      case atStart => exact ⟨0, _, Nat.zero_le _, rfl, HR1.out, HF1.out⟩
      case round =>
        obtain ⟨k, ys, hk, rfl, hown, hfr⟩ := hrel
        have HO2 : Hid (wr.ownsRow 0 62 1 (.slice (some ⟨g, 0, none⟩) (n + 7) (n + 7)) (n + 7) ys) := hown
        have HF2 : Hid (Fr (fun k => k = g) w wr) := hfr
        by_cases hlt : k < n + 7
        · have hcx : ∃ x, wr.cell? ⟨g, k, none⟩ = some x := by
            rw [hown.cellAt k (by omega)]
            have hl := hown.1
            exact ⟨_, List.getElem?_eq_getElem (by omega)⟩
          obtain ⟨x, hcx⟩ := hcx
          have hfx := hown.frozenAt k
          clear hown hfr
          go_wp2_with fail
          go_roundw
          case rel => exact ⟨k + 1, _, by omega, congrArg (Value.int .i64) (by omega), (HO2.out.stored k _).1, HF2.out.setCell (p := ⟨g, k, none⟩) (fun _ => rfl) _⟩
          case measure => simp [intOf]; omega
        · clear hown hfr
          go_wp2_with fail
          go_ret
          exact ⟨rfl, HF2.out⟩

end Go.Proofs.Ytgpciopoionmeaa
