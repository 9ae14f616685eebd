/- 'begin': a new class. -/
import Derived.Test.YtodgdbbhllejkaaKCm
import Derived.Deep.AppendLies
import Derived.Deep.RegionHeldLaw
import Derived.Deep.Cut
import Derived.Deep.CutRange
namespace Go.Proofs.Ytodgdbbhllejkaa
open Go.RowKit Go.Maps

variable {w w' : World} {base bc bm t m : Nat} {A : Nat → Bp} {R : List Nat} {rv : Value} {U : Nat → Value} {D : DataW Value} {V : Nat → Nat → Value}

theorem one_later {W W' : World} {v : Value} (f : Fr (fun _ => False) (W.alloc (.cells #[v] 3)) W') : ∀ (j : Nat) (u : Value), [v][j]? = some u → W'.cell? ((⟨W.heap.size, 0, none⟩ : Addr).add j) = some u := fun j u h => by
  match j, h with
  | 0, h =>
    simp at h
    subst h
    have hb := blkOld f (heap_alloc_new W (.cells #[v] 3))
    show W'.cell? ⟨W.heap.size, 0 + 0, none⟩ = some v
    unfold World.cell?
    simp only [hb]
    rfl
  | j + 1, h => simp at h

set_option linter.unusedSimpArgs false in
set_option maxRecDepth 100000 in
set_option maxHeartbeats 4000000 in
theorem begin_ok (i x y : Nat) (vb : Value) (l : List Nat) (w : World) (h : Cl w base bc bm t A R rv U m D V) (hR : R.length < 4096) (hx : x ≤ 1048576) (hy : y ≤ 1048576) (hl : 0 < l.length) (hl2 : l.length ≤ 1048576) (sb : Seen w vb l)
    (hAx : (A i).x = x) (hAy : (A i).y = y) (hAl : (A i).l = l) (hb0 : base ≤ w.heap.size) (hm : m ≤ 4096) :
    Calls Try.prog 50 #[.pointer (some ⟨bc, 0, none⟩), .agg #[.int .i64 (x : Int), .int .i64 (y : Int), vb]] w fun e w' => ∃ rv' U' D' V', e = .returned (.tuple #[.int .i64 (R.length : Int), .int .i64 0]) ∧ Cl w' base bc bm t A (R ++ [i]) rv' U' (m + 1) D' V' ∧ Fr (fun k => k = bc ∨ k = bm ∨ base ≤ k) w w' := by
  obtain ⟨i0, hi, hz0, hz1, hz2⟩ := info_parts Try.infoBm
  obtain ⟨j0, hj, hy0, hy1, hy2⟩ := info_parts Try.infoInt
  have HCL : Hid (∀ w', Fr (fun _ => False) w w' → Cl w' base bc bm t A R rv U m D V) := fun w' f => h.kept f (fun h => h) (fun h => h) (fun _ _ h => h)
  obtain ⟨ar, cr, hrv⟩ := own_slice h.r.reps
  subst hrv
  have hbc : bc < w.heap.size := lt_of_block h.r.blk
  have hbm : bm < w.heap.size := h.m.map.lt
  have HRB : Hid (∀ k, (Value.slice ar R.length cr).ownBlock = some k → base ≤ k ∧ k < w.heap.size) := fun k hk => h.r.reps.lt k hk
  have HVB : Hid (∀ k, (V x y).ownBlock = some k → base ≤ k ∧ k < w.heap.size) := fun k hk => (h.m.row x y).lt k hk
  have HN1 : Hid ((Value.slice ar R.length cr).ownBlock ≠ some bm ∧ bc ≠ bm ∧ (∀ a b k, (V a b).ownBlock = some k → (Value.slice ar R.length cr).ownBlock ≠ some k ∧ k ≠ bc)) := by
    obtain ⟨es, cl, hb, _⟩ := h.m.map
    refine ⟨row_not_map h.r.reps hb, fun e => ?_, fun a b k hk => ⟨fun e => ?_, fun e => ?_⟩⟩
    · subst e; rw [h.r.blk] at hb; simp at hb
    · rcases own_ne2 (h.m.row a b) h.r.reps (by decide) with h' | h'
      · rw [h'] at hk; cases hk
      · exact h' (hk.trans e.symm)
    · subst e; exact row_not_cells (h.m.row a b) h.r.blk (by decide) hk
  obtain ⟨ao, cap, rfl, -, hcc⟩ := sb
  obtain ⟨b0, off, rfl, hcell⟩ := hcc (by intro e; rw [e] at hl; simp at hl)
  have HCLN : Hid (∀ w', Fr (fun _ => False) w w' → Calls Try.prog 58 #[.slice (some ⟨b0, off, none⟩) l.length cap] w' fun e w'' => ∃ rv, e = .returned rv ∧ w''.ownsRow w'.heap.size 23 1 rv l.length (wordCells l) ∧ Fr (fun _ => False) w' w'' ∧ rv ≠ .slice none 0 0) := fun w' f => clone_some ⟨b0, off, none⟩ l.length cap l w' rfl hl2 (fun j u hu => by
    have hj : j < l.length := by
      rcases Nat.lt_or_ge j l.length with h2 | h2
      · exact h2
      · rw [List.getElem?_eq_none (by rw [length_wordCells]; exact h2)] at hu; cases hu
    rw [addr_add, f.cellEq (seen_lt (hcell j hj)) (fun h => h), hcell j hj]
    rw [wordCells_get] at hu
    rw [← hu, List.getElem?_eq_getElem hj]; rfl)
  have HK0 : Hid ((w.alloc (.cells #[.int .i64 (x : Int), .int .i64 (y : Int), .slice (some ⟨b0, off, none⟩) l.length cap] 48)).heap[w.heap.size]? = some (.cells #[.int .i64 (x : Int), .int .i64 (y : Int), .slice (some ⟨b0, off, none⟩) l.length cap] 48 (0, 0))) := heap_alloc_new _ _
  have HA : Hid (Fr (fun _ => False) w (w.alloc (.cells #[.int .i64 (x : Int), .int .i64 (y : Int), .slice (some ⟨b0, off, none⟩) l.length cap] 48))) := (Fr.refl _ _).alloc _
  have HSZ : Hid ((w.alloc (.cells #[.int .i64 (x : Int), .int .i64 (y : Int), .slice (some ⟨b0, off, none⟩) l.length cap] 48)).heap.size = w.heap.size + 1) := World.size_alloc _ _
  have HS : Hid (∀ w' : World, w'.heap[w.heap.size]? = some (.cells #[.int .i64 (x : Int), .int .i64 (y : Int), .slice (some ⟨b0, off, none⟩) l.length cap] 48 (0, 0)) → w'.cell? ⟨w.heap.size, 0, none⟩ = some (.int .i64 x) ∧ w'.cell? ⟨w.heap.size, 1, none⟩ = some (.int .i64 y) ∧ w'.cell? ⟨w.heap.size, 2, none⟩ = some (.slice (some ⟨b0, off, none⟩) l.length cap)) := fun w' hb => by
    obtain ⟨a, b, c, _⟩ := cell_of_three hb
    exact ⟨a, b, c⟩
  have HAI : Hid ((A i).x = x ∧ (A i).y = y ∧ (A i).l = l) := ⟨hAx, hAy, hAl⟩
  have hne : ((R.length : Int) == 4096) = false := by rw [beq_eq_false_iff_ne]; omega
  have HNL : Hid (∀ (w' : World) b v, w'.ownsRow b 23 1 v l.length (wordCells l) → w'.ownsRow b 23 1 v (A i).l.length (wordCells (A i).l)) := fun w' b v h => by rw [hAl]; exact h
  clear hAx hAy hAl hcc hcell h
  generalize hnR : R.length = nR at *
  generalize hnl : l.length = nl at *
  have HNR : Hid (R.length = nR) := hnR
  clear hnR hnl
  obtain ⟨c0, c1, c2⟩ := HS.out _ HK0.out
  obtain ⟨d0, d1, d2⟩ := (HCL.out _ HA.out).cells
  go_enter Try.func50, Try.ntmps50
  go_upto_region 4 with (fail)
  generalize w.alloc (.cells #[.int .i64 (x : Int), .int .i64 (y : Int), .slice (some ⟨b0, off, none⟩) nl cap] 48) = w0 at *
  have HSTEP : Hid (∀ (w3 w5 : World) (g5 cap5 : Nat) (u : Value) (o : Obj), Fr (fun _ => False) w0 w3 → w3.ownsRow w0.heap.size 23 1 u nl (wordCells l) → w5.ownsRow 0 48 3 (.slice (some ⟨g5, 0, none⟩) (nR + 1) cap5) (nR + 1) (repCells A U R nR ++ [.int .i64 (x : Int), .int .i64 (y : Int), u]) → (w3.alloc o).grownBy w5 (Value.slice ar nR cr).ownBlock → ((Value.slice ar nR cr).ownBlock = some g5 ∨ (w3.alloc o).heap.size ≤ g5) →
      ClR (w5.setCell ⟨bc, 1, none⟩ (.slice (some ⟨g5, 0, none⟩) (nR + 1) cap5)) base bc bm t A (R ++ [i]) (.slice (some ⟨g5, 0, none⟩) (nR + 1) cap5) (updU U nR u) ∧ Fr (fun k => k = bc ∨ (Value.slice ar nR cr).ownBlock = some k) w0 (w5.setCell ⟨bc, 1, none⟩ (.slice (some ⟨g5, 0, none⟩) (nR + 1) cap5))) := fun w3 w5 g5 cap5 u o f3 hu ho hg hl => by
    have q := HNR.out
    subst q
    refine (HCL.out w0 HA.out).r.step (by have := HSZ.out; omega) f3 (HNL.out _ _ _ hu) o ?_ hg hl
    rw [HAI.out.1, HAI.out.2.1]; exact ho
  have HB5 : Hid (∀ (w3 w5 : World) (o : Obj), Fr (fun _ => False) w0 w3 → (w3.alloc o).grownBy w5 (Value.slice ar nR cr).ownBlock → w5.heap[bc]? = some (.cells #[.float .f64 t, .slice ar nR cr, .map (some bm)] 60 (0, 0))) := fun w3 w5 o f3 hg => by
    have hc := (HCL.out w3 (HA.out.trans f3 (fun _ _ h => h)))
    rw [hg.block bc (by rw [World.size_alloc]; have := lt_of_block hc.r.blk; omega) (fun e => row_not_cells hc.r.reps hc.r.blk (by decide) e.symm)]
    exact blkUp hc.r.blk o
  have HK5 : Hid (∀ (w3 w5 : World) (o : Obj), Fr (fun _ => False) w0 w3 → (w3.alloc o).grownBy w5 (Value.slice ar nR cr).ownBlock → w5.heap[w.heap.size]? = some (.cells #[.int .i64 (x : Int), .int .i64 (y : Int), .slice (some ⟨b0, off, none⟩) nl cap] 48 (0, 0))) := fun w3 w5 o f3 hg => by
    have hk := blkOld f3 HK0.out
    rw [hg.block w.heap.size (by rw [World.size_alloc]; have := lt_of_block hk; omega) (fun e => by have := (HRB.out _ e.symm).2; omega)]
    exact blkUp hk o
  have HRO : Hid (∀ w', Fr (fun _ => False) w w' → w'.ownsRow base 48 3 (.slice ar nR cr) nR (repCells A U R nR)) := fun w' f => by
    have := (HCL.out w' f).r.reps
    rwa [HNR.out] at this
  have HBW : Hid (w.heap.size ≠ bc) := by show _ ≠ _; omega
  go_cut [6] from 7 to 47 (fun u wc => u = .int .i64 (nR : Int) ∧ ∃ rv' U', ClR wc base bc bm t A (R ++ [i]) rv' U' ∧ Fr (fun k => k = bc ∨ (Value.slice ar nR cr).ownBlock = some k) w0 wc)
  case first =>
    refine wp_region_held_drew (S := (fun w' => w'.cell? ⟨w.heap.size, 0, none⟩ = some (.int .i64 x) ∧ w'.cell? ⟨w.heap.size, 1, none⟩ = some (.int .i64 y) ∧ w'.cell? ⟨w.heap.size, 2, none⟩ = some (.slice (some ⟨b0, off, none⟩) nl cap))) (by kernel_rfl) (HS.out _ HK0.out) (fun hHeld => ?_)
    refine wpAnyH_take (i := 0) (oi := _) (v := ?vv0x1) rfl (by kernel_rfl) (by kernel_rfl) (by kernel_rfl) (fun _ _ _ h => h) (Or.inl ⟨by kernel_rfl, ?hy0x1⟩) (by assumption) ?_
    case hy0x1 => (intro w hSw; (try dsimp only at hSw); obtain ⟨s0, s1, s2⟩ := hSw; go_simp; all_goals (with_reducible rfl))
    (try simp only [Act.put, List.setIfInBounds_toArray, List.set_cons_zero, List.set_cons_succ])
    refine wpAnyH_take (i := 1) (oi := _) (v := ?vv1x2) rfl (by kernel_rfl) (by kernel_rfl) (by kernel_rfl) (fun _ _ _ h => h) (Or.inl ⟨by kernel_rfl, ?hy1x2⟩) (by assumption) ?_
    case hy1x2 => (intro w hSw; (try dsimp only at hSw); obtain ⟨s0, s1, s2⟩ := hSw; go_simp; all_goals (with_reducible rfl))
    (try simp only [Act.put, List.setIfInBounds_toArray, List.set_cons_zero, List.set_cons_succ])
    refine wpAnyH_take (i := 2) (oi := _) (v := ?vv2x3) rfl (by kernel_rfl) (by kernel_rfl) (by kernel_rfl) (fun _ _ _ h => h) (Or.inl ⟨by kernel_rfl, ?hy2x3⟩) (by assumption) ?_
    case hy2x3 => (intro w hSw; (try dsimp only at hSw); obtain ⟨s0, s1, s2⟩ := hSw; go_simp; all_goals (with_reducible rfl))
    (try simp only [Act.put, List.setIfInBounds_toArray, List.set_cons_zero, List.set_cons_succ])
    refine wpAnyH_take (i := 3) (oi := _) (v := ?vv3x4) rfl (by kernel_rfl) (by kernel_rfl) (by kernel_rfl) (fun _ _ _ h => h) (Or.inl ⟨by kernel_rfl, ?hy3x4⟩) (by assumption) ?_
    case hy3x4 => (intro w hSw; (try dsimp only at hSw); obtain ⟨s0, s1, s2⟩ := hSw; go_simp; all_goals (with_reducible rfl))
    (try simp only [Act.put, List.setIfInBounds_toArray, List.set_cons_zero, List.set_cons_succ])
    refine wpAnyH_take (i := 5) (oi := _) (v := ?vv5x5) rfl (by kernel_rfl) (by kernel_rfl) (by kernel_rfl) (fun _ _ _ h => h) (Or.inl ⟨by kernel_rfl, ?hy5x5⟩) (by assumption) ?_
    case hy5x5 => (intro w hSw; (try dsimp only at hSw); obtain ⟨s0, s1, s2⟩ := hSw; go_simp; all_goals (with_reducible rfl))
    (try simp only [Act.put, List.setIfInBounds_toArray, List.set_cons_zero, List.set_cons_succ])
    refine wpAnyH_take (i := 6) (oi := _) (v := ?vv6x6) rfl (by kernel_rfl) (by kernel_rfl) (by kernel_rfl) (fun _ _ _ h => h) (Or.inl ⟨by kernel_rfl, ?hy6x6⟩) (by assumption) ?_
    case hy6x6 => (intro w hSw; (try dsimp only at hSw); obtain ⟨s0, s1, s2⟩ := hSw; go_simp; all_goals (with_reducible rfl))
    (try simp only [Act.put, List.setIfInBounds_toArray, List.set_cons_zero, List.set_cons_succ])
    refine wpAnyH_take (i := 7) (oi := _) (v := ?vv7x7) rfl (by kernel_rfl) (by kernel_rfl) (by kernel_rfl) (fun _ _ _ h => h) (Or.inl ⟨by kernel_rfl, ?hy7x7⟩) (by assumption) ?_
    case hy7x7 => (intro w hSw; (try dsimp only at hSw); obtain ⟨s0, s1, s2⟩ := hSw; go_simp; all_goals (with_reducible rfl))
    (try simp only [Act.put, List.setIfInBounds_toArray, List.set_cons_zero, List.set_cons_succ])
    refine wpAnyH_take (i := 8) (oi := _) (v := ?vv8x8) rfl (by kernel_rfl) (by kernel_rfl) (by kernel_rfl) (fun _ _ _ h => h) (Or.inl ⟨by kernel_rfl, ?hy8x8⟩) (by assumption) ?_
    case hy8x8 => (intro w hSw; (try dsimp only at hSw); obtain ⟨s0, s1, s2⟩ := hSw; go_simp; all_goals (with_reducible rfl))
    (try simp only [Act.put, List.setIfInBounds_toArray, List.set_cons_zero, List.set_cons_succ])
    refine wpAnyH_take (i := 9) (oi := _) (v := ?vv9x9) rfl (by kernel_rfl) (by kernel_rfl) (by kernel_rfl) (fun _ _ _ h => h) (Or.inl ⟨by kernel_rfl, ?hy9x9⟩) (by assumption) ?_
    case hy9x9 => (intro w hSw; (try dsimp only at hSw); obtain ⟨s0, s1, s2⟩ := hSw; go_simp; all_goals (with_reducible rfl))
    (try simp only [Act.put, List.setIfInBounds_toArray, List.set_cons_zero, List.set_cons_succ])
    refine wpAnyH_take (i := 10) (oi := _) (v := ?vv10x10) rfl (by kernel_rfl) (by kernel_rfl) (by kernel_rfl) (fun _ _ _ h => h) (Or.inl ⟨by kernel_rfl, ?hy10x10⟩) (by assumption) ?_
    case hy10x10 => (intro w hSw; (try dsimp only at hSw); obtain ⟨s0, s1, s2⟩ := hSw; go_simp; all_goals (with_reducible rfl))
    (try simp only [Act.put, List.setIfInBounds_toArray, List.set_cons_zero, List.set_cons_succ])
    refine wpAnyH_ready (rs := [4, 11]) (by kernel_rfl) (by simp) ?_
    refine (AllReadyH.cons (o := _) rfl (fun K hK => ?_) (AllReadyH.cons (o := _) rfl (fun K hK => ?_) AllReadyH.nil))
    · go_simp
      refine hK.out _ _ (HS.out _ HK0.out) (fun hHeld => ?_)
      clear hK K
      (try simp only [Act.put, List.setIfInBounds_toArray, List.set_cons_zero, List.set_cons_succ])
      refine wpAnyH_ready (rs := [11]) (by kernel_rfl) (by simp) ?_
      refine (AllReadyH.cons (o := _) rfl (fun K hK => ?_) AllReadyH.nil)
      go_simp
      refine (HCLN.out _ (HA.out.drew)).mono ?_
      rintro e w3 ⟨uv, rfl, hou, hf3, -⟩
      have hu3 : Hid (w3.ownsRow w0.heap.size 23 1 uv nl (wordCells l)) := hou
      have hf3' : Hid (Fr (fun _ => False) w0 w3) := (Fr.refl (fun _ => False) w0).drew.trans hf3 (fun _ _ h => h)
      have hk3 : Hid _ := blkOld hf3'.out HK0.out
      obtain ⟨e0, e1, e2⟩ := (HCL.out w3 (HA.out.trans hf3'.out (fun _ _ h => h))).cells
      have e1a : ∀ o, (w3.alloc o).cell? ⟨bc, 1, none⟩ = some (.slice ar nR cr) := fun o => ((HCL.out (w3.alloc o) ((HA.out.trans hf3'.out (fun _ _ h => h)).alloc o)).cells).2.1
      obtain ⟨au, cu, hus⟩ : ∃ au cu, uv = .slice au nl cu := own_slice hou
      subst hus
      clear hou hf3
      go_simp
      refine hK.out _ _ (HS.out _ hk3.out) (fun hHeld => ?_)
      clear hK K
      (try simp only [Act.put, List.setIfInBounds_toArray, List.set_cons_zero, List.set_cons_succ])
      refine wpAnyH_take (i := 12) (oi := _) (v := ?vv12x11) rfl (by kernel_rfl) (by kernel_rfl) (by kernel_rfl) (fun _ _ _ h => h) (Or.inl ⟨by kernel_rfl, ?hy12x11⟩) (by assumption) ?_
      case hy12x11 => (intro w hSw; (try dsimp only at hSw); obtain ⟨s0, s1, s2⟩ := hSw; go_simp; all_goals (with_reducible rfl))
      (try simp only [Act.put, List.setIfInBounds_toArray, List.set_cons_zero, List.set_cons_succ])
      refine wpAnyH_ready (rs := [13]) (by kernel_rfl) (by simp) ?_
      refine (AllReadyH.cons (o := _) rfl (fun K hK => ?_) AllReadyH.nil)
      go_simp
      refine hK.out _ _ (HS.out _ (blkUp hk3.out _)) (fun hHeld => ?_)
      clear hK K
      (try simp only [Act.put, List.setIfInBounds_toArray, List.set_cons_zero, List.set_cons_succ])
      refine wpAnyH_ready (rs := [14]) (by kernel_rfl) (by simp) ?_
      refine (AllReadyH.cons (o := _) rfl (fun K hK => ?_) AllReadyH.nil)
      refine step_append_lies _ (by rfl) _ _ _ (by rfl) 0 48 i0 (.agg #[.int .i64 0, .int .i64 0, .slice none 0 0]) 3 40 Try.underlying22 hi hz0 hz1 hz2 rfl (by decide) (.slice ar nR cr) nR (repCells A U R nR) (by rfl) (ownsRow_base (HRO.out _ ((HA.out.trans hf3'.out (fun _ _ h => h)).alloc _)) (fun _ _ => Nat.zero_le _)) ⟨w3.heap.size, 0, none⟩ 1 1 [.int .i64 (x : Int), .int .i64 (y : Int), .slice au nl cu] (by rfl) rfl (cell_three_new _ _ _ _ _) (by intro u hu; simp at hu; rcases hu with rfl | rfl | rfl <;> rfl) (by decide) (by unfold maxLen; omega) (by omega) (Nat.zero_le _) (w3.heap.size + 1) (World.size_alloc _ _) ?_
      intro g5 cap5 w5 hown5 hgrow5 hat5 hlt5
      have hst : Hid (ClR (w5.setCell ⟨bc, 1, none⟩ (.slice (some ⟨g5, 0, none⟩) (nR + 1) cap5)) base bc bm t A (R ++ [i]) (.slice (some ⟨g5, 0, none⟩) (nR + 1) cap5) (updU U nR (.slice au nl cu)) ∧ Fr (fun k => k = bc ∨ (Value.slice ar nR cr).ownBlock = some k) w0 (w5.setCell ⟨bc, 1, none⟩ (.slice (some ⟨g5, 0, none⟩) (nR + 1) cap5))) := HSTEP.out w3 w5 g5 cap5 (.slice au nl cu) _ hf3'.out hu3.out hown5 hgrow5 (by rw [World.size_alloc]; rcases hat5 with h | h; exact Or.inl h; exact Or.inr (by omega))
      have hb5 : w5.heap[bc]? = some (.cells #[.float .f64 t, .slice ar nR cr, .map (some bm)] 60 (0, 0)) := HB5.out w3 w5 _ hf3'.out hgrow5
      have hk5 : Hid _ := HK5.out w3 w5 _ hf3'.out hgrow5
      have hk6 : Hid (∀ v, (w5.setCell ⟨bc, 1, none⟩ v).heap[w.heap.size]? = _) := fun v => (heap_setCell_other _ _ _ _ HBW.out).trans hk5.out
      obtain ⟨m0, m1, m2, m3⟩ := cell_of_three hb5
      have m4 := m3 1
      clear hown5 hgrow5 hat5 hlt5 hb5 m3
      refine hK.out _ _ (HS.out _ hk5.out) (fun hHeld => ?_)
      clear hK K
      (try simp only [Act.put, List.setIfInBounds_toArray, List.set_cons_zero, List.set_cons_succ])
      refine wpAnyH_take (i := 15) (oi := _) (v := ?vv15x12) rfl (by kernel_rfl) (by kernel_rfl) (by kernel_rfl) (fun _ _ _ h => h) (Or.inl ⟨by kernel_rfl, ?hy15x12⟩) (by assumption) ?_
      case hy15x12 => (intro w hSw; (try dsimp only at hSw); obtain ⟨s0, s1, s2⟩ := hSw; go_simp; all_goals (with_reducible rfl))
      (try simp only [Act.put, List.setIfInBounds_toArray, List.set_cons_zero, List.set_cons_succ])
      refine wpAnyH_take (i := 16) (oi := _) (v := ?vv16x13) rfl (by kernel_rfl) (by kernel_rfl) (by kernel_rfl) (fun _ _ _ h => h) (Or.inl ⟨by kernel_rfl, ?hy16x13⟩) (by assumption) ?_
      case hy16x13 => (intro w hSw; (try dsimp only at hSw); obtain ⟨s0, s1, s2⟩ := hSw; go_simp; all_goals (with_reducible rfl))
      (try simp only [Act.put, List.setIfInBounds_toArray, List.set_cons_zero, List.set_cons_succ])
      refine wpAnyH_ready (rs := [17]) (by kernel_rfl) (by simp) ?_
      refine (AllReadyH.cons (o := _) rfl (fun K hK => ?_) AllReadyH.nil)
      go_simp
      refine hK.out _ _ (HS.out _ (hk6.out _)) (fun hHeld => ?_)
      clear hK K
      (try simp only [Act.put, List.setIfInBounds_toArray, List.set_cons_zero, List.set_cons_succ])
      refine wpAnyH_done (by kernel_rfl) ?_ _
      go_wp2_with fail
      go_meet
      exact ⟨rfl, _, _, hst.out.1, hst.out.2⟩
    · go_simp
      refine (HCLN.out _ (HA.out.drew)).mono ?_
      rintro e w3 ⟨uv, rfl, hou, hf3, -⟩
      have hu3 : Hid (w3.ownsRow w0.heap.size 23 1 uv nl (wordCells l)) := hou
      have hf3' : Hid (Fr (fun _ => False) w0 w3) := (Fr.refl (fun _ => False) w0).drew.trans hf3 (fun _ _ h => h)
      have hk3 : Hid _ := blkOld hf3'.out HK0.out
      obtain ⟨e0, e1, e2⟩ := (HCL.out w3 (HA.out.trans hf3'.out (fun _ _ h => h))).cells
      have e1a : ∀ o, (w3.alloc o).cell? ⟨bc, 1, none⟩ = some (.slice ar nR cr) := fun o => ((HCL.out (w3.alloc o) ((HA.out.trans hf3'.out (fun _ _ h => h)).alloc o)).cells).2.1
      obtain ⟨au, cu, hus⟩ : ∃ au cu, uv = .slice au nl cu := own_slice hou
      subst hus
      clear hou hf3
      go_simp
      refine hK.out _ _ (HS.out _ hk3.out) (fun hHeld => ?_)
      clear hK K
      (try simp only [Act.put, List.setIfInBounds_toArray, List.set_cons_zero, List.set_cons_succ])
      refine wpAnyH_take (i := 12) (oi := _) (v := ?vv12x14) rfl (by kernel_rfl) (by kernel_rfl) (by kernel_rfl) (fun _ _ _ h => h) (Or.inl ⟨by kernel_rfl, ?hy12x14⟩) (by assumption) ?_
      case hy12x14 => (intro w hSw; (try dsimp only at hSw); obtain ⟨s0, s1, s2⟩ := hSw; go_simp; all_goals (with_reducible rfl))
      (try simp only [Act.put, List.setIfInBounds_toArray, List.set_cons_zero, List.set_cons_succ])
      refine wpAnyH_ready (rs := [4, 13]) (by kernel_rfl) (by simp) ?_
      refine (AllReadyH.cons (o := _) rfl (fun K hK => ?_) (AllReadyH.cons (o := _) rfl (fun K hK => ?_) AllReadyH.nil))
      · go_simp
        refine hK.out _ _ (HS.out _ hk3.out) (fun hHeld => ?_)
        clear hK K
        (try simp only [Act.put, List.setIfInBounds_toArray, List.set_cons_zero, List.set_cons_succ])
        refine wpAnyH_ready (rs := [13]) (by kernel_rfl) (by simp) ?_
        refine (AllReadyH.cons (o := _) rfl (fun K hK => ?_) AllReadyH.nil)
        go_simp
        refine hK.out _ _ (HS.out _ (blkUp hk3.out _)) (fun hHeld => ?_)
        clear hK K
        (try simp only [Act.put, List.setIfInBounds_toArray, List.set_cons_zero, List.set_cons_succ])
        refine wpAnyH_ready (rs := [14]) (by kernel_rfl) (by simp) ?_
        refine (AllReadyH.cons (o := _) rfl (fun K hK => ?_) AllReadyH.nil)
        refine step_append_lies _ (by rfl) _ _ _ (by rfl) 0 48 i0 (.agg #[.int .i64 0, .int .i64 0, .slice none 0 0]) 3 40 Try.underlying22 hi hz0 hz1 hz2 rfl (by decide) (.slice ar nR cr) nR (repCells A U R nR) (by rfl) (ownsRow_base (HRO.out _ ((HA.out.trans hf3'.out (fun _ _ h => h)).alloc _)) (fun _ _ => Nat.zero_le _)) ⟨w3.heap.size, 0, none⟩ 1 1 [.int .i64 (x : Int), .int .i64 (y : Int), .slice au nl cu] (by rfl) rfl (cell_three_new _ _ _ _ _) (by intro u hu; simp at hu; rcases hu with rfl | rfl | rfl <;> rfl) (by decide) (by unfold maxLen; omega) (by omega) (Nat.zero_le _) (w3.heap.size + 1) (World.size_alloc _ _) ?_
        intro g5 cap5 w5 hown5 hgrow5 hat5 hlt5
        have hst : Hid (ClR (w5.setCell ⟨bc, 1, none⟩ (.slice (some ⟨g5, 0, none⟩) (nR + 1) cap5)) base bc bm t A (R ++ [i]) (.slice (some ⟨g5, 0, none⟩) (nR + 1) cap5) (updU U nR (.slice au nl cu)) ∧ Fr (fun k => k = bc ∨ (Value.slice ar nR cr).ownBlock = some k) w0 (w5.setCell ⟨bc, 1, none⟩ (.slice (some ⟨g5, 0, none⟩) (nR + 1) cap5))) := HSTEP.out w3 w5 g5 cap5 (.slice au nl cu) _ hf3'.out hu3.out hown5 hgrow5 (by rw [World.size_alloc]; rcases hat5 with h | h; exact Or.inl h; exact Or.inr (by omega))
        have hb5 : w5.heap[bc]? = some (.cells #[.float .f64 t, .slice ar nR cr, .map (some bm)] 60 (0, 0)) := HB5.out w3 w5 _ hf3'.out hgrow5
        have hk5 : Hid _ := HK5.out w3 w5 _ hf3'.out hgrow5
        have hk6 : Hid (∀ v, (w5.setCell ⟨bc, 1, none⟩ v).heap[w.heap.size]? = _) := fun v => (heap_setCell_other _ _ _ _ HBW.out).trans hk5.out
        obtain ⟨m0, m1, m2, m3⟩ := cell_of_three hb5
        have m4 := m3 1
        clear hown5 hgrow5 hat5 hlt5 hb5 m3
        refine hK.out _ _ (HS.out _ hk5.out) (fun hHeld => ?_)
        clear hK K
        (try simp only [Act.put, List.setIfInBounds_toArray, List.set_cons_zero, List.set_cons_succ])
        refine wpAnyH_take (i := 15) (oi := _) (v := ?vv15x15) rfl (by kernel_rfl) (by kernel_rfl) (by kernel_rfl) (fun _ _ _ h => h) (Or.inl ⟨by kernel_rfl, ?hy15x15⟩) (by assumption) ?_
        case hy15x15 => (intro w hSw; (try dsimp only at hSw); obtain ⟨s0, s1, s2⟩ := hSw; go_simp; all_goals (with_reducible rfl))
        (try simp only [Act.put, List.setIfInBounds_toArray, List.set_cons_zero, List.set_cons_succ])
        refine wpAnyH_take (i := 16) (oi := _) (v := ?vv16x16) rfl (by kernel_rfl) (by kernel_rfl) (by kernel_rfl) (fun _ _ _ h => h) (Or.inl ⟨by kernel_rfl, ?hy16x16⟩) (by assumption) ?_
        case hy16x16 => (intro w hSw; (try dsimp only at hSw); obtain ⟨s0, s1, s2⟩ := hSw; go_simp; all_goals (with_reducible rfl))
        (try simp only [Act.put, List.setIfInBounds_toArray, List.set_cons_zero, List.set_cons_succ])
        refine wpAnyH_ready (rs := [17]) (by kernel_rfl) (by simp) ?_
        refine (AllReadyH.cons (o := _) rfl (fun K hK => ?_) AllReadyH.nil)
        go_simp
        refine hK.out _ _ (HS.out _ (hk6.out _)) (fun hHeld => ?_)
        clear hK K
        (try simp only [Act.put, List.setIfInBounds_toArray, List.set_cons_zero, List.set_cons_succ])
        refine wpAnyH_done (by kernel_rfl) ?_ _
        go_wp2_with fail
        go_meet
        exact ⟨rfl, _, _, hst.out.1, hst.out.2⟩
      · go_simp
        refine hK.out _ _ (HS.out _ (blkUp hk3.out _)) (fun hHeld => ?_)
        clear hK K
        (try simp only [Act.put, List.setIfInBounds_toArray, List.set_cons_zero, List.set_cons_succ])
        refine wpAnyH_ready (rs := [4]) (by kernel_rfl) (by simp) ?_
        refine (AllReadyH.cons (o := _) rfl (fun K hK => ?_) AllReadyH.nil)
        go_simp
        refine hK.out _ _ (HS.out _ (blkUp hk3.out _)) (fun hHeld => ?_)
        clear hK K
        (try simp only [Act.put, List.setIfInBounds_toArray, List.set_cons_zero, List.set_cons_succ])
        refine wpAnyH_ready (rs := [14]) (by kernel_rfl) (by simp) ?_
        refine (AllReadyH.cons (o := _) rfl (fun K hK => ?_) AllReadyH.nil)
        refine step_append_lies _ (by rfl) _ _ _ (by rfl) 0 48 i0 (.agg #[.int .i64 0, .int .i64 0, .slice none 0 0]) 3 40 Try.underlying22 hi hz0 hz1 hz2 rfl (by decide) (.slice ar nR cr) nR (repCells A U R nR) (by rfl) (ownsRow_base (HRO.out _ ((HA.out.trans hf3'.out (fun _ _ h => h)).alloc _)) (fun _ _ => Nat.zero_le _)) ⟨w3.heap.size, 0, none⟩ 1 1 [.int .i64 (x : Int), .int .i64 (y : Int), .slice au nl cu] (by rfl) rfl (cell_three_new _ _ _ _ _) (by intro u hu; simp at hu; rcases hu with rfl | rfl | rfl <;> rfl) (by decide) (by unfold maxLen; omega) (by omega) (Nat.zero_le _) (w3.heap.size + 1) (World.size_alloc _ _) ?_
        intro g5 cap5 w5 hown5 hgrow5 hat5 hlt5
        have hst : Hid (ClR (w5.setCell ⟨bc, 1, none⟩ (.slice (some ⟨g5, 0, none⟩) (nR + 1) cap5)) base bc bm t A (R ++ [i]) (.slice (some ⟨g5, 0, none⟩) (nR + 1) cap5) (updU U nR (.slice au nl cu)) ∧ Fr (fun k => k = bc ∨ (Value.slice ar nR cr).ownBlock = some k) w0 (w5.setCell ⟨bc, 1, none⟩ (.slice (some ⟨g5, 0, none⟩) (nR + 1) cap5))) := HSTEP.out w3 w5 g5 cap5 (.slice au nl cu) _ hf3'.out hu3.out hown5 hgrow5 (by rw [World.size_alloc]; rcases hat5 with h | h; exact Or.inl h; exact Or.inr (by omega))
        have hb5 : w5.heap[bc]? = some (.cells #[.float .f64 t, .slice ar nR cr, .map (some bm)] 60 (0, 0)) := HB5.out w3 w5 _ hf3'.out hgrow5
        have hk5 : Hid _ := HK5.out w3 w5 _ hf3'.out hgrow5
        have hk6 : Hid (∀ v, (w5.setCell ⟨bc, 1, none⟩ v).heap[w.heap.size]? = _) := fun v => (heap_setCell_other _ _ _ _ HBW.out).trans hk5.out
        obtain ⟨m0, m1, m2, m3⟩ := cell_of_three hb5
        have m4 := m3 1
        clear hown5 hgrow5 hat5 hlt5 hb5 m3
        refine hK.out _ _ (HS.out _ hk5.out) (fun hHeld => ?_)
        clear hK K
        (try simp only [Act.put, List.setIfInBounds_toArray, List.set_cons_zero, List.set_cons_succ])
        refine wpAnyH_take (i := 15) (oi := _) (v := ?vv15x17) rfl (by kernel_rfl) (by kernel_rfl) (by kernel_rfl) (fun _ _ _ h => h) (Or.inl ⟨by kernel_rfl, ?hy15x17⟩) (by assumption) ?_
        case hy15x17 => (intro w hSw; (try dsimp only at hSw); obtain ⟨s0, s1, s2⟩ := hSw; go_simp; all_goals (with_reducible rfl))
        (try simp only [Act.put, List.setIfInBounds_toArray, List.set_cons_zero, List.set_cons_succ])
        refine wpAnyH_take (i := 16) (oi := _) (v := ?vv16x18) rfl (by kernel_rfl) (by kernel_rfl) (by kernel_rfl) (fun _ _ _ h => h) (Or.inl ⟨by kernel_rfl, ?hy16x18⟩) (by assumption) ?_
        case hy16x18 => (intro w hSw; (try dsimp only at hSw); obtain ⟨s0, s1, s2⟩ := hSw; go_simp; all_goals (with_reducible rfl))
        (try simp only [Act.put, List.setIfInBounds_toArray, List.set_cons_zero, List.set_cons_succ])
        refine wpAnyH_ready (rs := [17]) (by kernel_rfl) (by simp) ?_
        refine (AllReadyH.cons (o := _) rfl (fun K hK => ?_) AllReadyH.nil)
        go_simp
        refine hK.out _ _ (HS.out _ (hk6.out _)) (fun hHeld => ?_)
        clear hK K
        (try simp only [Act.put, List.setIfInBounds_toArray, List.set_cons_zero, List.set_cons_succ])
        refine wpAnyH_done (by kernel_rfl) ?_ _
        go_wp2_with fail
        go_meet
        exact ⟨rfl, _, _, hst.out.1, hst.out.2⟩
  case rest =>
    obtain ⟨rfl, rv', U', hR', hfc⟩ := hcut
    clear HSTEP HB5 HK5 HRO c0 c1 c2 d0 d1 d2 hi hz0 hz1 hz2 hne HCLN HNL
    have HFC : Hid (Fr (fun k => k = bc ∨ (Value.slice ar nR cr).ownBlock = some k) w0 wc) := hfc
    have HR' : Hid (ClR wc base bc bm t A (R ++ [i]) rv' U') := hR'
    have HKC : Hid (wc.heap[w.heap.size]? = some (.cells #[.int .i64 (x : Int), .int .i64 (y : Int), .slice (some ⟨b0, off, none⟩) nl cap] 48 (0, 0))) := by
      show _ = _
      rw [hfc.block _ (by have := HSZ.out; omega) (fun h => by rcases h with h | h; exact HBW.out h; have := (HRB.out _ h).2; omega)]
      exact HK0.out
    have HM0 : Hid (ClM wc base bm A R m D V) := (HCL.out w0 HA.out).m.kept hfc (fun h => by rcases h with h | h; exact HN1.out.2.1 h.symm; exact HN1.out.1 h) (fun a b k hk h => by rcases h with h | h; exact (HN1.out.2.2 a b k hk).2 h; exact (HN1.out.2.2 a b k hk).1 h)
    have hb1 : base ≤ wc.heap.size := by have h1 := hfc.size; have h2 := HSZ.out; omega
    have HS5 : Hid (∀ w' : World, Fr (fun k => k = bm ∨ (V x y).ownBlock = some k) wc w' → (w'.cell? ⟨w.heap.size, 0, none⟩ = some (.int .i64 x) ∧ w'.cell? ⟨w.heap.size, 1, none⟩ = some (.int .i64 y) ∧ w'.cell? ⟨w.heap.size, 2, none⟩ = some (.slice (some ⟨b0, off, none⟩) nl cap)) ∧ w'.cell? ⟨bc, 2, none⟩ = some (.map (some bm))) := fun w' f => by
      refine ⟨HS.out w' ?_, ?_⟩
      · rw [f.block _ (lt_of_block HKC.out) (fun h => by rcases h with h | h; omega; have := (HVB.out _ h).2; omega)]; exact HKC.out
      · have := HR'.out.blk
        rw [← f.block _ (lt_of_block this) (fun h => by rcases h with h | h; exact HN1.out.2.1 h; exact (HN1.out.2.2 x y _ h).2 rfl)] at this
        exact (cell_of_three this).2.2.1
    have HFIN : Hid (∀ w9 D' V', ClM w9 base bm A (R ++ [i]) (m + 1) D' V' ∧ Fr (fun k => k = bm ∨ (V x y).ownBlock = some k) wc w9 → Cl w9 base bc bm t A (R ++ [i]) rv' U' (m + 1) D' V' ∧ Fr (fun k => k = bc ∨ k = bm ∨ base ≤ k) w w9) := fun w9 D' V' hh => by
      refine ⟨⟨HR'.out.kept hh.2 ?_ ?_ ?_, hh.1⟩, ?_⟩
      · rintro (h | h)
        · exact HN1.out.2.1 h
        · exact (HN1.out.2.2 x y _ h).2 rfl
      · rintro k hk (h | h)
        · subst h; obtain ⟨es, cl, hb, _⟩ := HM0.out.map; exact row_not_map HR'.out.reps hb hk
        · rcases own_ne2 (HM0.out.row x y) HR'.out.reps (by decide) with h' | h'
          · rw [h'] at h; cases h
          · exact h' (h.trans hk.symm)
      · rintro c k hc hk (h | h)
        · subst h; obtain ⟨es, cl, hb, _⟩ := HM0.out.map; exact row_not_map (HR'.out.words c hc) hb hk
        · rcases own_ne2 (HM0.out.row x y) (HR'.out.words c hc) (by decide) with h' | h'
          · rw [h'] at h; cases h
          · exact h' (h.trans hk.symm)
      · refine ((HA.out.mono (fun _ _ h => h.elim)).trans HFC.out (fun k hk h => ?_)).trans hh.2 (fun k hk h => ?_)
        · rcases h with h | h
          · exact Or.inl h
          · exact Or.inr (Or.inr (HRB.out k h).1)
        · rcases h with h | h
          · exact Or.inr (Or.inl h)
          · exact Or.inr (Or.inr (HVB.out k h).1)
    have HMK : Hid (∀ W, Fr (fun _ => False) wc W → ClM W base bm A R m D V) := fun W f => HM0.out.kept f (fun h => h) (fun _ _ _ _ h => h)
    have HKEY : Hid (keyOf Try.prog 77 (.agg #[.int .i64 (x : Int), .int .i64 (y : Int)]) = some (kS x y)) := keyS x y hx hy
    have hq := length_ofSz (szB A) R x y
    rw [HNR.out] at hq
    have HSTM : Hid (∀ (W w8 w9 : World) (g cap : Nat), Fr (fun _ => False) wc W → w8.ownsRow 0 3 1 (.slice (some ⟨g, 0, none⟩) ((ofSz (szB A) R x y).length + 1) cap) ((ofSz (szB A) R x y).length + 1) (intCells (ofSz (szB A) R x y) ++ [.int .i64 (nR : Int)]) → W.grownBy w8 (V x y).ownBlock → ((V x y).ownBlock = some g ∨ W.heap.size ≤ g) → w9.ownsMap Try.prog 77 heldR bm (m + 1) (D.put (kS x y) (.held (.slice (some ⟨g, 0, none⟩) ((ofSz (szB A) R x y).length + 1) cap))) → w8.grownBy w9 (some bm) →
        ClM w9 base bm A (R ++ [i]) (m + 1) (D.put (kS x y) (.held (.slice (some ⟨g, 0, none⟩) ((ofSz (szB A) R x y).length + 1) cap))) (updV V x y (.slice (some ⟨g, 0, none⟩) ((ofSz (szB A) R x y).length + 1) cap)) ∧ Fr (fun k => k = bm ∨ (V x y).ownBlock = some k) wc w9) := fun W w8 w9 g cap f h8 hg8 hl8 h9 hg9 => by
      have q := HNR.out
      subst q
      exact HM0.out.step hx hy HAI.out.1 HAI.out.2.1 hb1 f h8 hg8 hl8 h9 hg9
    have HVO : Hid (∀ W, Fr (fun _ => False) wc W → W.ownsRow 0 3 1 (V x y) (ofSz (szB A) R x y).length (intCells (ofSz (szB A) R x y))) := fun W f => ownsRow_base ((HMK.out W f).row x y) (fun _ _ => Nat.zero_le _)
    have HLK : Hid (∀ W, Fr (fun _ => False) wc W → (Instr.lookup 58 (.map (some bm)) (.agg #[.int .i64 (x : Int), .int .i64 (y : Int)]) false).run Try.prog W = .ok (V x y) W) := fun W f => by
      have hc := HMK.out W f
      obtain ⟨v', ps, hrun, hRv⟩ := hc.map.lookup Try.keyed77 Try.underlying58 (Try.zero31 W) (zd := .held (.slice none 0 0)) (zp := []) rfl HKEY.out
      rw [hc.val x y hx hy] at hRv
      simp only [heldR, Option.some.injEq, Prod.mk.injEq, DataW.held.injEq] at hRv
      obtain ⟨rfl, _⟩ := hRv
      exact hrun
    have HUP : Hid (∀ (W w8 : World) (val : Value), Fr (fun _ => False) wc W → W.grownBy w8 (V x y).ownBlock → ∃ w9, (Instr.mapUpdate 58 (.map (some bm)) (.agg #[.int .i64 (x : Int), .int .i64 (y : Int)]) val).run Try.prog w8 = .ok () w9 ∧ w9.ownsMap Try.prog 77 heldR bm (m + 1) (D.put (kS x y) (.held val)) ∧ w8.grownBy w9 (some bm)) := fun W w8 val f hg => by
      have hc := HMK.out W f
      exact (hc.map.kept hg (fun e => hc.off e.symm)).update Try.keyed77 Try.underlying58 (by unfold maxLen; omega) HKEY.out (d := .held val) (ps := []) rfl
    have HFG : Hid (∀ (W w8 : World), Fr (fun _ => False) wc W → W.grownBy w8 (V x y).ownBlock → Fr (fun k => k = bm ∨ (V x y).ownBlock = some k) wc w8) := fun W w8 f hg => (f.mono (fun _ _ h => h.elim)).trans (grown_fr (S := fun k => k = bm ∨ (V x y).ownBlock = some k) hg (fun k hk => Or.inr hk)) (fun _ _ h => h)
    clear hR' hfc
    generalize (ofSz (szB A) R x y).length = n at *
    generalize intCells (ofSz (szB A) R x y) = xs at *
    generalize V x y = vv at *
    obtain ⟨⟨c0, c1, c2⟩, d2⟩ := HS5.out _ (Fr.refl _ _)
    go_upto_region 5 with (fail)
    refine wp_region_held_drew (S := (fun w' => (w'.cell? ⟨w.heap.size, 0, none⟩ = some (.int .i64 x) ∧ w'.cell? ⟨w.heap.size, 1, none⟩ = some (.int .i64 y) ∧ w'.cell? ⟨w.heap.size, 2, none⟩ = some (.slice (some ⟨b0, off, none⟩) nl cap)) ∧ w'.cell? ⟨bc, 2, none⟩ = some (.map (some bm)))) (by kernel_rfl) (HS5.out _ (Fr.drew (Fr.refl _ wc))) (fun hHeld => ?_)
    refine wpAnyH_take (i := 0) (oi := _) (v := ?vv0x19) rfl (by kernel_rfl) (by kernel_rfl) (by kernel_rfl) (fun _ _ _ h => h) (Or.inl ⟨by kernel_rfl, ?hy0x19⟩) (by assumption) ?_
    case hy0x19 => (intro w hSw; (try dsimp only at hSw); obtain ⟨⟨s0, s1, s2⟩, s3⟩ := hSw; go_simp; all_goals (with_reducible rfl))
    (try simp only [Act.put, List.setIfInBounds_toArray, List.set_cons_zero, List.set_cons_succ])
    refine wpAnyH_take (i := 1) (oi := _) (v := ?vv1x20) rfl (by kernel_rfl) (by kernel_rfl) (by kernel_rfl) (fun _ _ _ h => h) (Or.inl ⟨by kernel_rfl, ?hy1x20⟩) (by assumption) ?_
    case hy1x20 => (intro w hSw; (try dsimp only at hSw); obtain ⟨⟨s0, s1, s2⟩, s3⟩ := hSw; go_simp; all_goals (with_reducible rfl))
    (try simp only [Act.put, List.setIfInBounds_toArray, List.set_cons_zero, List.set_cons_succ])
    refine wpAnyH_take (i := 2) (oi := _) (v := ?vv2x21) rfl (by kernel_rfl) (by kernel_rfl) (by kernel_rfl) (fun _ _ _ h => h) (Or.inl ⟨by kernel_rfl, ?hy2x21⟩) (by assumption) ?_
    case hy2x21 => (intro w hSw; (try dsimp only at hSw); obtain ⟨⟨s0, s1, s2⟩, s3⟩ := hSw; go_simp; all_goals (with_reducible rfl))
    (try simp only [Act.put, List.setIfInBounds_toArray, List.set_cons_zero, List.set_cons_succ])
    refine wpAnyH_take (i := 3) (oi := _) (v := ?vv3x22) rfl (by kernel_rfl) (by kernel_rfl) (by kernel_rfl) (fun _ _ _ h => h) (Or.inl ⟨by kernel_rfl, ?hy3x22⟩) (by assumption) ?_
    case hy3x22 => (intro w hSw; (try dsimp only at hSw); obtain ⟨⟨s0, s1, s2⟩, s3⟩ := hSw; go_simp; all_goals (with_reducible rfl))
    (try simp only [Act.put, List.setIfInBounds_toArray, List.set_cons_zero, List.set_cons_succ])
    refine wpAnyH_take (i := 4) (oi := _) (v := ?vv4x23) rfl (by kernel_rfl) (by kernel_rfl) (by kernel_rfl) (fun _ _ _ h => h) (Or.inl ⟨by kernel_rfl, ?hy4x23⟩) (by assumption) ?_
    case hy4x23 => (intro w hSw; (try dsimp only at hSw); obtain ⟨⟨s0, s1, s2⟩, s3⟩ := hSw; go_simp; all_goals (with_reducible rfl))
    (try simp only [Act.put, List.setIfInBounds_toArray, List.set_cons_zero, List.set_cons_succ])
    refine wpAnyH_take (i := 6) (oi := _) (v := ?vv6x24) rfl (by kernel_rfl) (by kernel_rfl) (by kernel_rfl) (fun _ _ _ h => h) (Or.inl ⟨by kernel_rfl, ?hy6x24⟩) (by assumption) ?_
    case hy6x24 => (intro w hSw; (try dsimp only at hSw); obtain ⟨⟨s0, s1, s2⟩, s3⟩ := hSw; go_simp; all_goals (with_reducible rfl))
    (try simp only [Act.put, List.setIfInBounds_toArray, List.set_cons_zero, List.set_cons_succ])
    refine wpAnyH_take (i := 7) (oi := _) (v := ?vv7x25) rfl (by kernel_rfl) (by kernel_rfl) (by kernel_rfl) (fun _ _ _ h => h) (Or.inl ⟨by kernel_rfl, ?hy7x25⟩) (by assumption) ?_
    case hy7x25 => (intro w hSw; (try dsimp only at hSw); obtain ⟨⟨s0, s1, s2⟩, s3⟩ := hSw; go_simp; all_goals (with_reducible rfl))
    (try simp only [Act.put, List.setIfInBounds_toArray, List.set_cons_zero, List.set_cons_succ])
    refine wpAnyH_take (i := 8) (oi := _) (v := ?vv8x26) rfl (by kernel_rfl) (by kernel_rfl) (by kernel_rfl) (fun _ _ _ h => h) (Or.inl ⟨by kernel_rfl, ?hy8x26⟩) (by assumption) ?_
    case hy8x26 => (intro w hSw; (try dsimp only at hSw); obtain ⟨⟨s0, s1, s2⟩, s3⟩ := hSw; go_simp; all_goals (with_reducible rfl))
    (try simp only [Act.put, List.setIfInBounds_toArray, List.set_cons_zero, List.set_cons_succ])
    refine wpAnyH_take (i := 9) (oi := _) (v := ?vv9x27) rfl (by kernel_rfl) (by kernel_rfl) (by kernel_rfl) (fun _ _ _ h => h) (Or.inl ⟨by kernel_rfl, ?hy9x27⟩) (by assumption) ?_
    case hy9x27 => (intro w hSw; (try dsimp only at hSw); obtain ⟨⟨s0, s1, s2⟩, s3⟩ := hSw; go_simp; all_goals (with_reducible rfl))
    (try simp only [Act.put, List.setIfInBounds_toArray, List.set_cons_zero, List.set_cons_succ])
    refine wpAnyH_take (i := 10) (oi := _) (v := ?vv10x28) rfl (by kernel_rfl) (by kernel_rfl) (by kernel_rfl) (fun _ _ _ h => h) (Or.inl ⟨by kernel_rfl, ?hy10x28⟩) (by assumption) ?_
    case hy10x28 => (intro w hSw; (try dsimp only at hSw); obtain ⟨⟨s0, s1, s2⟩, s3⟩ := hSw; go_simp; all_goals (with_reducible rfl))
    (try simp only [Act.put, List.setIfInBounds_toArray, List.set_cons_zero, List.set_cons_succ])
    refine wpAnyH_take (i := 13) (oi := _) (v := ?vv13x29) rfl (by kernel_rfl) (by kernel_rfl) (by kernel_rfl) (fun _ _ _ h => h) (Or.inl ⟨by kernel_rfl, ?hy13x29⟩) (by assumption) ?_
    case hy13x29 => (intro w hSw; (try dsimp only at hSw); obtain ⟨⟨s0, s1, s2⟩, s3⟩ := hSw; go_simp; all_goals (with_reducible rfl))
    (try simp only [Act.put, List.setIfInBounds_toArray, List.set_cons_zero, List.set_cons_succ])
    refine wpAnyH_ready (rs := [5, 14]) (by kernel_rfl) (by simp) ?_
    refine (AllReadyH.cons (o := _) rfl (fun K hK => ?_) (AllReadyH.cons (o := _) rfl (fun K hK => ?_) AllReadyH.nil))
    · go_simp
      refine (sizeOf_any (x : Int) (y : Int) (.slice (some ⟨b0, off, none⟩) nl cap) _).mono ?_
      rintro e w6 ⟨rfl, hfw6⟩
      have hgw6 : Hid (Fr (fun _ => False) wc.drew w6) := hfw6
      have hhw6 : Hid (Fr (fun _ => False) wc w6) := Fr.trans (Fr.drew (Fr.refl (fun _ => False) wc)) hfw6 (fun _ _ h => h)
      clear hfw6
      go_simp
      refine hK.out _ _ (HS5.out _ (Fr.mono hhw6.out (fun _ _ h => h.elim))) (fun hHeld => ?_)
      clear hK K
      (try simp only [Act.put, List.setIfInBounds_toArray, List.set_cons_zero, List.set_cons_succ])
      refine wpAnyH_ready (rs := [11, 14]) (by kernel_rfl) (by simp) ?_
      refine (AllReadyH.cons (o := _) rfl (fun K hK => ?_) (AllReadyH.cons (o := _) rfl (fun K hK => ?_) AllReadyH.nil))
      · go_simp
        refine (sizeOf_any (x : Int) (y : Int) (.slice (some ⟨b0, off, none⟩) nl cap) _).mono ?_
        rintro e w7 ⟨rfl, hfw7⟩
        have hgw7 : Hid (Fr (fun _ => False) w6 w7) := hfw7
        have hhw7 : Hid (Fr (fun _ => False) wc w7) := Fr.trans hhw6.out hfw7 (fun _ _ h => h)
        clear hfw7
        go_simp
        refine hK.out _ _ (HS5.out _ (Fr.mono hhw7.out (fun _ _ h => h.elim))) (fun hHeld => ?_)
        clear hK K
        (try simp only [Act.put, List.setIfInBounds_toArray, List.set_cons_zero, List.set_cons_succ])
        refine wpAnyH_ready (rs := [12, 14]) (by kernel_rfl) (by simp) ?_
        refine (AllReadyH.cons (o := _) rfl (fun K hK => ?_) (AllReadyH.cons (o := _) rfl (fun K hK => ?_) AllReadyH.nil))
        · have hlk := HLK.out _ hhw7.out
          go_simp
          clear hlk
          refine hK.out _ _ (HS5.out _ (Fr.mono hhw7.out (fun _ _ h => h.elim))) (fun hHeld => ?_)
          clear hK K
          (try simp only [Act.put, List.setIfInBounds_toArray, List.set_cons_zero, List.set_cons_succ])
          refine wpAnyH_ready (rs := [14]) (by kernel_rfl) (by simp) ?_
          refine (AllReadyH.cons (o := _) rfl (fun K hK => ?_) AllReadyH.nil)
          go_simp
          refine hK.out _ _ (HS5.out _ (Fr.mono (Fr.alloc hhw7.out (.cells #[.int .i64 (nR : Int)] 3)) (fun _ _ h => h.elim))) (fun hHeld => ?_)
          clear hK K
          (try simp only [Act.put, List.setIfInBounds_toArray, List.set_cons_zero, List.set_cons_succ])
          refine wpAnyH_ready (rs := [15]) (by kernel_rfl) (by simp) ?_
          refine (AllReadyH.cons (o := _) rfl (fun K hK => ?_) AllReadyH.nil)
          refine step_append_lies _ (by rfl) _ _ _ (by rfl) 0 3 j0 (.int .i64 0) 1 8 Try.underlying31 hj hy0 hy1 hy2 rfl (by decide) vv n xs (by rfl) (HVO.out _ (Fr.alloc hhw7.out (.cells #[.int .i64 (nR : Int)] 3))) ⟨(World.heap w7).size, 0, none⟩ 1 1 [.int .i64 (nR : Int)] (by rfl) rfl (one_later (Fr.refl (fun _ => False) (World.alloc w7 (.cells #[.int .i64 (nR : Int)] 3)))) (by intro u hu; simp at hu; subst hu; rfl) (by decide) (by unfold maxLen; omega) (by omega) (Nat.zero_le _) (World.heap (World.alloc w7 (.cells #[.int .i64 (nR : Int)] 3))).size rfl ?_
          intro g8 cap8 w8 hown8 hgrow8 hat8 hlt8
          have hk8 : Hid (Fr (fun k => k = bm ∨ vv.ownBlock = some k) wc w8) := HFG.out _ w8 (Fr.alloc hhw7.out (.cells #[.int .i64 (nR : Int)] 3)) hgrow8
          obtain ⟨w9, hup, hom9, hg9⟩ := HUP.out _ w8 (.slice (some ⟨g8, 0, none⟩) (n + 1) cap8) (Fr.alloc hhw7.out (.cells #[.int .i64 (nR : Int)] 3)) hgrow8
          have hfin : Hid _ := HSTM.out _ w8 w9 g8 cap8 (Fr.alloc hhw7.out (.cells #[.int .i64 (nR : Int)] 3)) hown8 hgrow8 (by rcases hat8 with h | h; exact Or.inl h; exact Or.inr (Nat.le_of_eq h.symm)) hom9 hg9
          clear hown8 hgrow8 hat8 hlt8 hom9 hg9
          refine hK.out _ _ (HS5.out _ hk8.out) (fun hHeld => ?_)
          clear hK K
          (try simp only [Act.put, List.setIfInBounds_toArray, List.set_cons_zero, List.set_cons_succ])
          refine wpAnyH_ready (rs := [16]) (by kernel_rfl) (by simp) ?_
          refine (AllReadyH.cons (o := _) rfl (fun K hK => ?_) AllReadyH.nil)
          go_simp
          refine hK.out _ _ (HS5.out _ hfin.out.2) (fun hHeld => ?_)
          clear hK K
          (try simp only [Act.put, List.setIfInBounds_toArray, List.set_cons_zero, List.set_cons_succ])
          refine wpAnyH_done (by kernel_rfl) ?_ _
          clear hup
          have hfi : Hid _ := HFIN.out _ _ _ hfin.out
          go_wp2_with fail
          go_ret2
          exact ⟨_, _, _, _, rfl, hfi.out.1, hfi.out.2⟩
        · go_simp
          refine hK.out _ _ (HS5.out _ (Fr.mono (Fr.alloc hhw7.out (.cells #[.int .i64 (nR : Int)] 3)) (fun _ _ h => h.elim))) (fun hHeld => ?_)
          clear hK K
          (try simp only [Act.put, List.setIfInBounds_toArray, List.set_cons_zero, List.set_cons_succ])
          refine wpAnyH_ready (rs := [12]) (by kernel_rfl) (by simp) ?_
          refine (AllReadyH.cons (o := _) rfl (fun K hK => ?_) AllReadyH.nil)
          have hlk := HLK.out _ (Fr.alloc hhw7.out (.cells #[.int .i64 (nR : Int)] 3))
          go_simp
          clear hlk
          refine hK.out _ _ (HS5.out _ (Fr.mono (Fr.alloc hhw7.out (.cells #[.int .i64 (nR : Int)] 3)) (fun _ _ h => h.elim))) (fun hHeld => ?_)
          clear hK K
          (try simp only [Act.put, List.setIfInBounds_toArray, List.set_cons_zero, List.set_cons_succ])
          refine wpAnyH_ready (rs := [15]) (by kernel_rfl) (by simp) ?_
          refine (AllReadyH.cons (o := _) rfl (fun K hK => ?_) AllReadyH.nil)
          refine step_append_lies _ (by rfl) _ _ _ (by rfl) 0 3 j0 (.int .i64 0) 1 8 Try.underlying31 hj hy0 hy1 hy2 rfl (by decide) vv n xs (by rfl) (HVO.out _ (Fr.alloc hhw7.out (.cells #[.int .i64 (nR : Int)] 3))) ⟨(World.heap w7).size, 0, none⟩ 1 1 [.int .i64 (nR : Int)] (by rfl) rfl (one_later (Fr.refl (fun _ => False) (World.alloc w7 (.cells #[.int .i64 (nR : Int)] 3)))) (by intro u hu; simp at hu; subst hu; rfl) (by decide) (by unfold maxLen; omega) (by omega) (Nat.zero_le _) (World.heap (World.alloc w7 (.cells #[.int .i64 (nR : Int)] 3))).size rfl ?_
          intro g8 cap8 w8 hown8 hgrow8 hat8 hlt8
          have hk8 : Hid (Fr (fun k => k = bm ∨ vv.ownBlock = some k) wc w8) := HFG.out _ w8 (Fr.alloc hhw7.out (.cells #[.int .i64 (nR : Int)] 3)) hgrow8
          obtain ⟨w9, hup, hom9, hg9⟩ := HUP.out _ w8 (.slice (some ⟨g8, 0, none⟩) (n + 1) cap8) (Fr.alloc hhw7.out (.cells #[.int .i64 (nR : Int)] 3)) hgrow8
          have hfin : Hid _ := HSTM.out _ w8 w9 g8 cap8 (Fr.alloc hhw7.out (.cells #[.int .i64 (nR : Int)] 3)) hown8 hgrow8 (by rcases hat8 with h | h; exact Or.inl h; exact Or.inr (Nat.le_of_eq h.symm)) hom9 hg9
          clear hown8 hgrow8 hat8 hlt8 hom9 hg9
          refine hK.out _ _ (HS5.out _ hk8.out) (fun hHeld => ?_)
          clear hK K
          (try simp only [Act.put, List.setIfInBounds_toArray, List.set_cons_zero, List.set_cons_succ])
          refine wpAnyH_ready (rs := [16]) (by kernel_rfl) (by simp) ?_
          refine (AllReadyH.cons (o := _) rfl (fun K hK => ?_) AllReadyH.nil)
          go_simp
          refine hK.out _ _ (HS5.out _ hfin.out.2) (fun hHeld => ?_)
          clear hK K
          (try simp only [Act.put, List.setIfInBounds_toArray, List.set_cons_zero, List.set_cons_succ])
          refine wpAnyH_done (by kernel_rfl) ?_ _
          clear hup
          have hfi : Hid _ := HFIN.out _ _ _ hfin.out
          go_wp2_with fail
          go_ret2
          exact ⟨_, _, _, _, rfl, hfi.out.1, hfi.out.2⟩
      · go_simp
        refine hK.out _ _ (HS5.out _ (Fr.mono (Fr.alloc hhw6.out (.cells #[.int .i64 (nR : Int)] 3)) (fun _ _ h => h.elim))) (fun hHeld => ?_)
        clear hK K
        (try simp only [Act.put, List.setIfInBounds_toArray, List.set_cons_zero, List.set_cons_succ])
        refine wpAnyH_ready (rs := [11]) (by kernel_rfl) (by simp) ?_
        refine (AllReadyH.cons (o := _) rfl (fun K hK => ?_) AllReadyH.nil)
        go_simp
        refine (sizeOf_any (x : Int) (y : Int) (.slice (some ⟨b0, off, none⟩) nl cap) _).mono ?_
        rintro e w7 ⟨rfl, hfw7⟩
        have hgw7 : Hid (Fr (fun _ => False) (World.alloc w6 (.cells #[.int .i64 (nR : Int)] 3)) w7) := hfw7
        have hhw7 : Hid (Fr (fun _ => False) wc w7) := Fr.trans (Fr.alloc hhw6.out (.cells #[.int .i64 (nR : Int)] 3)) hfw7 (fun _ _ h => h)
        clear hfw7
        go_simp
        refine hK.out _ _ (HS5.out _ (Fr.mono hhw7.out (fun _ _ h => h.elim))) (fun hHeld => ?_)
        clear hK K
        (try simp only [Act.put, List.setIfInBounds_toArray, List.set_cons_zero, List.set_cons_succ])
        refine wpAnyH_ready (rs := [12]) (by kernel_rfl) (by simp) ?_
        refine (AllReadyH.cons (o := _) rfl (fun K hK => ?_) AllReadyH.nil)
        have hlk := HLK.out _ hhw7.out
        go_simp
        clear hlk
        refine hK.out _ _ (HS5.out _ (Fr.mono hhw7.out (fun _ _ h => h.elim))) (fun hHeld => ?_)
        clear hK K
        (try simp only [Act.put, List.setIfInBounds_toArray, List.set_cons_zero, List.set_cons_succ])
        refine wpAnyH_ready (rs := [15]) (by kernel_rfl) (by simp) ?_
        refine (AllReadyH.cons (o := _) rfl (fun K hK => ?_) AllReadyH.nil)
        refine step_append_lies _ (by rfl) _ _ _ (by rfl) 0 3 j0 (.int .i64 0) 1 8 Try.underlying31 hj hy0 hy1 hy2 rfl (by decide) vv n xs (by rfl) (HVO.out _ hhw7.out) ⟨(World.heap w6).size, 0, none⟩ 1 1 [.int .i64 (nR : Int)] (by rfl) rfl (one_later (Fr.trans (Fr.refl (fun _ => False) (World.alloc w6 (.cells #[.int .i64 (nR : Int)] 3))) hgw7.out (fun _ _ h => h))) (by intro u hu; simp at hu; subst hu; rfl) (by decide) (by unfold maxLen; omega) (by omega) (Nat.zero_le _) (World.heap w7).size rfl ?_
        intro g8 cap8 w8 hown8 hgrow8 hat8 hlt8
        have hk8 : Hid (Fr (fun k => k = bm ∨ vv.ownBlock = some k) wc w8) := HFG.out _ w8 hhw7.out hgrow8
        obtain ⟨w9, hup, hom9, hg9⟩ := HUP.out _ w8 (.slice (some ⟨g8, 0, none⟩) (n + 1) cap8) hhw7.out hgrow8
        have hfin : Hid _ := HSTM.out _ w8 w9 g8 cap8 hhw7.out hown8 hgrow8 (by rcases hat8 with h | h; exact Or.inl h; exact Or.inr (Nat.le_of_eq h.symm)) hom9 hg9
        clear hown8 hgrow8 hat8 hlt8 hom9 hg9
        refine hK.out _ _ (HS5.out _ hk8.out) (fun hHeld => ?_)
        clear hK K
        (try simp only [Act.put, List.setIfInBounds_toArray, List.set_cons_zero, List.set_cons_succ])
        refine wpAnyH_ready (rs := [16]) (by kernel_rfl) (by simp) ?_
        refine (AllReadyH.cons (o := _) rfl (fun K hK => ?_) AllReadyH.nil)
        go_simp
        refine hK.out _ _ (HS5.out _ hfin.out.2) (fun hHeld => ?_)
        clear hK K
        (try simp only [Act.put, List.setIfInBounds_toArray, List.set_cons_zero, List.set_cons_succ])
        refine wpAnyH_done (by kernel_rfl) ?_ _
        clear hup
        have hfi : Hid _ := HFIN.out _ _ _ hfin.out
        go_wp2_with fail
        go_ret2
        exact ⟨_, _, _, _, rfl, hfi.out.1, hfi.out.2⟩
    · go_simp
      refine hK.out _ _ (HS5.out _ (Fr.mono (Fr.alloc (Fr.drew (Fr.refl (fun _ => False) wc)) (.cells #[.int .i64 (nR : Int)] 3)) (fun _ _ h => h.elim))) (fun hHeld => ?_)
      clear hK K
      (try simp only [Act.put, List.setIfInBounds_toArray, List.set_cons_zero, List.set_cons_succ])
      refine wpAnyH_ready (rs := [5]) (by kernel_rfl) (by simp) ?_
      refine (AllReadyH.cons (o := _) rfl (fun K hK => ?_) AllReadyH.nil)
      go_simp
      refine (sizeOf_any (x : Int) (y : Int) (.slice (some ⟨b0, off, none⟩) nl cap) _).mono ?_
      rintro e w6 ⟨rfl, hfw6⟩
      have hgw6 : Hid (Fr (fun _ => False) (World.alloc wc.drew (.cells #[.int .i64 (nR : Int)] 3)) w6) := hfw6
      have hhw6 : Hid (Fr (fun _ => False) wc w6) := Fr.trans (Fr.alloc (Fr.drew (Fr.refl (fun _ => False) wc)) (.cells #[.int .i64 (nR : Int)] 3)) hfw6 (fun _ _ h => h)
      clear hfw6
      go_simp
      refine hK.out _ _ (HS5.out _ (Fr.mono hhw6.out (fun _ _ h => h.elim))) (fun hHeld => ?_)
      clear hK K
      (try simp only [Act.put, List.setIfInBounds_toArray, List.set_cons_zero, List.set_cons_succ])
      refine wpAnyH_ready (rs := [11]) (by kernel_rfl) (by simp) ?_
      refine (AllReadyH.cons (o := _) rfl (fun K hK => ?_) AllReadyH.nil)
      go_simp
      refine (sizeOf_any (x : Int) (y : Int) (.slice (some ⟨b0, off, none⟩) nl cap) _).mono ?_
      rintro e w7 ⟨rfl, hfw7⟩
      have hgw7 : Hid (Fr (fun _ => False) w6 w7) := hfw7
      have hhw7 : Hid (Fr (fun _ => False) wc w7) := Fr.trans hhw6.out hfw7 (fun _ _ h => h)
      clear hfw7
      go_simp
      refine hK.out _ _ (HS5.out _ (Fr.mono hhw7.out (fun _ _ h => h.elim))) (fun hHeld => ?_)
      clear hK K
      (try simp only [Act.put, List.setIfInBounds_toArray, List.set_cons_zero, List.set_cons_succ])
      refine wpAnyH_ready (rs := [12]) (by kernel_rfl) (by simp) ?_
      refine (AllReadyH.cons (o := _) rfl (fun K hK => ?_) AllReadyH.nil)
      have hlk := HLK.out _ hhw7.out
      go_simp
      clear hlk
      refine hK.out _ _ (HS5.out _ (Fr.mono hhw7.out (fun _ _ h => h.elim))) (fun hHeld => ?_)
      clear hK K
      (try simp only [Act.put, List.setIfInBounds_toArray, List.set_cons_zero, List.set_cons_succ])
      refine wpAnyH_ready (rs := [15]) (by kernel_rfl) (by simp) ?_
      refine (AllReadyH.cons (o := _) rfl (fun K hK => ?_) AllReadyH.nil)
      refine step_append_lies _ (by rfl) _ _ _ (by rfl) 0 3 j0 (.int .i64 0) 1 8 Try.underlying31 hj hy0 hy1 hy2 rfl (by decide) vv n xs (by rfl) (HVO.out _ hhw7.out) ⟨(World.heap wc.drew).size, 0, none⟩ 1 1 [.int .i64 (nR : Int)] (by rfl) rfl (one_later (Fr.trans (Fr.trans (Fr.refl (fun _ => False) (World.alloc wc.drew (.cells #[.int .i64 (nR : Int)] 3))) hgw6.out (fun _ _ h => h)) hgw7.out (fun _ _ h => h))) (by intro u hu; simp at hu; subst hu; rfl) (by decide) (by unfold maxLen; omega) (by omega) (Nat.zero_le _) (World.heap w7).size rfl ?_
      intro g8 cap8 w8 hown8 hgrow8 hat8 hlt8
      have hk8 : Hid (Fr (fun k => k = bm ∨ vv.ownBlock = some k) wc w8) := HFG.out _ w8 hhw7.out hgrow8
      obtain ⟨w9, hup, hom9, hg9⟩ := HUP.out _ w8 (.slice (some ⟨g8, 0, none⟩) (n + 1) cap8) hhw7.out hgrow8
      have hfin : Hid _ := HSTM.out _ w8 w9 g8 cap8 hhw7.out hown8 hgrow8 (by rcases hat8 with h | h; exact Or.inl h; exact Or.inr (Nat.le_of_eq h.symm)) hom9 hg9
      clear hown8 hgrow8 hat8 hlt8 hom9 hg9
      refine hK.out _ _ (HS5.out _ hk8.out) (fun hHeld => ?_)
      clear hK K
      (try simp only [Act.put, List.setIfInBounds_toArray, List.set_cons_zero, List.set_cons_succ])
      refine wpAnyH_ready (rs := [16]) (by kernel_rfl) (by simp) ?_
      refine (AllReadyH.cons (o := _) rfl (fun K hK => ?_) AllReadyH.nil)
      go_simp
      refine hK.out _ _ (HS5.out _ hfin.out.2) (fun hHeld => ?_)
      clear hK K
      (try simp only [Act.put, List.setIfInBounds_toArray, List.set_cons_zero, List.set_cons_succ])
      refine wpAnyH_done (by kernel_rfl) ?_ _
      clear hup
      have hfi : Hid _ := HFIN.out _ _ _ hfin.out
      go_wp2_with fail
      go_ret2
      exact ⟨_, _, _, _, rfl, hfi.out.1, hfi.out.2⟩
end Go.Proofs.Ytodgdbbhllejkaa
