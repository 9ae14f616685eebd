/- 'DocUndo' returns true. -/
import Derived.Test.YtpblenebmjmijaaFg
import Derived.Deep.CutBlock
namespace Go.Proofs.Ytpblenebmjmijaa
set_option maxRecDepth 100000
open Go.RowKit

/-- What is done, as it is handed in. -/
structure Opx where
  D : Int
  N : Nat → Int
  m0 : Int
  m1 : Int
  m2 : Int
  m3 : Int
  fl : Nat
  r : Bool
  t : Int
def opxCells (o : Opx) : List Value := [.int .i64 o.D, .int .i64 (o.N 0), .int .i64 (o.N 1), .int .i64 (o.N 2), .int .i64 (o.N 3), .int .i64 (o.N 4), .int .i64 (o.N 5), .int .i64 (o.N 6), .int .i64 (o.N 7), .int .i64 (o.N 8), .int .i64 o.m0, .int .i64 o.m1, .int .i64 o.m2, .int .i64 o.m3, .float .f64 o.fl, .bool o.r, .int .u64 o.t]
structure OpsAt (w : World) (ao : Option Addr) (n : Nat) (X : Nat → Opx) : Prop where
  len : n ≤ 9223372036854775807
  cells : 0 < n → ∃ b off, ao = some ⟨b, off, none⟩ ∧ ∀ j, j < n → ∀ c v, (opxCells (X j))[c]? = some v → w.cell? ⟨b, off + j * 17 + c, none⟩ = some v
  bound : ∀ j, j < n → I64 (X j).D ∧ ∀ c, c < 9 → I64 ((X j).N c)
theorem cell_lt {w : World} {b o : Nat} {v : Value} (h : w.cell? ⟨b, o, none⟩ = some v) : b < w.heap.size := by
  unfold World.cell? at h
  rcases Nat.lt_or_ge b w.heap.size with h1 | h1
  · exact h1
  · rw [Array.getElem?_eq_none h1] at h; simp at h

theorem opx_cells {w : World} {b p : Nat} {o : Opx} (h : ∀ c v, (opxCells o)[c]? = some v → w.cell? ⟨b, p + c, none⟩ = some v) :
    w.cell? ⟨b, p, none⟩ = some (.int .i64 o.D) ∧ w.cell? ⟨b, p + 1, none⟩ = some (.int .i64 (o.N 0)) ∧ w.cell? ⟨b, p + 2, none⟩ = some (.int .i64 (o.N 1)) ∧ w.cell? ⟨b, p + 3, none⟩ = some (.int .i64 (o.N 2)) ∧ w.cell? ⟨b, p + 4, none⟩ = some (.int .i64 (o.N 3)) ∧ w.cell? ⟨b, p + 5, none⟩ = some (.int .i64 (o.N 4)) ∧ w.cell? ⟨b, p + 6, none⟩ = some (.int .i64 (o.N 5)) ∧ w.cell? ⟨b, p + 7, none⟩ = some (.int .i64 (o.N 6)) ∧ w.cell? ⟨b, p + 8, none⟩ = some (.int .i64 (o.N 7)) ∧ w.cell? ⟨b, p + 9, none⟩ = some (.int .i64 (o.N 8)) ∧ w.cell? ⟨b, p + 10, none⟩ = some (.int .i64 o.m0) ∧ w.cell? ⟨b, p + 11, none⟩ = some (.int .i64 o.m1) ∧ w.cell? ⟨b, p + 12, none⟩ = some (.int .i64 o.m2) ∧ w.cell? ⟨b, p + 13, none⟩ = some (.int .i64 o.m3) ∧ w.cell? ⟨b, p + 14, none⟩ = some (.float .f64 o.fl) ∧ w.cell? ⟨b, p + 15, none⟩ = some (.bool o.r) ∧ w.cell? ⟨b, p + 16, none⟩ = some (.int .u64 o.t) :=
  ⟨h 0 _ rfl, h 1 _ rfl, h 2 _ rfl, h 3 _ rfl, h 4 _ rfl, h 5 _ rfl, h 6 _ rfl, h 7 _ rfl, h 8 _ rfl, h 9 _ rfl, h 10 _ rfl, h 11 _ rfl, h 12 _ rfl, h 13 _ rfl, h 14 _ rfl, h 15 _ rfl, h 16 _ rfl⟩

@[go_sem] theorem run_store_float {P : Program} {w : World} {a : Addr} {m : Mode} (k : FloatKind) (x : Nat) : (store a (.float k x) m).run P w = stored P w a (.float k x) m := run_store P w a _ m rfl

theorem Try.infoLs : (Try.prog.info? 35).map (fun i => (i.zero, i.size, i.bytes)) = some (some (.slice none 0 0), 1, 24) := by kernel_rfl

theorem cell_of_head {w : World} {b : Nat} {x : Value} {xs : List Value} {t : TypeId} (h : w.heap[b]? = some (.cells (x :: xs).toArray t (0, 0))) : w.cell? ⟨b, 0, none⟩ = some x := by
  unfold World.cell?; simp only [h]; rfl
theorem nine_cells {w : World} {b : Nat} {v0 v1 v2 v3 v4 v5 v6 v7 v8 : Value} {t : TypeId} (h : w.heap[b]? = some (.cells #[v0, v1, v2, v3, v4, v5, v6, v7, v8] t (0, 0))) :
    w.cell? ⟨b, 0, none⟩ = some v0 ∧ w.cell? ⟨b, 1, none⟩ = some v1 ∧ w.cell? ⟨b, 2, none⟩ = some v2 ∧ w.cell? ⟨b, 3, none⟩ = some v3 ∧ w.cell? ⟨b, 4, none⟩ = some v4 ∧ w.cell? ⟨b, 5, none⟩ = some v5 ∧ w.cell? ⟨b, 6, none⟩ = some v6 ∧ w.cell? ⟨b, 7, none⟩ = some v7 ∧ w.cell? ⟨b, 8, none⟩ = some v8 := by
  refine ⟨?_, ?_, ?_, ?_, ?_, ?_, ?_, ?_, ?_⟩ <;> (unfold World.cell?; simp only [h]; rfl)
def rowL (bl : Nat → Value) (N : Nat) : List Value := (List.range N).map bl
theorem rowL_next (bl : Nat → Value) (N : Nat) (v : Value) : rowL (fun i => if i = N then v else bl i) (N + 1) = rowL bl N ++ [v] := by
  unfold rowL
  rw [List.range_succ, List.map_append]
  congr 1
  · apply List.map_congr_left
    intro i hi
    rw [if_neg (by have := List.mem_range.mp hi; omega)]
  · simp

theorem row_slice {w : World} {b e size n : Nat} {v : Value} {xs : List Value} (h : w.ownsRow b e size v n xs) : ∃ ao cap, v = .slice ao n cap := by
  rcases h.2 with ⟨h1, h2⟩ | ⟨g, cap, cur, h1, _⟩
  · subst h2; exact ⟨none, 0, h1⟩
  · exact ⟨_, _, h1⟩
theorem row_block {w : World} {b e size n g cap : Nat} {xs : List Value} (h : w.ownsRow b e size (.slice (some ⟨g, 0, none⟩) n cap) n xs) : g < w.heap.size := by
  rcases h.2 with ⟨h1, _⟩ | ⟨g', cap', cur, h1, _, hg, _⟩
  · cases h1
  · simp only [Value.slice.injEq, Option.some.injEq, Addr.mk.injEq, true_and, and_true] at h1
    obtain ⟨rfl, _⟩ := h1
    exact lt_of_block hg
theorem row_shrink {w : World} {b e g n k cap : Nat} {xs : List Value} (h : w.ownsRow b e 1 (.slice (some ⟨g, 0, none⟩) n cap) n xs) (hk : k ≤ n) : w.ownsRow b e 1 (.slice (some ⟨g, 0, none⟩) k cap) k (xs.take k) := by
  obtain ⟨h1, h2⟩ := h
  refine ⟨by rw [List.length_take]; omega, ?_⟩
  rcases h2 with ⟨e, _⟩ | ⟨g', cap', cur, hv, hb, hg, hc, hm, hs, ht⟩
  · cases e
  · simp only [Value.slice.injEq, Option.some.injEq, Addr.mk.injEq, true_and, and_true] at hv
    obtain ⟨rfl, rfl⟩ := hv
    refine Or.inr ⟨g, cap, cur, rfl, hb, hg, by omega, hm, hs, ?_⟩
    rw [← ht, List.take_take]
    congr 1; omega
theorem rowL_take (bl : Nat → Value) (N : Nat) : (rowL bl (N + 1)).take N = rowL bl N := by
  unfold rowL
  rw [List.range_succ, List.map_append, List.take_append_of_le_length (by simp)]
  rw [List.take_of_length_le (by simp)]
theorem rowL_get (bl : Nat → Value) (N : Nat) : (rowL bl (N + 1))[N]? = some (bl N) := by
  unfold rowL
  rw [List.getElem?_map, List.getElem?_range (by omega)]; rfl

/-- What stands behind i of the steps. -/
structure Ph (w1 wr : World) (d N : Nat) (pgs : List PgI) (Pf : Pix3) (pv sv bv : Value) (ss : List Value) (sb : Nat → Nat × Pix3) (bl : Nat → Value) : Prop where
  core : Core w1 wr d pgs Pf pv sv ss N sb bl bv.ownBlock
  row : wr.ownsRow 0 35 1 bv N (rowL bl N)
  full : ss.length = min N 64
theorem Ph.still {w1 w w' : World} {d N : Nat} {pgs : List PgI} {Pf : Pix3} {pv sv bv : Value} {ss : List Value} {sb : Nat → Nat × Pix3} {bl : Nat → Value} (h : Ph w1 w d N pgs Pf pv sv bv ss sb bl) (f : Fr (fun _ => False) w w') : Ph w1 w' d N pgs Pf pv sv bv ss sb bl :=
  ⟨h.core.still f, row_kept h.row f (fun _ _ h => h), h.full⟩

set_option maxHeartbeats 16000000 in
theorem docUndo_any (ao : Option Addr) (n ca : Nat) (X : Nat → Opx) (w : World) (hx : OpsAt w ao n X) :
    Calls Try.prog 3 #[.agg #[.slice ao n ca]] w fun e w' => e = .returned (.bool true) ∧ Fr (fun _ => False) w w' := by
  obtain ⟨i0, hi, hz0, hz1, hz2⟩ := info_parts Try.infoLs
  have HX : Hid (OpsAt w ao n X) := hx
  have hn1 := hx.len
  clear hx
  go_enter Try.func3, Try.ntmps3
  go_wp2_with fail
  refine (docNew_any _).mono ?_
  rintro e w1 ⟨rfl, hw1⟩
  have HP0 : Hid (Ph w1 w1 (w.heap.size + 1) 0 [] (fun _ _ _ => false) (.slice none 0 0) (.slice none 0 0) (.slice none 0 0) [] (fun _ => (0, fun _ _ _ => false)) (fun _ => .nilFunc)) := by
    have h := DocAt.new (w.alloc (.cells #[.slice ao n ca] 24))
    rw [World.size_alloc, ← hw1] at h
    refine ⟨⟨⟨h, by simp, by simp, fun _ h => by simp at h, fun j p h => by simp at h, fun i j p q h => by simp at h, fun j p h => by simp at h, Fr.refl _ _⟩, by simp, fun i j _ _ => Nat.le_refl _, fun i v h => by simp at h, fun i h => by omega, rfl, fun k hk => by simp [Value.ownBlock] at hk⟩, World.ownsRow_nil _ _ _ _, rfl⟩
  have HF1 : Hid (Fr (fun _ => False) w w1) := by rw [hw1]; exact ((Fr.refl _ _).alloc _).alloc _
  have HB1 : Hid (w1.heap[w.heap.size]? = some (.cells #[.slice ao n ca] 24 (0, 0))) := by
    show _ = _
    rw [hw1]; exact heap_alloc2_old w _ _
  rw [World.size_alloc]
  clear hw1
  obtain ⟨d, HDD⟩ : ∃ d, Hid (d = w.heap.size + 1) := ⟨_, rfl⟩
  rw [← HDD.out] at HP0 ⊢
  go_wp2_with fail
  go_loopw [4, 5] (fun bk iv wr => ∃ (i N : Nat) (pgs : List PgI) (Pf : Pix3) (pv sv : Value) (ss : List Value) (sb : Nat → Nat × Pix3) (bl : Nat → Value), i ≤ n ∧ i ≤ 90 ∧ N ≤ i ∧ iv = .int .i64 i ∧ Ph w1 wr d N pgs Pf pv sv bk ss sb bl) (fun _ iv _ => 90 - (intOf iv).toNat)
  case atStart => exact ⟨0, 0, _, _, _, _, _, _, _, by omega, by omega, by omega, rfl, HP0.out⟩
  case round =>
    obtain ⟨i, N, pgs, Pf, pv, sv, ss, sb, bl, hi1, hi2, hi3, rfl, hph⟩ := hrel
    have HPH : Hid (Ph w1 wr d N pgs Pf pv sv u4 ss sb bl) := hph
    have hB : wr.heap[w.heap.size]? = some (.cells #[.slice ao n ca] 24 (0, 0)) := by
      rw [hph.core.du.fr.block w.heap.size (lt_of_block HB1.out) (fun hh => by have := HDD.out; omega)]; exact HB1.out
    have c0 := cell_of_one hB
    clear hph hB
    go_upto_region 6 with (fail)
    go_cut [22] from 14 to 21 (fun u22 wc => wc = wr ∧ ∃ bb : Bool, (bb = true ↔ i < n ∧ i < 90) ∧ u22 = .bool bb)
    case first =>
      by_cases h1 : i < n
      · by_cases h2 : i < 90
        · have e2 : decide ((i : Int) < 90) = true := decide_eq_true (by omega)
          go_wp2_with fail
          go_meet
          exact ⟨rfl, true, ⟨fun _ => ⟨h1, h2⟩, fun _ => rfl⟩, rfl⟩
        · have e2 : decide ((i : Int) < 90) = false := decide_eq_false (by omega)
          go_wp2_with fail
          go_meet
          exact ⟨rfl, false, ⟨fun e => (Bool.noConfusion e), fun e => absurd e.2 h2⟩, rfl⟩
      · go_wp2_with fail
        go_meet
        exact ⟨rfl, false, ⟨fun e => (Bool.noConfusion e), fun e => absurd e.1 h1⟩, rfl⟩
    case' rest => obtain ⟨rfl, bb, hbb, rfl⟩ := hcut
    generalize wc = wr at *
    cases bb with
    | true =>
      obtain ⟨hl1, hl2⟩ := hbb.mp rfl
      clear hbb
      obtain ⟨b, off, rfl, hcc⟩ := HX.out.cells (by omega)
      have hxb := HX.out.bound i hl1
      have hold : ∀ c v, (opxCells (X i))[c]? = some v → wr.cell? ⟨b, off + i * 17 + c, none⟩ = some v := fun c v hv => by
        have h := hcc i hl1 c v hv
        have hb := cell_lt h
        rw [HPH.out.core.du.fr.cell (Nat.lt_of_lt_of_le hb HF1.out.size) (fun hh => by have := HDD.out; omega), HF1.out.cell hb (fun hh => hh)]; exact h
      clear hcc
      generalize X i = o at hxb hold
      have HXB : Hid (I64 o.D ∧ ∀ c, c < 9 → I64 (o.N c)) := hxb
      obtain ⟨k0, k1, k2, k3, k4, k5, k6, k7, k8, k9, k10, k11, k12, k13, k14, k15, k16⟩ := opx_cells hold
      clear hold hxb
      go_upto_region 10 with (fail)
      clear k0 k1 k2 k3 k4 k5 k6 k7 k8 k9 k10 k11 k12 k13 k14 k15 k16 c0
      have HFQ : Hid (Fr (fun _ => False) wr ((wr.alloc (.cells #[.int .i64 o.D, .int .i64 (o.N 0), .int .i64 (o.N 1), .int .i64 (o.N 2), .int .i64 (o.N 3), .int .i64 (o.N 4), .int .i64 (o.N 5), .int .i64 (o.N 6), .int .i64 (o.N 7), .int .i64 (o.N 8), .int .i64 o.m0, .int .i64 o.m1, .int .i64 o.m2, .int .i64 o.m3, .float .f64 o.fl, .bool o.r, .int .u64 o.t] 34)).alloc (.cells #[.int .i64 (o.N 0), .int .i64 (o.N 1), .int .i64 (o.N 2), .int .i64 (o.N 3), .int .i64 (o.N 4), .int .i64 (o.N 5), .int .i64 (o.N 6), .int .i64 (o.N 7), .int .i64 (o.N 8)] 28))) := (((Fr.refl _ _).alloc _).alloc _)
      have HQ0 : Hid (((wr.alloc (.cells #[.int .i64 o.D, .int .i64 (o.N 0), .int .i64 (o.N 1), .int .i64 (o.N 2), .int .i64 (o.N 3), .int .i64 (o.N 4), .int .i64 (o.N 5), .int .i64 (o.N 6), .int .i64 (o.N 7), .int .i64 (o.N 8), .int .i64 o.m0, .int .i64 o.m1, .int .i64 o.m2, .int .i64 o.m3, .float .f64 o.fl, .bool o.r, .int .u64 o.t] 34)).alloc (.cells #[.int .i64 (o.N 0), .int .i64 (o.N 1), .int .i64 (o.N 2), .int .i64 (o.N 3), .int .i64 (o.N 4), .int .i64 (o.N 5), .int .i64 (o.N 6), .int .i64 (o.N 7), .int .i64 (o.N 8)] 28)).heap[wr.heap.size]? = some (.cells #[.int .i64 o.D, .int .i64 (o.N 0), .int .i64 (o.N 1), .int .i64 (o.N 2), .int .i64 (o.N 3), .int .i64 (o.N 4), .int .i64 (o.N 5), .int .i64 (o.N 6), .int .i64 (o.N 7), .int .i64 (o.N 8), .int .i64 o.m0, .int .i64 o.m1, .int .i64 o.m2, .int .i64 o.m3, .float .f64 o.fl, .bool o.r, .int .u64 o.t] 34 (0, 0))) := by
        show _ = _
        exact heap_alloc2_old wr _ _
      have HQ1 : Hid (((wr.alloc (.cells #[.int .i64 o.D, .int .i64 (o.N 0), .int .i64 (o.N 1), .int .i64 (o.N 2), .int .i64 (o.N 3), .int .i64 (o.N 4), .int .i64 (o.N 5), .int .i64 (o.N 6), .int .i64 (o.N 7), .int .i64 (o.N 8), .int .i64 o.m0, .int .i64 o.m1, .int .i64 o.m2, .int .i64 o.m3, .float .f64 o.fl, .bool o.r, .int .u64 o.t] 34)).alloc (.cells #[.int .i64 (o.N 0), .int .i64 (o.N 1), .int .i64 (o.N 2), .int .i64 (o.N 3), .int .i64 (o.N 4), .int .i64 (o.N 5), .int .i64 (o.N 6), .int .i64 (o.N 7), .int .i64 (o.N 8)] 28)).heap[wr.heap.size + 1]? = some (.cells #[.int .i64 (o.N 0), .int .i64 (o.N 1), .int .i64 (o.N 2), .int .i64 (o.N 3), .int .i64 (o.N 4), .int .i64 (o.N 5), .int .i64 (o.N 6), .int .i64 (o.N 7), .int .i64 (o.N 8)] 28 (0, 0))) := by
        show _ = _
        have h := heap_alloc_new (wr.alloc (.cells #[.int .i64 o.D, .int .i64 (o.N 0), .int .i64 (o.N 1), .int .i64 (o.N 2), .int .i64 (o.N 3), .int .i64 (o.N 4), .int .i64 (o.N 5), .int .i64 (o.N 6), .int .i64 (o.N 7), .int .i64 (o.N 8), .int .i64 o.m0, .int .i64 o.m1, .int .i64 o.m2, .int .i64 o.m3, .float .f64 o.fl, .bool o.r, .int .u64 o.t] 34)) (.cells #[.int .i64 (o.N 0), .int .i64 (o.N 1), .int .i64 (o.N 2), .int .i64 (o.N 3), .int .i64 (o.N 4), .int .i64 (o.N 5), .int .i64 (o.N 6), .int .i64 (o.N 7), .int .i64 (o.N 8)] 28)
        rw [World.size_alloc] at h
        exact h
      obtain ⟨wq, HWQ⟩ : ∃ wq, Hid (wq = (wr.alloc (.cells #[.int .i64 o.D, .int .i64 (o.N 0), .int .i64 (o.N 1), .int .i64 (o.N 2), .int .i64 (o.N 3), .int .i64 (o.N 4), .int .i64 (o.N 5), .int .i64 (o.N 6), .int .i64 (o.N 7), .int .i64 (o.N 8), .int .i64 o.m0, .int .i64 o.m1, .int .i64 o.m2, .int .i64 o.m3, .float .f64 o.fl, .bool o.r, .int .u64 o.t] 34)).alloc (.cells #[.int .i64 (o.N 0), .int .i64 (o.N 1), .int .i64 (o.N 2), .int .i64 (o.N 3), .int .i64 (o.N 4), .int .i64 (o.N 5), .int .i64 (o.N 6), .int .i64 (o.N 7), .int .i64 (o.N 8)] 28)) := ⟨_, by show _ = _; rfl⟩
      rw [← HWQ.out] at HFQ HQ0 HQ1 ⊢
      clear HWQ
      have HPQ : Hid (Ph w1 wq d N pgs Pf pv sv u4 ss sb bl) := HPH.out.still HFQ.out
      go_wp2_with fail
      refine (pagesOf_any HPQ.out.core.du).mono ?_
      rintro e wp ⟨vw, rfl, hfp, hbl⟩
      have HBL : Hid (BL wp (Aw d pv sv pgs u4.ownBlock) vw pgs Pf) := hbl _ (fun k hk => Aw.lt HPQ.out.core k hk)
      have HPP : Hid (Ph w1 wp d N pgs Pf pv sv u4 ss sb bl) := HPQ.out.still hfp
      have kd := cell_of_head ((hfp.block _ (lt_of_block HQ0.out) (fun hh => hh)).trans HQ0.out)
      obtain ⟨n0, n1, n2, n3, n4, n5, n6, n7, n8⟩ := nine_cells ((hfp.block _ (lt_of_block HQ1.out) (fun hh => hh)).trans HQ1.out)
      clear hfp hbl HQ0 HQ1 HFQ HPQ HPH
      go_upto_region 11 with (fail)
      have hx0 := HXB.out.2 0 (by omega)
      have hx1 := HXB.out.2 1 (by omega)
      unfold I64 at hx0 hx1
      go_cut [55] from 25 to 54 (fun u55 wc => wc = wp ∧ ∃ bb : Bool, u55 = .bool bb)
      case first =>
        by_cases hd0 : Hid (o.D = 0)
        · have ed0 : (o.D == 0) = true := by simp [hd0.out]
          have ed1 : decide (o.D = 0) = true := decide_eq_true hd0.out
          go_wp2_with fail
          refine (zSize_any _ _ _ hx0 hx1).mono ?_
          rintro e wy ⟨rfl, rfl⟩
          cases hsz : sizeOK (o.N 0) (o.N 1) with
          | false =>
            go_wp2_with fail
            go_meet
            exact ⟨rfl, _, rfl⟩
          | true =>
            go_wp2_with fail
            go_meet
            exact ⟨rfl, _, rfl⟩
        · have hd0' : ¬ o.D = 0 := fun e => hd0 e
          have ed0 : (o.D == 0) = false := by simp [hd0']
          go_wp2_with fail
          go_meet
          exact ⟨rfl, _, rfl⟩
      case' rest => obtain ⟨rfl, bb, rfl⟩ := hcut
      generalize wc = wv at *
      clear hx0 hx1
      go_upto_if 55 with (fail)
      cases bb with
      | true =>
        go_wp2_with fail
        case roundEnd => exact ⟨⟨i + 1, N, pgs, Pf, pv, sv, ss, sb, bl, by omega, by omega, by omega, by simp, HPP.out⟩, by simp [intOf]; omega⟩
      | false =>
        go_upto_block 2 with (fail)
        go_cut [9] from 56 to 119 (fun u9 wz => ∃ c : Int, u9 = .int .i64 c ∧ OpP w1 wv wz d pgs Pf pv sv ss c)
        case first =>
          by_cases hd0 : o.D = 0
          · go_wp2_with fail
            refine (pages_any d d pv sv _ ss _ HPP.out.core.du.doc).mono ?_
            rintro e wy ⟨rfl, rfl⟩
            rw [ptrs_len]
            by_cases h6 : pgs.length < 6
            · go_wp2_with fail
              refine (page_step HPP.out.core.du (by omega) _ _ (HXB.out.2 0 (by omega)) (HXB.out.2 1 (by omega))).mono ?_
              rintro e wz ⟨m, c, rfl, hz⟩
              go_wp2_with fail
              go_meet
              exact ⟨c, rfl, hz⟩
            · go_wp2_with fail
              go_meet
              exact ⟨181, rfl, Or.inl ⟨by omega, Fr.refl _ _⟩⟩
          · by_cases hd1 : o.D = 1
            · go_wp2_with fail
              refine (set_step HPP.out.core.du _ _ _ _).mono ?_
              rintro e wz ⟨c, rfl, hz⟩
              go_wp2_with fail
              go_meet
              exact ⟨c, rfl, hz⟩
            · by_cases hd2 : o.D = 2
              · go_wp2_with fail
                refine (fill_step HPP.out.core.du _ _ _ _ _ _ (HXB.out.2 1 (by omega)) (HXB.out.2 2 (by omega)) (HXB.out.2 3 (by omega)) (HXB.out.2 4 (by omega))).mono ?_
                rintro e wz ⟨c, rfl, hz⟩
                go_wp2_with fail
                go_meet
                exact ⟨c, rfl, hz⟩
              · go_wp2_with fail
                refine (blit_step HPP.out.core.du _ _ _ _ _ _ _ _ _ (HXB.out.2 1 (by omega)) (HXB.out.2 2 (by omega)) (HXB.out.2 3 (by omega)) (HXB.out.2 4 (by omega)) (HXB.out.2 6 (by omega)) (HXB.out.2 7 (by omega))).mono ?_
                rintro e wz ⟨c, rfl, hz⟩
                go_wp2_with fail
                go_meet
                exact ⟨c, rfl, hz⟩
        case' rest => obtain ⟨c, rfl, hz⟩ := hcut
        rcases hz with ⟨hc0, hf⟩ | ⟨rfl, pgs', Pf', pv', sv', f, hdu, hhs, hfr, hav, r, hr⟩
        · have HPR : Hid (Ph w1 wc d N pgs Pf pv sv u4 ss sb bl) := HPP.out.still hf
          have HBR : Hid (BL wc (fun _ => False) vw pgs Pf) := HBL.out.kept hf (fun _ e => e.elim) (fun _ _ e => e.elim)
          have ec : (c == 0) = false := by simp [hc0]
          clear hf kd n0 n1 n2 n3 n4 n5 n6 n7 n8
          go_wp2_with fail
          refine (same_yes HPR.out.core.du HBR.out (fun _ _ _ _ _ _ _ => rfl)).mono ?_
          rintro e wx ⟨rfl, hfx⟩
          have HPX : Hid (Ph w1 wx d N pgs Pf pv sv u4 ss sb bl) := HPR.out.still hfx
          clear hfx
          go_wp2_with fail
          case roundEnd => exact ⟨⟨i + 1, N, pgs, Pf, pv, sv, ss, sb, bl, by omega, by omega, by omega, by simp, HPX.out⟩, by simp [intOf]; omega⟩
        · obtain ⟨aw, cw, hvw, _⟩ := HBL.out.sl
          subst hvw
          have HCR : Hid (Core w1 wc d pgs' Pf' pv' sv' (cut ss ++ [f]) (N + 1) (fun k => if k = N + 1 then (pgs'.length, Pf') else sb k) (fun k => if k = N then .slice aw pgs.length cw else bl k) u4.ownBlock) := HPP.out.core.push hdu hhs hfr hav hr HBL.out
          have HRR : Hid (wc.ownsRow 0 35 1 u4 N (rowL bl N)) := row_kept HPP.out.row hfr (fun k hk e => (HPP.out.core.own k hk).2.2 e)
          have HFU : Hid ((cut ss ++ [f]).length = min (N + 1) 64) := by
            show _ = _
            have := HPP.out.full
            unfold cut
            split
            · simp; omega
            · simp; omega
          clear hdu hhs hfr hav hr kd n0 n1 n2 n3 n4 n5 n6 n7 n8
          go_wp2_with (first | (at_builtin; refine wpList_append_row _ rfl _ _ 27 rfl 35 i0 (.slice none 0 0) 1 24 Try.underlying27 hi hz0 hz1 hz2 rfl (by decide) u4 N (rowL bl N) rfl (HRR.out.alloc _) ⟨wc.heap.size, 0, none⟩ 1 1 [.slice aw pgs.length cw] rfl rfl ?c1 ?c2 ?c3 ?c4 (by decide) ?_))
          case c1 => exact cell_one_new wc (.slice aw pgs.length cw) 35
          case c2 =>
            intro u hu
            simp only [List.mem_cons, List.not_mem_nil, or_false] at hu
            subst hu; rfl
          case c3 => unfold maxLen; omega
          case c4 => omega
          intro g' cap' w' ho hg hor hc hm
          have HPN : Hid (Ph w1 w' d (N + 1) pgs' Pf' pv' sv' (.slice (some ⟨g', 0, none⟩) (N + 1) cap') (cut ss ++ [f]) (fun k => if k = N + 1 then (pgs'.length, Pf') else sb k) (fun k => if k = N then .slice aw pgs.length cw else bl k)) := by
            refine ⟨HCR.out.grow (((Fr.refl (fun k => u4.ownBlock = some k) wc).alloc _).grown hg (fun k e _ => e)) (fun k hk => ?_), by rw [rowL_next]; exact ho, HFU.out⟩
            simp only [Value.ownBlock, Option.some.injEq] at hk
            subst hk
            refine ⟨hor.imp id (fun h => ?_), row_block ho⟩
            omega
          clear ho hg hor hc hm
          go_wp2_with fail
          case roundEnd => exact ⟨⟨i + 1, N + 1, pgs', Pf', pv', sv', cut ss ++ [f], _, _, by omega, by omega, by omega, by simp, HPN.out⟩, by simp [intOf]; omega⟩
    | false =>
      clear hbb
      obtain ⟨bo, bc, hub⟩ := row_slice HPH.out.row
      subst hub
      clear c0
      go_wp2_with fail
      go_loopw [4, 10] (fun bk jv wy => ∃ (j M : Nat) (pgs : List PgI) (Pf : Pix3) (pv sv : Value) (ss : List Value) (ao : Option Addr) (cap : Nat), j ≤ 64 ∧ jv = .int .i64 j ∧ M ≤ 90 ∧ bk = .slice ao M cap ∧ Core w1 wy d pgs Pf pv sv ss M sb bl (Value.slice ao M cap).ownBlock ∧ wy.ownsRow 0 35 1 (.slice ao M cap) M (rowL bl M) ∧ ss.length = min M (64 - j)) (fun _ jv _ => 64 - (intOf jv).toNat)
      case atStart => exact ⟨0, N, pgs, Pf, pv, sv, ss, _, _, by omega, rfl, by omega, rfl, HPH.out.core, HPH.out.row, HPH.out.full⟩
      case round =>
        obtain ⟨j, M, pgs2, Pf2, pv2, sv2, ss2, ao2, cap2, hj, rfl, hM, rfl, hcore, hrow, hfull⟩ := hrel
        have HC : Hid (Core w1 wr d pgs2 Pf2 pv2 sv2 ss2 M sb bl (Value.slice ao2 M cap2).ownBlock) := hcore
        have HR : Hid (wr.ownsRow 0 35 1 (.slice ao2 M cap2) M (rowL bl M)) := hrow
        have HFL : Hid (ss2.length = min M (64 - j)) := hfull
        clear hcore hrow hfull
        go_upto_region 27 with (fail)
        go_cut [136] from 130 to 135 (fun u136 wc => wc = wr ∧ ∃ bb : Bool, (bb = true ↔ j < 64 ∧ 0 < M) ∧ u136 = .bool bb)
        case first =>
          by_cases h1 : j < 64
          · have e1 : decide ((j : Int) < 64) = true := decide_eq_true (by omega)
            by_cases h2 : 0 < M
            · have e2 : decide (0 < (M : Int)) = true := decide_eq_true (by omega)
              go_wp2_with fail
              go_meet
              exact ⟨rfl, true, ⟨fun _ => ⟨h1, h2⟩, fun _ => rfl⟩, rfl⟩
            · have e2 : decide (0 < (M : Int)) = false := decide_eq_false (by omega)
              go_wp2_with fail
              go_meet
              exact ⟨rfl, false, ⟨fun e => (Bool.noConfusion e), fun e => absurd e.2 h2⟩, rfl⟩
          · have e1 : decide ((j : Int) < 64) = false := decide_eq_false (by omega)
            go_wp2_with fail
            go_meet
            exact ⟨rfl, false, ⟨fun e => (Bool.noConfusion e), fun e => absurd e.1 h1⟩, rfl⟩
        case' rest => obtain ⟨rfl, bb, hbb, rfl⟩ := hcut
        generalize wc = wr at *
        cases bb with
        | true =>
          obtain ⟨hl1, hl2⟩ := hbb.mp rfl
          clear hbb
          obtain ⟨M', rfl⟩ : ∃ M', M = M' + 1 := ⟨M - 1, by omega⟩
          obtain ⟨ss3, f, hs3⟩ : ∃ ss3 f, ss2 = ss3 ++ [f] := by
            rcases List.eq_nil_or_concat ss2 with h | ⟨a, b, h⟩
            · have := HFL.out; rw [h] at this; simp at this; omega
            · exact ⟨a, b, by rw [h]; simp⟩
          subst hs3
          obtain ⟨g, cap3, hg3, _, hcm, _⟩ := row_form HR.out (by omega)
          obtain ⟨rfl, rfl⟩ : ao2 = some ⟨g, 0, none⟩ ∧ cap2 = cap3 := by
            simp only [Value.slice.injEq, true_and] at hg3; exact hg3
          clear hg3
          go_wp2_with fail
          refine (undo_step HC.out.du HC.out.last).mono ?_
          rintro e wz ⟨rfl, pv3, sv3, hdu3, hfr3, hav3⟩
          have HC3 : Hid (Core w1 wz d (pgs2.take (sb M').1) (sb M').2 pv3 sv3 ss3 M' sb bl (Value.slice (some ⟨g, 0, none⟩) (M' + 1) cap2).ownBlock) := HC.out.pop hdu3 hfr3 hav3
          have HB3 : Hid (BL wz (fun _ => False) (bl M') (pgs2.take (sb M').1) (sb M').2) := (HC.out.ls M' (by omega)).kept hfr3 (fun k e => Or.inl e) (fun _ _ e => e.elim)
          have HR3 : Hid (wz.ownsRow 0 35 1 (.slice (some ⟨g, 0, none⟩) (M' + 1) cap2) (M' + 1) (rowL bl (M' + 1))) := row_kept HR.out hfr3 (fun k hk e => (HC.out.own k hk).2.2 e)
          have HFL3 : Hid (ss3.length = min M' (64 - (j + 1))) := by
            show _ = _
            have := HFL.out
            simp at this; omega
          clear hdu3 hfr3 hav3 HC HR HFL
          have kc : wz.cell? ⟨g, M', none⟩ = some (bl M') := by
            rw [HR3.out.cellAt M' (by omega)]; exact rowL_get bl M'
          generalize bl M' = bm at *
          go_wp2_with fail
          refine (same_yes HC3.out.du HB3.out (fun _ _ _ _ _ _ _ => rfl)).mono ?_
          rintro e wx ⟨rfl, hfx⟩
          have HC4 : Hid (Core w1 wx d (pgs2.take (sb M').1) (sb M').2 pv3 sv3 ss3 M' sb bl (Value.slice (some ⟨g, 0, none⟩) (M' + 1) cap2).ownBlock) := HC3.out.still hfx
          have HR4 : Hid (wx.ownsRow 0 35 1 (.slice (some ⟨g, 0, none⟩) M' cap2) M' (rowL bl M')) := by
            have h := row_shrink (k := M') (row_kept HR3.out hfx (fun _ _ h => h)) (by omega)
            rw [rowL_take] at h
            exact h
          clear hfx kc HC3 HB3 HR3
          go_wp2_with fail
          case roundEnd => exact ⟨⟨j + 1, M', _, _, pv3, sv3, ss3, some ⟨g, 0, none⟩, cap2, by omega, by simp, by omega, by first | rfl | simp, HC4.out, HR4.out, HFL3.out⟩, by simp [intOf]; omega⟩
        | false =>
          have hbf : ¬ (j < 64 ∧ 0 < M) := fun e => by have := hbb.mpr e; cases this
          clear hbb
          obtain rfl : ss2 = [] := List.eq_nil_of_length_eq_zero (by have := HFL.out; omega)
          go_wp2_with fail
          refine (undo_none _ _ _ _ _ _ HC.out.du.doc).mono ?_
          rintro e wz ⟨rfl, hfz⟩
          go_wp2_with fail
          refine (wakes_any _).mono ?_
          rintro e wy ⟨rfl, hfy⟩
          have HEND : Hid (Fr (fun _ => False) w wy) := ((HF1.out.trans HC.out.du.fr (fun k hk e => by have := HDD.out; omega)).trans hfz (fun _ _ h => h)).trans hfy (fun _ _ h => h)
          clear hfz hfy
          go_wp2_with fail
          go_ret
          exact ⟨rfl, HEND.out⟩
end Go.Proofs.Ytpblenebmjmijaa
