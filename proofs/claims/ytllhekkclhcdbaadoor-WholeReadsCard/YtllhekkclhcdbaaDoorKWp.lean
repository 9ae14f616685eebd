/- 'walk.put': bits that an iterator gives, coded one by one. -/
import Derived.Test.YtllhekkclhcdbaaDoorKSeq
import Derived.Test.YtllhekkclhcdbaaDoorKWb
import Derived.Test.YtllhekkclhcdbaaDoorKWhM
import Derived.Test.YtllhekkclhcdbaaDoorKNew
import Derived.RangeFuncWrites
import Derived.Test.YtllhekkclhcdbaaDoorKRoundH
namespace Go.Proofs.YtllhekkclhcdbaaDoor
open Go.RowKit Go.Shelf
attribute [local go_sem] Oper.semAt_some

abbrev WS (bc gc gb bk : Nat) (k : Nat) : Prop := k = bc ∨ k = gc ∨ k = gb ∨ k = bk

/-- What holds between two rounds. -/
structure WInv (w0 : World) (bc gc cc gb bk base size B3 B4 B6 : Nat) (o : Co) (l : List Nat) (W : World) (gb' cb' : Nat) : Prop where
  co : CoAt W bc gc cc gb' cb' (runL o (decs base size 1 l))
  wk : WkAt W bk base size (vEnd size 1 l)
  fr : Fr (WS bc gc gb bk) w0 W
  row : gb' = gb ∨ w0.heap.size ≤ gb'
  x3 : W.cell? ⟨B3, 0, none⟩ = some (.pointer (some ⟨bk, 0, none⟩))
  x4 : W.cell? ⟨B4, 0, none⟩ = some (.pointer (some ⟨bc, 0, none⟩))
  x6 : W.cell? ⟨B6, 0, none⟩ = some (.int .i64 0) ∧ W.frozen? ⟨B6, 0, none⟩ = false

theorem WInv.own (w0 : World) (bc gc cc gb bk base size B3 B4 B6 : Nat) (o : Co) (f : List Bit → List Nat) :
    OwnFrom w0.heap.size (fun (pre : List Bit) W => ∃ gb' cb', WInv w0 bc gc cc gb bk base size B3 B4 B6 o (f pre) W gb' cb') := by
  rintro s W W' row ⟨gb', cb', h⟩ hg hr
  have hrc : ∀ r, row = some r → ∃ o : Obj, W.heap[r]? = some o ∧ o.isCells = false := fun r e => (hr r e).2
  have fr : Fr (fun k => row = some k) W W' := Fr.grown (Fr.refl _ _) hg (fun k e _ => e)
  have nc : ∀ (k : Nat) c t x, W.heap[k]? = some (.cells c t x) → ¬ row = some k := by
    intro k c t x hk e
    obtain ⟨o, ho, hc⟩ := hrc k e
    rw [hk] at ho
    cases ho
    simp [Obj.isCells] at hc
  obtain ⟨c1, hc1⟩ := row_type h.co.xs
  obtain ⟨c2, hc2⟩ := row_type h.co.bs
  refine ⟨gb', cb', h.co.kept fr (nc _ _ _ _ h.co.blk) (nc _ _ _ _ hc1) (nc _ _ _ _ hc2), h.wk.kept fr (nc _ _ _ _ h.wk.blk), Fr.grown h.fr hg (fun k e hk => ?_), h.row, cell_kept h.x3 hg hrc, cell_kept h.x4 hg hrc, cell_kept h.x6.1 hg hrc, (frozen_kept h.x6.1 hg hrc).trans h.x6.2⟩
  have := (hr k e).1
  omega

theorem cell_new2 (w : World) (x : Value) (t : TypeId) : (w.alloc (.cells #[x] t)).cell? ⟨w.heap.size, 0, none⟩ = some x ∧ (w.alloc (.cells #[x] t)).frozen? ⟨w.heap.size, 0, none⟩ = false := by
  refine ⟨cell_new1 w x t, ?_⟩
  have := heap_alloc_new w (.cells #[x] t)
  rw [World.frozen?]
  simp only [this]
  rfl

set_option maxRecDepth 100000 in
set_option maxHeartbeats 4000000 in
set_option linter.unusedSimpArgs false in
theorem wput_any (w : World) (bk base size bc gc cc gb cb b1 b2 word width : Nat) (o : Co) (hco : CoAt w bc gc cc gb cb o) (hok : Ook o) (hwk : WkAt w bk base size 1) (hm : o.made + width ≤ 16777216)
    (hs : width = 0 ∨ (2 ≤ size ∧ size ≤ 4096 ∧ size % 2 = 0)) (hbase : base ≤ 131072) (hword : word < 18446744073709551616) (hwidth : width ≤ 64)
    (h1 : w.cell? ⟨b1, 0, none⟩ = some (.int .i64 (width : Int))) (h2 : w.cell? ⟨b2, 0, none⟩ = some (.int .u64 (word : Int)))
    (hn1 : ¬ WS bc gc gb bk b1) (hn2 : ¬ WS bc gc gb bk b2) (hk : bk ≠ bc ∧ bk ≠ gc ∧ bk ≠ gb) :
    Calls Tryd.prog 44 #[.pointer (some ⟨bk, 0, none⟩), .pointer (some ⟨bc, 0, none⟩), .func (.func 64) #[] #[.pointer (some ⟨b1, 0, none⟩), .pointer (some ⟨b2, 0, none⟩)]] w fun e w' => e = .returned (.int .i64 0) ∧ ∃ gb' cb', CoAt w' bc gc cc gb' cb' (runL o (decs base size 1 (hiBits word width))) ∧ Fr (WS bc gc gb bk) w w' ∧ (gb' = gb ∨ w.heap.size ≤ gb') := by
  refine (callsIn_wide (n := 5)).1 ?_
  refine callsIn_of_wp_marks Tryd.func44 rfl trivial ?_ rfl
  simp only [Tryd.ntmps44, List.size_toArray, List.length_cons, List.length_nil, Nat.reduceAdd, Nat.reduceSub, Array.replicate_succ, Array.replicate_zero, List.push_toArray, List.append_toArray, List.nil_append, List.cons_append]
  gi_wp2
  have f0 : Fr (fun _ => False) w (((w.alloc (.cells #[.pointer (some ⟨bk, 0, none⟩)] 87)).alloc (.cells #[.pointer (some ⟨bc, 0, none⟩)] 40)).alloc (.cells #[.int .i64 0] 25)) := (((Fr.refl _ _).alloc _).alloc _).alloc _
  have s0 : (((w.alloc (.cells #[.pointer (some ⟨bk, 0, none⟩)] 87)).alloc (.cells #[.pointer (some ⟨bc, 0, none⟩)] 40)).alloc (.cells #[.int .i64 0] 25)).heap.size = w.heap.size + 3 := by simp
  have x3 := Fr.cell ((Fr.alloc (Fr.alloc (Fr.refl (fun _ => False) _) (.cells #[.pointer (some ⟨bc, 0, none⟩)] 40)) (.cells #[.int .i64 0] 25))) (cell_new1 w (.pointer (some ⟨bk, 0, none⟩)) 87) (fun h => h)
  have x4 := Fr.cell (Fr.alloc (Fr.refl (fun _ => False) _) (.cells #[.int .i64 0] 25)) (cell_new1 (w.alloc (.cells #[.pointer (some ⟨bk, 0, none⟩)] 87)) (.pointer (some ⟨bc, 0, none⟩)) 40) (fun h => h)
  have x6 := cell_new2 ((w.alloc (.cells #[.pointer (some ⟨bk, 0, none⟩)] 87)).alloc (.cells #[.pointer (some ⟨bc, 0, none⟩)] 40)) (.int .i64 0) 25
  simp only [World.size_alloc] at x4 x6
  obtain ⟨w0, hw0⟩ : ∃ w0, ((w.alloc (.cells #[.pointer (some ⟨bk, 0, none⟩)] 87)).alloc (.cells #[.pointer (some ⟨bc, 0, none⟩)] 40)).alloc (.cells #[.int .i64 0] 25) = w0 := ⟨_, rfl⟩
  rw [hw0] at f0 s0 x3 x4 x6 ⊢
  clear hw0
  have g1 := f0.cell h1 (fun h => h)
  have g2 := f0.cell h2 (fun h => h)
  have l1 := World.block_lt_of_cell? w _ h1
  have l2 := World.block_lt_of_cell? w _ h2
  have lk := hwk.lt
  have lc := hco.lt
  have lx := hco.xlt
  have lb := hco.blt
  refine wpIn_rangeFunc_ownG rfl (by omega) (gf := 64) (lb := #[.pointer (some ⟨b1, 0, none⟩), .pointer (some ⟨b2, 0, none⟩)]) rfl trivial (enters_of Tryd.func64 (by kernel_rfl) rfl)
    (seq_stops Fence.wide _ trivial rfl (by omega) b1 b2 word width hword hwidth w0 g1 g2) Kb.trans (fun W l o o' _ h ho _ => Kb.putObj W l o o' h ho) (Below.refl _ _) (fun _ => rfl)
    (fun pre W => ∃ gb' cb', WInv w0 bc gc cc gb bk base size w.heap.size (w.heap.size + 1) (w.heap.size + 1 + 1) o (nats pre) W gb' cb')
    (fun _ _ _ => False)
    (WInv.own w0 bc gc cc gb bk base size w.heap.size (w.heap.size + 1) (w.heap.size + 1 + 1) o nats)
    (fun _ _ _ _ _ hs _ _ => hs)
    ⟨gb, cb, hco.kept f0 (fun h => h) (fun h => h) (fun h => h), hwk.kept f0 (fun h => h), Fr.refl _ _, .inl rfl, x3, x4, x6⟩
    (fun x => { tmps := #[.pointer (some ⟨bk, 0, none⟩), .pointer (some ⟨bc, 0, none⟩), .func (.func 64) #[] #[.pointer (some ⟨b1, 0, none⟩), .pointer (some ⟨b2, 0, none⟩)], .pointer (some ⟨w.heap.size, 0, none⟩), .pointer (some ⟨w.heap.size + 1, 0, none⟩), undef, .pointer (some ⟨w.heap.size + 1 + 1, 0, none⟩), .int .i64 (x.1 : Int), undef, .func (.func 64) #[] #[.pointer (some ⟨b1, 0, none⟩), .pointer (some ⟨b2, 0, none⟩)], .int .i64 (x.1 : Int), undef, undef, undef, undef, undef, undef, undef, undef, undef, undef, undef, undef, undef, undef, undef, undef, undef, undef], defers := [] }) ?assign ?body ?done ?stop
  case assign =>
    intro l x W K hK
    dsimp only [bitV]
    gi_wp2
    exact hK
  case body =>
    rintro l pre ⟨d, hd⟩ W ⟨gb', cb', h⟩ hlen
    dsimp only
    have hx3 := h.x3
    have hx4 := h.x4
    obtain ⟨e0, e1, e2, ef⟩ := h.wk.cells
    have hln : (nats pre).length = pre.length := by simp [nats]
    obtain ⟨ok1, mk1, _⟩ := runL_ok hok (decs base size 1 (nats pre)) (by rw [decs_len, hln]; omega)
    rw [decs_len, hln] at mk1
    have hsz : 2 ≤ size ∧ size ≤ 4096 ∧ size % 2 = 0 := by rcases hs with e | e; exact absurd hlen (by omega); exact e
    have hvl : vEnd size 1 (nats pre) < size := vEnd_lt hsz.1 hsz.2.2 _ _ (by omega)
    have HI : Hid (WInv w0 bc gc cc gb bk base size w.heap.size (w.heap.size + 1) (w.heap.size + 1 + 1) o (nats pre) W gb' cb') := h
    have hput := put_any W.drew bc gc cc gb' cb' _ (h.co.kept (Fr.drew (Fr.refl (fun _ => False) W)) (fun h => h) (fun h => h) (fun h => h)) ok1 (by omega) (((base + vEnd size 1 (nats pre) : Nat) : Int)) (by omega) d hd
    obtain ⟨v, hv⟩ : ∃ v, vEnd size 1 (nats pre) = v := ⟨_, rfl⟩
    have Hv : Hid (vEnd size 1 (nats pre) = v ∧ v < size) := ⟨hv, by rw [← hv]; exact hvl⟩
    rw [hv] at hput e2
    have k1 : IntKind.i64.wrap ((base : Int) + (v : Int)) = (base : Int) + (v : Int) := by rw [IntKind.wrap_i64]; omega
    rw [show ((base + v : Nat) : Int) = (base : Int) + (v : Int) by push_cast; rfl] at hput
    clear h hv hvl hln ok1 mk1
    gi_wp2
    refine wpIn_region_held_round (S := fun W' => W'.cell? ⟨w.heap.size, 0, none⟩ = some (.pointer (some ⟨bk, 0, none⟩)) ∧ W'.cell? ⟨w.heap.size + 1, 0, none⟩ = some (.pointer (some ⟨bc, 0, none⟩)) ∧ W'.cell? ⟨bk, 0, none⟩ = some (.int .i64 (base : Int)) ∧ W'.cell? ⟨bk, 2, none⟩ = some (.int .i64 (v : Int))) (by kernel_rfl) (fun _ _ h => ?hq) (by kernel_rfl) ⟨hx3, hx4, e0, e2⟩ (fun hHeld => ?_)
    case hq => exact h
    refine wpAnyH_take (i := 0) (oi := _) (v := ?vv0) rfl (by kernel_rfl) (by kernel_rfl) (by kernel_rfl) (fun _ _ _ h => h) (Or.inl ⟨by kernel_rfl, ?hy0⟩) (by assumption) ?_
    case hy0 => (intro w hSw; (try dsimp only at hSw); obtain ⟨s1, s2, s3, s4⟩ := hSw; go_simp; all_goals (with_reducible rfl))
    (try simp only [Act.put, List.setIfInBounds_toArray, List.set_cons_zero, List.set_cons_succ])
    refine wpAnyH_take (i := 1) (oi := _) (v := ?vv1) rfl (by kernel_rfl) (by kernel_rfl) (by kernel_rfl) (fun _ _ _ h => h) (Or.inl ⟨by kernel_rfl, ?hy1⟩) (by assumption) ?_
    case hy1 => (intro w hSw; (try dsimp only at hSw); obtain ⟨s1, s2, s3, s4⟩ := hSw; go_simp; all_goals (with_reducible rfl))
    (try simp only [Act.put, List.setIfInBounds_toArray, List.set_cons_zero, List.set_cons_succ])
    refine wpAnyH_take (i := 2) (oi := _) (v := ?vv2) rfl (by kernel_rfl) (by kernel_rfl) (by kernel_rfl) (fun _ _ _ h => h) (Or.inl ⟨by kernel_rfl, ?hy2⟩) (by assumption) ?_
    case hy2 => (intro w hSw; (try dsimp only at hSw); obtain ⟨s1, s2, s3, s4⟩ := hSw; go_simp; all_goals (with_reducible rfl))
    (try simp only [Act.put, List.setIfInBounds_toArray, List.set_cons_zero, List.set_cons_succ])
    refine wpAnyH_take (i := 3) (oi := _) (v := ?vv3) rfl (by kernel_rfl) (by kernel_rfl) (by kernel_rfl) (fun _ _ _ h => h) (Or.inl ⟨by kernel_rfl, ?hy3⟩) (by assumption) ?_
    case hy3 => (intro w hSw; (try dsimp only at hSw); obtain ⟨s1, s2, s3, s4⟩ := hSw; go_simp; all_goals (with_reducible rfl))
    (try simp only [Act.put, List.setIfInBounds_toArray, List.set_cons_zero, List.set_cons_succ])
    refine wpAnyH_take (i := 4) (oi := _) (v := ?vv4) rfl (by kernel_rfl) (by kernel_rfl) (by kernel_rfl) (fun _ _ _ h => h) (Or.inl ⟨by kernel_rfl, ?hy4⟩) (by assumption) ?_
    case hy4 => (intro w hSw; (try dsimp only at hSw); obtain ⟨s1, s2, s3, s4⟩ := hSw; go_simp; all_goals (with_reducible rfl))
    (try simp only [Act.put, List.setIfInBounds_toArray, List.set_cons_zero, List.set_cons_succ])
    refine wpAnyH_take (i := 5) (oi := _) (v := ?vv5) rfl (by kernel_rfl) (by kernel_rfl) (by kernel_rfl) (fun _ _ _ h => h) (Or.inl ⟨by kernel_rfl, ?hy5⟩) (by assumption) ?_
    case hy5 => (intro w hSw; (try dsimp only at hSw); obtain ⟨s1, s2, s3, s4⟩ := hSw; go_simp; all_goals (with_reducible rfl))
    (try simp only [Act.put, List.setIfInBounds_toArray, List.set_cons_zero, List.set_cons_succ])
    refine wpAnyH_take (i := 6) (oi := _) (v := ?vv6) rfl (by kernel_rfl) (by kernel_rfl) (by kernel_rfl) (fun _ _ _ h => h) (Or.inl ⟨by kernel_rfl, ?hy6⟩) (by assumption) ?_
    case hy6 => (intro w hSw; (try dsimp only at hSw); obtain ⟨s1, s2, s3, s4⟩ := hSw; go_simp; all_goals (with_reducible rfl))
    (try simp only [Act.put, List.setIfInBounds_toArray, List.set_cons_zero, List.set_cons_succ])
    refine wpAnyH_take (i := 7) (oi := _) (v := ?vv7) rfl (by kernel_rfl) (by kernel_rfl) (by kernel_rfl) (fun _ _ _ h => h) (Or.inl ⟨by kernel_rfl, ?hy7⟩) (by assumption) ?_
    case hy7 => (intro w hSw; (try dsimp only at hSw); obtain ⟨s1, s2, s3, s4⟩ := hSw; go_simp; all_goals (with_reducible rfl))
    (try simp only [Act.put, List.setIfInBounds_toArray, List.set_cons_zero, List.set_cons_succ])
    refine wpAnyH_take (i := 8) (oi := _) (v := ?vv8) rfl (by kernel_rfl) (by kernel_rfl) (by kernel_rfl) (fun _ _ _ h => h) (Or.inl ⟨by kernel_rfl, ?hy8⟩) (by assumption) ?_
    case hy8 => (intro w hSw; (try dsimp only at hSw); obtain ⟨s1, s2, s3, s4⟩ := hSw; go_simp; all_goals (with_reducible rfl))
    (try simp only [Act.put, List.setIfInBounds_toArray, List.set_cons_zero, List.set_cons_succ])
    refine wpAnyH_take (i := 9) (oi := _) (v := ?vv9) rfl (by kernel_rfl) (by kernel_rfl) (by kernel_rfl) (fun _ _ _ h => h) (Or.inl ⟨by kernel_rfl, ?hy9⟩) (by assumption) ?_
    case hy9 => (intro w hSw; (try dsimp only at hSw); obtain ⟨s1, s2, s3, s4⟩ := hSw; go_simp; all_goals (with_reducible rfl))
    (try simp only [Act.put, List.setIfInBounds_toArray, List.set_cons_zero, List.set_cons_succ])
    refine wpAnyH_take (i := 10) (oi := _) (v := ?vv10) rfl (by kernel_rfl) (by kernel_rfl) (by kernel_rfl) (fun _ _ _ h => h) (Or.inl ⟨by kernel_rfl, ?hy10⟩) (by assumption) ?_
    case hy10 => (intro w hSw; (try dsimp only at hSw); obtain ⟨s1, s2, s3, s4⟩ := hSw; go_simp; all_goals (with_reducible rfl))
    (try simp only [Act.put, List.setIfInBounds_toArray, List.set_cons_zero, List.set_cons_succ])
    refine wpAnyH_ready (rs := [11]) (by kernel_rfl) (by simp) ?_
    refine AllReadyH.cons (o := _) rfl (fun K hK => ?_) AllReadyH.nil
    go_simp
    refine hput.mono ?_
    rintro e w1 ⟨rfl, gb2, cb2, hc2, hs2⟩
    have hrow := HI.out.row
    have n1 : ¬ (bk = bc ∨ bk = gc ∨ bk = gb') := by omega
    have n3 : ¬ (w.heap.size = bc ∨ w.heap.size = gc ∨ w.heap.size = gb') := by omega
    have n4 : ¬ (w.heap.size + 1 = bc ∨ w.heap.size + 1 = gc ∨ w.heap.size + 1 = gb') := by omega
    have n6 : ¬ (w.heap.size + 1 + 1 = bc ∨ w.heap.size + 1 + 1 = gc ∨ w.heap.size + 1 + 1 = gb') := by omega
    have hd1 : Fr (fun k => k = bc ∨ k = gc ∨ k = gb') W w1 := Fr.trans (Fr.drew (Fr.refl _ W)) hs2.fr (fun _ _ h => h)
    have y3 := hd1.cell hx3 n3
    have y4 := hd1.cell hx4 n4
    have y0 := hd1.cell e0 n1
    have y2 := hd1.cell e2 n1
    have hwk1 := HI.out.wk.kept hd1 n1
    rw [Hv.out.1] at hwk1
    have HD1 : Hid (Fr (fun k => k = bc ∨ k = gc ∨ k = gb') W w1) := hd1
    have HW1 : Hid (WkAt w1 bk base size v) := hwk1
    have HC2 : Hid (CoAt w1 bc gc cc gb2 cb2 (putP (runL o (decs base size 1 (nats pre))) ((base : Int) + (v : Int)) d)) := hc2
    have HS2 : Hid (CStep bc gc gb' gb2 W.drew w1) := hs2
    clear hd1 hwk1 hc2 hs2
    go_simp
    refine hK.out _ _ ⟨y3, y4, y0, y2⟩ (fun hHeld => ?_)
    clear hK K
    (try simp only [Act.put, List.setIfInBounds_toArray, List.set_cons_zero, List.set_cons_succ])
    refine wpAnyH_take (i := 12) (oi := _) (v := ?vv12) rfl (by kernel_rfl) (by kernel_rfl) (by kernel_rfl) (fun _ _ _ h => h) (Or.inl ⟨by kernel_rfl, ?hy12⟩) (by assumption) ?_
    case hy12 => (intro w hSw; go_simp; all_goals (with_reducible rfl))
    (try simp only [Act.put, List.setIfInBounds_toArray, List.set_cons_zero, List.set_cons_succ])
    refine wpAnyH_done (by kernel_rfl) ?_ _
    refine NoPanic.normal ?_
    gi_wp2
    refine ⟨trivial, (CallsIn.inRound l (callsIn_wide.2 (pass_any w1 bk base size v d HW1.out ⟨hsz.1, hsz.2.1⟩ (by have := Hv.out; omega) hd))).mono ?_⟩
    rintro e w2 ⟨⟨r, rfl⟩, hwk2, f2⟩
    have HW2 : Hid (WkAt w2 bk base size (passP size v d)) := hwk2
    have HF2 : Hid (Fr (fun k => k = bk) w1 w2) := f2
    clear hwk2 f2
    gi_wp2
    have hi := HI.out
    have F : Fr (WS bc gc gb' bk) W w2 := Fr.trans (HD1.out.mono (fun k _ h => by unfold WS; omega)) HF2.out (fun k _ h => by unfold WS; omega)
    obtain ⟨cur, hcur⟩ := row_type hi.co.bs
    have hz0 := hi.fr.size
    have h2row := HS2.out.row
    have hzd : W.drew.heap.size = W.heap.size := rfl
    rw [hzd] at h2row
    refine ⟨⟨F.size, fun k ob hB hk hob => (F.block k (Array.getElem?_eq_some_iff.1 hk).1 ?_).trans hk⟩, ⟨fun u e => F.cell e ?_, fun u e => F.cell e ?_⟩, gb2, cb2, ?_, ?_, ?_, ?_, ?_, ?_, ?_⟩
    · rintro (e | e | e | e)
      · omega
      · omega
      · rw [e, hcur] at hk
        cases hk
        simp [Obj.isCells] at hob
      · omega
    · rintro (e | e | e | e)
      · exact hn1 (.inl e)
      · exact hn1 (.inr (.inl e))
      · rcases hrow with e2 | e2
        · exact hn1 (.inr (.inr (.inl (e.trans e2))))
        · omega
      · exact hn1 (.inr (.inr (.inr e)))
    · rintro (e | e | e | e)
      · exact hn2 (.inl e)
      · exact hn2 (.inr (.inl e))
      · rcases hrow with e2 | e2
        · exact hn2 (.inr (.inr (.inl (e.trans e2))))
        · omega
      · exact hn2 (.inr (.inr (.inr e)))
    · have e1 : nats (pre ++ [⟨d, hd⟩]) = nats pre ++ [d] := by simp [nats]
      have e2 : decs base size (vEnd size 1 (nats pre)) [d] = [(((base : Int) + (v : Int)), d)] := by
        rw [Hv.out.1]
        simp [decs]
      rw [e1, decs_cat, e2, runL_snoc]
      exact HC2.out.kept HF2.out (by omega) (by omega) (by omega)
    · have e1 : nats (pre ++ [⟨d, hd⟩]) = nats pre ++ [d] := by simp [nats]
      rw [e1, vEnd_snoc, Hv.out.1]
      exact HW2.out
    · refine Fr.trans hi.fr F (fun k hk h => ?_)
      unfold WS at h ⊢
      omega
    · omega
    · exact F.cell hi.x3 (by unfold WS; omega)
    · exact F.cell hi.x4 (by unfold WS; omega)
    · exact ⟨F.cell hi.x6.1 (by unfold WS; omega), F.frozen (World.block_lt_of_cell? W _ hi.x6.1) hi.x6.2 (by unfold WS; omega)⟩
  case done =>
    rintro D ys W hD hys ⟨gb', cb', h⟩ hK
    have hx6 := h.x6.1
    have hf6 := h.x6.2
    have HI : Hid (WInv w0 bc gc cc gb bk base size w.heap.size (w.heap.size + 1) (w.heap.size + 1 + 1) o (nats ys) W gb' cb') := h
    clear h
    gi_wp2
    have hi := HI.out
    obtain ⟨cur, hcur⟩ := row_type hi.co.bs
    have hDb : D ≠ gb' := fun e => by rw [e, hcur] at hK; cases hK
    have hK2 := (KeepsOthers.setCell W ⟨w.heap.size + 1 + 1, 0, none⟩ (.int .i64 0)).same D _ hK rfl
    have F1 : Fr (fun k => k = w.heap.size + 1 + 1 ∨ k = D) W ((W.setCell ⟨w.heap.size + 1 + 1, 0, none⟩ (.int .i64 0)).putObj D (.deferred none)) :=
      Fr.grown (Fr.setCell (Fr.refl _ W) (p := ⟨w.heap.size + 1 + 1, 0, none⟩) (fun _ => .inl rfl) _) (grownBy_putObj' _ D _) (fun k e _ => by cases e; exact .inr rfl)
    have hcell : ((W.setCell ⟨w.heap.size + 1 + 1, 0, none⟩ (.int .i64 0)).putObj D (.deferred none)).cell? ⟨w.heap.size + 1 + 1, 0, none⟩ = some (.int .i64 0) :=
      cell_kept (World.cell?_setCell_same' _ _ _ (by rw [hx6]; rfl)) (grownBy_putObj' _ D (.deferred none)) (fun r e => by cases e; exact ⟨_, hK2, rfl⟩)
    have hz0 := hi.fr.size
    have hzw := f0.size
    have hrw := hi.row
    refine ⟨by simp, .inl ⟨_, _, rfl, run_takeDeferred hK2, ?_⟩⟩
    refine ⟨.int .i64 0, by simp [results, Tryd.results44, go_sem, hcell], rfl, gb', ⟨cb', ?_⟩, ?_, ?_⟩
    · rw [← hys]
      exact hi.co.kept F1 (by omega) (by omega) (by omega)
    · refine Fr.trans (Fr.trans (S := WS bc gc gb bk) (f0.mono (fun _ _ h => h.elim)) hi.fr (fun _ _ h => h)) F1 (fun k hk h => by unfold WS; omega)
    · omega
  case stop =>
    rintro D c pre W _ _ h _
    exact h.elim
end Go.Proofs.YtllhekkclhcdbaaDoor
