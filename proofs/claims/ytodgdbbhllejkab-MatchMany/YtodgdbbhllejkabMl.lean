/- 'MatchMany'. -/
import Derived.Test.YtodgdbbhllejkabMm
import Derived.Test.YtodgdbbhllejkabFb
import Derived.Test.YtodgdbbhllejkabWk
namespace Go.Proofs.Ytodgdbbhllejkab
open Go.RowKit

/-- An append that leaves the row which it was handed as it was, up to its length. -/
theorem wpList_append_keep {P : Program} (w : World) {ops : Array Oper} {rest : List Oper} {o : Oper} {a : Act} {Q : Exit → Act → World → Prop} (hgd : o.guard = none) (s x : Operand) (t : TypeId)
    (ho : o.op = Op.call { callee := Callee.builtin Builtin.append, args := #[s, x], argTypes := #[t, t] }) (e : TypeId) (i : TypeInfo) (z : Value) (size bytes : Nat)
    (ht : P.underlying t = some (TypeDesc.slice e)) (hi : P.info? e = some i) (hz : i.zero = some z) (hsize : i.size = size) (hby : i.bytes = bytes) (hzs : z.cells.size = size) (hsz : 0 < size)
    (v : Value) (n : Nat) (xs : List Value) (hs : a.eval s = v) (hown : w.ownsRow 0 e size v n xs) (ad : Addr) (m c : Nat) (news : List Value) (hx : a.eval x = Value.slice (some ad) m c) (hl : news.length = m * size)
    (hnews : ∀ (j : Nat) (u : Value), news[j]? = some u → w.cell? (ad.add j) = some u) (h1 : ∀ (u : Value), u ∈ news → u.oneCell' = true) (h63 : n + m ≤ maxLen) (hbytes : (n + m) * bytes ≤ 140737488355328) (hm : 0 < m)
    (h : ∀ (g' cap' : Nat) (w' : World), w'.ownsRow 0 e size (.slice (some ⟨g', 0, none⟩) (n + m) cap') (n + m) (xs ++ news) → w.grownBy w' v.ownBlock → w'.ownsRow 0 e size v n xs →
      wpList P ops Q rest (a.put o.dst (.slice (some ⟨g', 0, none⟩) (n + m) cap')) w') : wpList P ops Q (o :: rest) a w := by
  have hownc := hown
  rcases hown.2 with ⟨rfl, rfl⟩ | ⟨g, cap, cur, rfl, hb, hg, hc, hmx, hcs, htk⟩
  · have hxs : xs = [] := List.eq_nil_of_length_eq_zero (by have := hown.1; omega)
    subst hxs
    refine wpList_append_grows w hgd s x t ho e i z size bytes ht hi hz hsize hby hzs hsz none 0 0 [] hs (fun _ => ⟨rfl, rfl⟩) (by simp) (fun b hb => by cases hb) ad m c news hx hl hnews h1 (by omega) h63 hbytes ?_
    intro v' w' ho' hgr
    obtain ⟨g', cap', rfl, hb', hc', hm'⟩ := row_form ho' (by omega)
    exact h g' cap' w' (ownsRow_base ho' (fun _ _ => Nat.zero_le _)) hgr (World.ownsRow_nil _ _ _ _)
  · by_cases hroom : n + m ≤ cap
    · refine wpList_append_fits w hgd s x t ho 0 e i size ht hi hsize g n cap xs hs hownc ad m c news hx hl hnews h1 hroom ?_
      intro w' ho' hgr
      refine h g cap w' ho' hgr ⟨hown.1, Or.inr ?_⟩
      rcases ho'.2 with ⟨e1, _⟩ | ⟨g2, cap2, cur2, e2, _, hg2, hc2, hmx2, hcs2, htk2⟩
      · cases e1
      · cases e2
        refine ⟨g, cap, cur2, rfl, Nat.zero_le _, hg2, by omega, hmx2, hcs2, ?_⟩
        have hle : n * size ≤ (n + m) * size := Nat.mul_le_mul_right _ (by omega)
        have := congrArg (List.take (n * size)) htk2
        rw [List.take_take, Nat.min_eq_left hle, List.take_append_of_le_length (by rw [hown.1]; exact Nat.le_refl _), List.take_of_length_le (l := xs) (by rw [hown.1]; exact Nat.le_refl _)] at this
        exact this
    · refine wpList_append_grows w hgd s x t ho e i z size bytes ht hi hz hsize hby hzs hsz (some ⟨g, 0, none⟩) n cap xs hs (fun hh => by cases hh) hown.1 ?_ ad m c news hx hl hnews h1 (by omega) h63 hbytes ?_
      · intro b hb j u hu
        simp only [Option.some.injEq] at hb
        subst hb
        exact hownc.cells (g := g) rfl j u hu
      · intro v' w' ho' hgr
        obtain ⟨g', cap', rfl, hb', hc', hm'⟩ := row_form ho' (by omega)
        refine h g' cap' w' (ownsRow_base ho' (fun _ _ => Nat.zero_le _)) ?_ (row_kept hownc ((Fr.refl (fun _ => False) w).grown hgr (fun _ e _ => by cases e)) (fun k hk h => h))
        exact ⟨hgr.os, hgr.tape, hgr.output, hgr.size, fun k hk _ => hgr.block k hk (by simp)⟩

/-- The bitmaps' words. -/
def Mw (w : World) (g : Nat → Nat) (n : Nat) : Prop := ∀ j, j < n → w.heap[g j]? = some (.cells #[.int .u64 ((j : Int) * 4503599627370496)] 23 (0, 0))
theorem own_type {w : World} {b e s n k : Nat} {v : Value} {xs : List Value} (h : w.ownsRow b e s v n xs) (hv : v.ownBlock = some k) : ∃ cur, w.heap[k]? = some (.cells cur e (0, 0)) := by
  rcases h.2 with ⟨rfl, _⟩ | ⟨g, cap, cur, rfl, _, hg, _⟩
  · simp [Value.ownBlock] at hv
  · simp [Value.ownBlock] at hv
    subst hv
    exact ⟨cur, hg⟩
theorem Mw.apart {w : World} {g : Nat → Nat} {n i : Nat} {v : Value} {xs : List Value} (h : Mw w g n) (ho : w.ownsRow 0 27 3 v i xs) (j : Nat) (hj : j < n) : v.ownBlock ≠ some (g j) := fun e => by
  obtain ⟨cur, hc⟩ := own_type ho e
  rw [h j hj] at hc
  simp at hc
theorem Mw.kept {S : Nat → Prop} {w w' : World} {g : Nat → Nat} {n : Nat} (h : Mw w g n) (f : Fr S w w') (hs : ∀ j, j < n → ¬ S (g j)) : Mw w' g n := fun j hj => by
  rw [f.block _ (lt_of_block (h j hj)) (hs j hj)]
  exact h j hj
def gUp (g : Nat → Nat) (i b : Nat) (j : Nat) : Nat := if j = i then b else g j
theorem gUp_lt (g : Nat → Nat) {i b j : Nat} (h : j < i) : gUp g i b j = g j := if_neg (by omega)
theorem gUp_eq (g : Nat → Nat) (i b : Nat) : gUp g i b i = b := if_pos rfl
theorem bpC_up (g : Nat → Nat) (i b : Nat) : bpC (mB (gUp g i b)) (i + 1) = bpC (mB g) i ++ [.int .i64 12, .int .i64 1, .slice (some ⟨b, 0, none⟩) 1 1] := by
  show bpC (mB (gUp g i b)) i ++ [.int .i64 12, .int .i64 1, .slice (some ⟨gUp g i b i, 0, none⟩) 1 1] = _
  rw [gUp_eq, bpC_congr (A := mB (gUp g i b)) (B := mB g) i (fun j hj => by unfold mB; rw [gUp_lt g hj])]
theorem Mw.up {S : Nat → Prop} {w w' : World} {g : Nat → Nat} {i : Nat} (h : Mw w g i) (o : Obj) (f : Fr S ((w.alloc (.cells #[.int .u64 ((i : Int) * 4503599627370496)] 23)).alloc o) w') (hs : ∀ j, j < i → ¬ S (g j)) (hs2 : ¬ S w.heap.size) : Mw w' (gUp g i w.heap.size) (i + 1) := fun j hj => by
  by_cases e : j = i
  · subst e
    rw [gUp_eq]
    have h1 := blkUp (heap_alloc_new w (.cells #[.int .u64 ((j : Int) * 4503599627370496)] 23)) o
    rw [f.block _ (lt_of_block h1) hs2]
    exact h1
  · have hj' : j < i := by omega
    rw [gUp_lt g hj']
    have h1 := blkUp (blkUp (h j hj') (.cells #[.int .u64 ((i : Int) * 4503599627370496)] 23)) o
    rw [f.block _ (lt_of_block h1) (hs j hj')]
    exact h1
theorem cell3_new (w : World) (a b c : Value) (t : TypeId) : ∀ (j : Nat) (u : Value), [a, b, c][j]? = some u → (w.alloc (.cells #[a, b, c] t)).cell? (Addr.add ⟨w.heap.size, 0, none⟩ j) = some u := fun j u hu => by
  have h := heap_alloc_new w (.cells #[a, b, c] t)
  match j, hu with
  | 0, hu => cases hu; show (w.alloc (.cells #[a, b, c] t)).cell? ⟨w.heap.size, 0, none⟩ = _; unfold World.cell?; simp only [h]; rfl
  | 1, hu => cases hu; show (w.alloc (.cells #[a, b, c] t)).cell? ⟨w.heap.size, 1, none⟩ = _; unfold World.cell?; simp only [h]; rfl
  | 2, hu => cases hu; show (w.alloc (.cells #[a, b, c] t)).cell? ⟨w.heap.size, 2, none⟩ = _; unfold World.cell?; simp only [h]; rfl
  | j + 3, hu => simp at hu
theorem seen_one {w : World} {g x : Nat} (h : w.cell? ⟨g, 0, none⟩ = some (.int .u64 (x : Int))) : Seen w (.slice (some ⟨g, 0, none⟩) 1 1) [x] := by
  refine ⟨some ⟨g, 0, none⟩, 1, rfl, by simp, fun _ => ⟨g, 0, rfl, fun j hj => ?_⟩⟩
  have hj0 : j = 0 := by simpa using hj
  subst hj0
  exact h
theorem one_seen {w : World} {g x : Nat} (h : Seen w (.slice (some ⟨g, 0, none⟩) 1 1) [x]) : w.cell? ⟨g, 0, none⟩ = some (.int .u64 (x : Int)) := by
  obtain ⟨ao, cap, e, _, hc⟩ := h
  obtain ⟨b, off, e2, hcc⟩ := hc (by simp)
  subst e2
  simp only [Value.slice.injEq, Option.some.injEq, Addr.mk.injEq] at e
  obtain ⟨⟨rfl, rfl, _⟩, _⟩ := e
  exact hcc 0 (by simp)
theorem Mw.ok {w : World} {g : Nat → Nat} {n j : Nat} (h : Mw w g n) (hn : n ≤ 4096) (hj : j < n) : BpOK w (mB g j) := by
  refine ⟨by show (-9223372036854775808 : Int) ≤ 12 ∧ (12 : Int) ≤ 9223372036854775807; omega, by show (-9223372036854775808 : Int) ≤ 1 ∧ (1 : Int) ≤ 9223372036854775807; omega, seen_one ?_, cap_some _ _ _ (Nat.le_refl _) (by omega), nil_some _ _ _, (mB_good g (by omega)).2⟩
  have := h j hj
  unfold World.cell?
  simp only [this]
  show some (Value.int .u64 ((j : Int) * 4503599627370496)) = _
  congr 2
theorem mA_bp {w : World} {g : Nat → Nat} {b : Bp} (h : Mw w g 4096) (hb : BpOK w b) (n : Nat) (hn : n ≤ 4097) : ∀ j, j < n → BpOK w (mA g b j) := fun j hj => by
  by_cases e : j < 4096
  · rw [mA_lt g b e]; exact h.ok (Nat.le_refl _) e
  · obtain rfl : j = 4096 := by omega
    rw [mA_last]; exact hb
theorem bpC_more (g : Nat → Nat) (b : Bp) : bpC (mA g b) 4097 = bpC (mB g) 4096 ++ [.int .i64 b.x, .int .i64 b.y, b.v] := by
  show bpC (mA g b) 4096 ++ [.int .i64 (mA g b 4096).x, .int .i64 (mA g b 4096).y, (mA g b 4096).v] = _
  rw [mA_last, bpC_congr 4096 (fun j hj => mA_lt g b hj)]
attribute [local irreducible] bpC clR clC
theorem classes_first {w : World} {gl cl : Nat} {g : Nat → Nat} (ho : w.ownsRow 0 27 3 (.slice (some ⟨gl, 0, none⟩) 4096 cl) 4096 (bpC (mB g) 4096)) (hw : Mw w g 4096) :
    Calls Try.prog 4 #[.slice (some ⟨gl, 0, none⟩) 4096 cl, .float .f64 0] w fun e w' => ∃ ac cc ar cr, e = .returned (.tuple #[.agg #[.slice ac 4096 cc, .slice ar 4096 cr], .int .i64 0]) ∧ Fr (fun _ => False) w w' := by
  rw [← bpC_congr 4096 (fun j hj => mA_lt g (mB g 0) hj)] at ho
  have hB := bps_row ho (by omega) (mA_bp hw (hw.ok (Nat.le_refl _) (by omega)) 4096 (by omega))
  have hcr := mA_all g (mB g 0) 4096 (Nat.le_refl _)
  refine (classes_ok (some ⟨gl, 0, none⟩) 4096 cl 0 (mA g (mB g 0)) w hB (by omega) (by decide +kernel) (mA_ok g _ (mB_good g (by omega)).1 4096 (by omega)) (by rw [hcr, List.length_range]; exact Nat.le_refl _)).mono ?_
  rintro e w' ⟨cv, rv, U, he, hm, hf⟩
  obtain ⟨ac, cc, hcv⟩ := own_slice hm.cls
  obtain ⟨ar, cr, hrv⟩ := own_slice hm.reps
  rw [length_clC] at hcv
  rw [hcr, List.length_range] at hrv
  subst hcv hrv
  exact ⟨ac, cc, ar, cr, he, hf⟩
theorem classes_second {w : World} {gl cl gW : Nat} {g : Nat → Nat} (ho : w.ownsRow 0 27 3 (.slice (some ⟨gl, 0, none⟩) 4097 cl) 4097 (bpC (mB g) 4096 ++ [.int .i64 1, .int .i64 1, .slice (some ⟨gW, 0, none⟩) 1 1])) (hw : Mw w g 4096) (hs : Seen w (.slice (some ⟨gW, 0, none⟩) 1 1) [0]) :
    Calls Try.prog 4 #[.slice (some ⟨gl, 0, none⟩) 4097 cl, .float .f64 0] w fun e w' => e = .returned (.tuple #[.agg #[.slice none 0 0, .slice none 0 0], .int .i64 120]) ∧ Fr (fun _ => False) w w' := by
  have e1 := bpC_more g (bNil (.slice (some ⟨gW, 0, none⟩) 1 1))
  have ho' : w.ownsRow 0 27 3 (.slice (some ⟨gl, 0, none⟩) 4097 cl) 4097 (bpC (mA g (bNil (.slice (some ⟨gW, 0, none⟩) 1 1))) 4097) := by rw [e1]; exact ho
  have hB := bps_row ho' (by omega) (mA_bp hw ⟨by show (-9223372036854775808 : Int) ≤ 1 ∧ (1 : Int) ≤ 9223372036854775807; omega, by show (-9223372036854775808 : Int) ≤ 1 ∧ (1 : Int) ≤ 9223372036854775807; omega, hs, cap_some _ _ _ (Nat.le_refl _) (by omega), nil_some _ _ _, lt_nil⟩ 4097 (by omega))
  exact classes_full (some ⟨gl, 0, none⟩) 4097 4096 cl 0 (mA g (bNil (.slice (some ⟨gW, 0, none⟩) 1 1))) w hB (by omega) (by decide +kernel) (mA_ok g _ (ok_nil _) 4097 (by omega)) rfl (by rw [mA_all g _ 4096 (Nat.le_refl _), List.length_range]) (mA_none g _ (by show (1 : Int) ≠ 12; omega))
theorem classes_third {w : World} {gl cl : Nat} {g : Nat → Nat} (ho : w.ownsRow 0 27 3 (.slice (some ⟨gl, 0, none⟩) 4097 cl) 4097 (bpC (mB g) 4096 ++ [.int .i64 12, .int .i64 1, .slice (some ⟨g 77, 0, none⟩) 1 1])) (hw : Mw w g 4096) :
    Calls Try.prog 4 #[.slice (some ⟨gl, 0, none⟩) 4097 cl, .float .f64 0] w fun e w' => ∃ gc cc ar cr, e = .returned (.tuple #[.agg #[.slice (some ⟨gc, 0, none⟩) 4097 cc, .slice ar 4096 cr], .int .i64 0]) ∧ w'.cell? ⟨gc, 4096, none⟩ = some (.int .i64 77) ∧ Fr (fun _ => False) w w' := by
  have e1 := bpC_more g (mB g 77)
  have ho' : w.ownsRow 0 27 3 (.slice (some ⟨gl, 0, none⟩) 4097 cl) 4097 (bpC (mA g (mB g 77)) 4097) := by rw [e1]; exact ho
  have hB := bps_row ho' (by omega) (mA_bp hw (hw.ok (Nat.le_refl _) (by omega)) 4097 (by omega))
  have hf := mA_joins g (mB g 77) (mB_good g (by omega)) rfl rfl rfl
  have hcr : clR (nrA 0 (mA g (mB g 77))) 4097 = List.range 4096 := by rw [clR_succ_some hf, mA_all g _ 4096 (Nat.le_refl _)]
  have hcc := clC_succ_some hf
  refine (classes_ok (some ⟨gl, 0, none⟩) 4097 cl 0 (mA g (mB g 77)) w hB (by omega) (by decide +kernel) (mA_ok g _ (mB_good g (by omega)).1 4097 (by omega)) (by rw [hcr, List.length_range]; exact Nat.le_refl _)).mono ?_
  rintro e w' ⟨cv, rv, U, he, hm, hf'⟩
  have hlc : (clC (nrA 0 (mA g (mB g 77))) 4097).length = 4097 := length_clC _ _
  have hcls := hm.cls
  rw [hlc] at hcls
  obtain ⟨gc, cc, hcv, _⟩ := row_form hcls (by omega)
  obtain ⟨ar, cr, hrv⟩ := own_slice hm.reps
  rw [hcr, List.length_range] at hrv
  subst hcv hrv
  refine ⟨gc, cc, ar, cr, he, ?_, hf'⟩
  have hl0 : (clC (nrA 0 (mA g (mB g 77))) 4096).length = 4096 := length_clC _ _
  rw [hcls.cellAt 4096 (by omega), intCells_get _ (by rw [hlc]; omega), show clC (nrA 0 (mA g (mB g 77))) 4097 = _ from hcc, List.getD_eq_getElem?_getD, List.getElem?_append_right (by omega), hl0]
  rfl

set_option maxRecDepth 100000 in
set_option maxHeartbeats 4000000 in
theorem many_any (w : World) : Calls Try.prog 3 #[] w fun e w' => e = .returned (.bool true) ∧ Fr (fun _ => False) w w' := by
  obtain ⟨i0, hi, hz0, hz1, hz2⟩ := info_parts Try.infoBm
  have HWH : Hid (∀ w', Calls Try.prog 5 #[.int .i64 1, .int .i64 1] w' fun e w'' => ∃ gW, e = .returned (.agg #[.int .i64 1, .int .i64 1, .slice (some ⟨gW, 0, none⟩) 1 1]) ∧ Seen w'' (.slice (some ⟨gW, 0, none⟩) 1 1) [0] ∧ Fr (fun _ => False) w' w'' ∧ w'.heap.size ≤ gW) := fun w' => by
    refine (zwhite_any 1 1 w' (by omega) (by omega) (by omega)).mono ?_
    rintro e w'' ⟨g, he, hr, hf, hg⟩
    exact ⟨g, he, hr.seen (by decide), hf, hg⟩
  go_enter Try.func3, Try.ntmps3
  go_wp2_with fail
  go_loopg [1, 2] 4096 (fun q v k wr => ∃ (i : Nat) (g : Nat → Nat) (vv : Value), i + q = 4096 ∧ k = .int .i64 (i : Int) ∧ v = vv ∧ wr.ownsRow 0 27 3 vv i (bpC (mB g) i) ∧ Mw wr g i ∧ (∀ k, vv.ownBlock = some k → w.heap.size ≤ k) ∧ Fr (fun _ => False) w wr)
  case atStart => exact ⟨0, fun _ => 0, _, by omega, rfl, rfl, (by unfold bpC; exact World.ownsRow_nil _ _ _ _), fun j hj => absurd hj (Nat.not_lt_zero _), fun k hk => by simp [Value.ownBlock] at hk, Fr.refl _ _⟩
  case round =>
    obtain ⟨i, g, vv, hjq, rfl, hvv, how, hmw, hbw, hfr⟩ := hrel
    have hvv2 := hvv.symm
    clear hvv
    subst hvv2
    have hi4 : i ≤ 4096 := by omega
    have HO : Hid (wr.ownsRow 0 27 3 vv i (bpC (mB g) i)) := how
    have HW : Hid (Mw wr g i) := hmw
    have HBW : Hid (∀ k, vv.ownBlock = some k → w.heap.size ≤ k) := hbw
    have HFr : Hid (Fr (fun _ => False) w wr) := hfr
    clear how hmw hfr hbw
    by_cases h1 : i < 4096
    · have d1 : decide (i < 4096) = true := decide_eq_true h1
      go_wp2_with (first | (at_builtin; refine wpList_append_row _ rfl _ _ 22 rfl 27 i0 (.agg #[.int .i64 0, .int .i64 0, .slice none 0 0]) 3 40 Try.underlying22 hi hz0 hz1 hz2 rfl (by decide) vv i (bpC (mB g) i) rfl ((HO.out.alloc _).alloc _) ⟨wr.heap.size + 1, 0, none⟩ 1 1 [.int .i64 12, .int .i64 1, .slice (some ⟨wr.heap.size, 0, none⟩) 1 1] rfl rfl ?c1 ?c2 ?c3 ?c4 (by decide) ?_))
      case c1 =>
        have := cell3_new (wr.alloc (.cells #[.int .u64 ((i : Int) * 4503599627370496)] 23)) (.int .i64 12) (.int .i64 1) (.slice (some ⟨wr.heap.size, 0, none⟩) 1 1) 27
        rw [World.size_alloc] at this
        exact this
      case c2 =>
        intro u hu
        simp only [List.mem_cons, List.not_mem_nil, or_false] at hu
        rcases hu with rfl | rfl | rfl <;> rfl
      case c3 => unfold maxLen; omega
      case c4 => omega
      intro g' cap' w' ho hg hor hc hm
      have HO' : Hid (w'.ownsRow 0 27 3 (.slice (some ⟨g', 0, none⟩) (i + 1) cap') (i + 1) (bpC (mB (gUp g i wr.heap.size)) (i + 1))) := by rw [bpC_up]; exact ho
      have hfg := (Fr.refl (fun k => vv.ownBlock = some k) _).grown hg (fun k e _ => e)
      have HW' : Hid (Mw w' (gUp g i wr.heap.size) (i + 1)) := HW.out.up _ hfg (fun j hj => HW.out.apart HO.out j hj) (fun e => by
        obtain ⟨cur, hc'⟩ := own_type HO.out e
        exact Nat.lt_irrefl _ (lt_of_block hc'))
      have HB' : Hid (∀ k, (Value.slice (some ⟨g', 0, none⟩) (i + 1) cap').ownBlock = some k → w.heap.size ≤ k) := fun k hk => by
        simp only [Value.ownBlock, Option.some.injEq] at hk
        subst hk
        rcases hor with h | h
        · exact HBW.out _ h
        · have := HFr.out.size
          first | exact Nat.le_trans ((HFr.out.alloc _).alloc _).size h | omega
      have HF' : Hid (Fr (fun _ => False) w w') := ((HFr.out.alloc _).alloc _).grown hg (fun k e hk => by have := HBW.out k e; omega)
      clear ho hg hor hc hm hfg
      go_wp2_with fail
      go_roundg (4096 - (i + 1))
      case measure => omega
      case rel => exact ⟨i + 1, gUp g i wr.heap.size, _, by omega, by go_num, rfl, HO'.out, HW'.out, HB'.out, HF'.out⟩
    · have d1 : decide (i < 4096) = false := decide_eq_false h1
      have hie : i = 4096 := by omega
      clear h1 hjq hi4
      subst hie
      obtain ⟨gl, cl, hvv, -, -, -⟩ := row_form HO.out (by omega)
      subst hvv
      have HC1 : Hid _ := classes_first HO.out HW.out
      have hgl : Hid (w.heap.size ≤ gl ∧ gl < wr.heap.size) := ⟨HBW.out gl rfl, (HO.out.lt gl rfl).2⟩
      have HAP : Hid (∀ j, j < 4096 → ¬ (g j = gl)) := fun j hj e => HW.out.apart HO.out j hj (by rw [e]; rfl)
      have HWk : Hid (∀ w', Fr (fun k => k = gl) wr w' → Mw w' g 4096) := fun w' f => HW.out.kept f HAP.out
      have HFk : Hid (∀ w', Fr (fun k => k = gl) wr w' → Fr (fun _ => False) w w') := fun w' f => HFr.out.trans f (fun k hk h => by have := hgl.out; omega)
      go_wp2_with fail
      refine Calls.mono HC1.out ?_
      rintro e w1 ⟨ac, cc, ar, cr, rfl, hf1⟩
      have HF1 : Hid (Fr (fun _ => False) wr (w1.alloc (.cells #[.slice ac 4096 cc, .slice ar 4096 cr] 30))) := hf1.alloc _
      have HB3 : Hid ((w1.alloc (.cells #[.slice ac 4096 cc, .slice ar 4096 cr] 30)).heap[w1.heap.size]? = some (.cells #[.slice ac 4096 cc, .slice ar 4096 cr] 30 (0, 0))) := heap_alloc_new _ _
      have hs1 := hf1.size
      clear hf1
      go_wp2_with fail
      generalize w1.alloc (.cells #[.slice ac 4096 cc, .slice ar 4096 cr] 30) = w2 at *
      generalize w1.heap.size = o3 at *
      have ho3 : Hid (gl < o3) := by show _ < _; have := hgl.out; omega
      clear hs1
      refine (HWH.out _).mono ?_
      rintro e w3 ⟨gW, rfl, sW, hf3, hgW⟩
      have HSW : Hid (Seen w3 (.slice (some ⟨gW, 0, none⟩) 1 1) [0]) := sW
      have HR3 : Hid (w3.ownsRow 0 27 3 (.slice (some ⟨gl, 0, none⟩) 4096 cl) 4096 (bpC (mB g) 4096)) := row_kept HO.out (HF1.out.trans hf3 (fun _ _ h => h)) (fun _ _ h => h)
      have hgW' : Hid (gl < gW) := by show _ < _; have := hgl.out; have := HF1.out.size; omega
      have HF3 : Hid (Fr (fun _ => False) w2 w3) := hf3
      clear sW hf3 hgW
      go_wp2_with (first | (at_builtin; refine wpList_append_keep _ rfl _ _ 22 rfl 27 i0 (.agg #[.int .i64 0, .int .i64 0, .slice none 0 0]) 3 40 Try.underlying22 hi hz0 hz1 hz2 rfl (by decide) (.slice (some ⟨gl, 0, none⟩) 4096 cl) 4096 (bpC (mB g) 4096) rfl (HR3.out.alloc _) ⟨w3.heap.size, 0, none⟩ 1 1 [.int .i64 1, .int .i64 1, .slice (some ⟨gW, 0, none⟩) 1 1] rfl rfl ?c1 ?c2 ?c3 ?c4 (by decide) ?_))
      case c1 => exact cell3_new w3 (.int .i64 1) (.int .i64 1) (.slice (some ⟨gW, 0, none⟩) 1 1) 27
      case c2 =>
        intro u hu
        simp only [List.mem_cons, List.not_mem_nil, or_false] at hu
        rcases hu with rfl | rfl | rfl <;> rfl
      case c3 => decide
      case c4 => decide
      intro g4 cap4 w4 ho4 hg4 hk4
      have HF4 : Hid (Fr (fun k => k = gl) w2 w4) := ((HF3.out.mono (fun _ _ h => h.elim)).alloc _).grown hg4 (fun k e _ => by simp only [Value.ownBlock, Option.some.injEq] at e; exact e.symm)
      have HF04 : Hid (Fr (fun k => k = gl) wr w4) := (HF1.out.mono (fun _ _ h => h.elim)).trans HF4.out (fun _ _ h => h)
      have HS4 : Hid (Seen w4 (.slice (some ⟨gW, 0, none⟩) 1 1) [0]) := by
        have hc := one_seen HSW.out
        have hlt := seen_lt hc
        refine seen_one ?_
        have f34 : Fr (fun k => k = gl) w3 w4 := ((Fr.refl (fun k => k = gl) w3).alloc _).grown hg4 (fun k e _ => by simp only [Value.ownBlock, Option.some.injEq] at e; exact e.symm)
        rw [f34.cellEq hlt (fun h => by have := hgW'.out; omega)]
        exact hc
      have HR4 : Hid (w4.ownsRow 0 27 3 (.slice (some ⟨gl, 0, none⟩) 4096 cl) 4096 (bpC (mB g) 4096)) := hk4
      have HC2 : Hid _ := classes_second (gl := g4) (cl := cap4) (gW := gW) (g := g) ho4 (HWk.out _ HF04.out) HS4.out
      clear ho4 hg4 hk4
      go_wp2_with fail
      refine Calls.mono HC2.out ?_
      rintro e w5 ⟨rfl, hf5⟩
      have HF5 : Hid (Fr (fun _ => False) w4 (w5.alloc (.cells #[.slice none 0 0, .slice none 0 0] 30))) := hf5.alloc _
      have HR6 : Hid ((w5.alloc (.cells #[.slice none 0 0, .slice none 0 0] 30)).ownsRow 0 27 3 (.slice (some ⟨gl, 0, none⟩) 4096 cl) 4096 (bpC (mB g) 4096)) := row_kept HR4.out HF5.out (fun _ _ h => h)
      have l0 : (w5.alloc (.cells #[.slice none 0 0, .slice none 0 0] 30)).cell? ⟨gl, 231, none⟩ = some (.int .i64 12) := (HR6.out.cellAt 231 (by omega)).trans (bpC_at (mB g) 4096 77 (by omega)).1
      have l1 : (w5.alloc (.cells #[.slice none 0 0, .slice none 0 0] 30)).cell? ⟨gl, 232, none⟩ = some (.int .i64 1) := (HR6.out.cellAt 232 (by omega)).trans (bpC_at (mB g) 4096 77 (by omega)).2.1
      have l2 : (w5.alloc (.cells #[.slice none 0 0, .slice none 0 0] 30)).cell? ⟨gl, 233, none⟩ = some (.slice (some ⟨g 77, 0, none⟩) 1 1) := (HR6.out.cellAt 233 (by omega)).trans (bpC_at (mB g) 4096 77 (by omega)).2.2
      clear hf5
      generalize hg77 : g 77 = g77 at *
      have HG77 : Hid (g 77 = g77) := hg77
      clear hg77
      go_wp2_with (first | (at_builtin; refine wpList_append_keep _ rfl _ _ 22 rfl 27 i0 (.agg #[.int .i64 0, .int .i64 0, .slice none 0 0]) 3 40 Try.underlying22 hi hz0 hz1 hz2 rfl (by decide) (.slice (some ⟨gl, 0, none⟩) 4096 cl) 4096 (bpC (mB g) 4096) rfl (HR6.out.alloc _) ⟨w5.heap.size + 1, 0, none⟩ 1 1 [.int .i64 12, .int .i64 1, .slice (some ⟨g77, 0, none⟩) 1 1] rfl rfl ?c1 ?c2 ?c3 ?c4 (by decide) ?_))
      case c1 =>
        have := cell3_new (w5.alloc (.cells #[.slice none 0 0, .slice none 0 0] 30)) (.int .i64 12) (.int .i64 1) (.slice (some ⟨g77, 0, none⟩) 1 1) 27
        rw [World.size_alloc] at this
        exact this
      case c2 =>
        intro u hu
        simp only [List.mem_cons, List.not_mem_nil, or_false] at hu
        rcases hu with rfl | rfl | rfl <;> rfl
      case c3 => decide
      case c4 => decide
      intro g7 cap7 w7 ho7 hg7 hk7
      have HF7 : Hid (Fr (fun k => k = gl) w2 w7) := (HF4.out.trans (HF5.out.mono (fun _ _ h => h.elim)) (fun _ _ h => h)).trans (((Fr.refl (fun k => k = gl) (w5.alloc (.cells #[.slice none 0 0, .slice none 0 0] 30))).alloc _).grown hg7 (fun k e _ => by simp only [Value.ownBlock, Option.some.injEq] at e; exact e.symm)) (fun _ _ h => h)
      have HF07 : Hid (Fr (fun k => k = gl) wr w7) := (HF1.out.mono (fun _ _ h => h.elim)).trans HF7.out (fun _ _ h => h)
      have HC3 : Hid _ := classes_third (gl := g7) (cl := cap7) (g := g) (by rw [HG77.out]; exact ho7) (HWk.out _ HF07.out)
      clear ho7 hg7 hk7 l0 l1 l2
      go_wp2_with fail
      refine Calls.mono HC3.out ?_
      rintro e w8 ⟨gc, cc8, ar8, cr8, rfl, hcc8, hf8⟩
      have HF8 : Hid (Fr (fun k => k = gl) w2 (w8.alloc (.cells #[.slice (some ⟨gc, 0, none⟩) 4097 cc8, .slice ar8 4096 cr8] 30))) := (HF7.out.trans (hf8.mono (fun _ _ h => h.elim)) (fun _ _ h => h)).alloc _
      have k1 : (w8.alloc (.cells #[.slice (some ⟨gc, 0, none⟩) 4097 cc8, .slice ar8 4096 cr8] 30)).cell? ⟨gc, 4096, none⟩ = some (.int .i64 77) := by
        rw [((Fr.refl (fun _ => False) w8).alloc _).cellEq (seen_lt hcc8) (fun h => h)]
        exact hcc8
      obtain ⟨k2, -, -⟩ := two_cells (heap_alloc_new w8 (.cells #[.slice (some ⟨gc, 0, none⟩) 4097 cc8, .slice ar8 4096 cr8] 30))
      have HB9 : Hid ((w8.alloc (.cells #[.slice (some ⟨gc, 0, none⟩) 4097 cc8, .slice ar8 4096 cr8] 30)).heap[o3]? = some (.cells #[.slice ac 4096 cc, .slice ar 4096 cr] 30 (0, 0))) := by
        show _ = _
        rw [HF8.out.block _ (lt_of_block HB3.out) (by have := ho3.out; omega)]
        exact HB3.out
      obtain ⟨-, k3, -⟩ := two_cells HB9.out
      have HF9 : Hid (Fr (fun _ => False) w (w8.alloc (.cells #[.slice (some ⟨gc, 0, none⟩) 4097 cc8, .slice ar8 4096 cr8] 30))) := HFk.out _ ((HF1.out.mono (fun _ _ h => h.elim)).trans HF8.out (fun _ _ h => h))
      clear hcc8 hf8
      go_wp2_with fail
      refine (wakes_any _).mono ?_
      rintro e w9 ⟨rfl, hf9⟩
      have HFz : Hid (Fr (fun _ => False) w w9) := HF9.out.trans hf9 (fun _ _ h => h)
      clear hf9
      go_wp2_with fail
      go_ret
      exact ⟨rfl, HFz.out⟩
end Go.Proofs.Ytodgdbbhllejkab
