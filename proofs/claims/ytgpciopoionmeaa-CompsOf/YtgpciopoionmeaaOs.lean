/- 'Of': no two rows share memory; an append whose new row is known. -/
import Derived.WalkKit
import Derived.WalkSpells
import Derived.WalkLawsBesides
import Derived.Test.YtgpciopoionmeaaOf
namespace Go.Proofs.Ytgpciopoionmeaa
open Go.RowKit

theorem row_form {w : World} {b e size n : Nat} {v : Value} {xs : List Value} (h : w.ownsRow b e size v n xs) (hn : 0 < n) : ∃ g cap, v = .slice (some ⟨g, 0, none⟩) n cap ∧ b ≤ g ∧ n ≤ cap ∧ cap ≤ maxLen := by
  rcases h.2 with ⟨_, e⟩ | ⟨g, cap, cur, rfl, hb, _, hc, hm, _⟩
  · omega
  · exact ⟨g, cap, rfl, hb, hc, hm⟩

theorem wpList_append_row {P : Program} (w : World) {ops : Array Oper} {rest : List Oper} {o : Oper} {a : Act} {Q : Exit → Act → World → Prop} (hgd : o.guard = none) (s x : Operand) (t : TypeId)
    (ho : o.op = Op.call { callee := Callee.builtin Builtin.append, args := #[s, x], argTypes := #[t, t] }) (e : TypeId) (i : TypeInfo) (z : Value) (size bytes : Nat)
    (ht : P.underlying t = some (TypeDesc.slice e)) (hi : P.info? e = some i) (hz : i.zero = some z) (hsize : i.size = size) (hby : i.bytes = bytes) (hzs : z.cells.size = size) (hsz : 0 < size)
    (v : Value) (n : Nat) (xs : List Value) (hs : a.eval s = v) (hown : w.ownsRow 0 e size v n xs) (ad : Addr) (m c : Nat) (news : List Value) (hx : a.eval x = Value.slice (some ad) m c) (hl : news.length = m * size)
    (hnews : ∀ (j : Nat) (u : Value), news[j]? = some u → w.cell? (ad.add j) = some u) (h1 : ∀ (u : Value), u ∈ news → u.oneCell' = true) (h63 : n + m ≤ maxLen) (hbytes : (n + m) * bytes ≤ 140737488355328) (hm : 0 < m)
    (h : ∀ (g' cap' : Nat) (w' : World), w'.ownsRow 0 e size (.slice (some ⟨g', 0, none⟩) (n + m) cap') (n + m) (xs ++ news) → w.grownBy w' v.ownBlock → (v.ownBlock = some g' ∨ w.heap.size ≤ g') → n + m ≤ cap' → cap' ≤ maxLen →
      wpList P ops Q rest (a.put o.dst (.slice (some ⟨g', 0, none⟩) (n + m) cap')) w') : wpList P ops Q (o :: rest) a w := by
  have hownc := hown
  rcases hown.2 with ⟨rfl, rfl⟩ | ⟨g, cap, cur, rfl, hb, hg, hc, hmx, hcs, htk⟩
  · have hxs : xs = [] := List.eq_nil_of_length_eq_zero (by have := hown.1; omega)
    subst hxs
    refine wpList_append_grows w hgd s x t ho e i z size bytes ht hi hz hsize hby hzs hsz none 0 0 [] hs (fun _ => ⟨rfl, rfl⟩) (by simp) (fun b hb => by cases hb) ad m c news hx hl hnews h1 (by omega) h63 hbytes ?_
    intro v' w' ho' hgr
    obtain ⟨g', cap', rfl, hb', hc', hm'⟩ := row_form ho' (by omega)
    exact h g' cap' w' (ownsRow_base ho' (fun _ _ => Nat.zero_le _)) hgr (Or.inr hb') hc' hm'
  · by_cases hroom : n + m ≤ cap
    · refine wpList_append_fits w hgd s x t ho 0 e i size ht hi hsize g n cap xs hs hownc ad m c news hx hl hnews h1 hroom ?_
      intro w' ho' hgr
      exact h g cap w' ho' hgr (Or.inl rfl) hroom hmx
    · refine wpList_append_grows w hgd s x t ho e i z size bytes ht hi hz hsize hby hzs hsz (some ⟨g, 0, none⟩) n cap xs hs (fun hh => by cases hh) hown.1 ?_ ad m c news hx hl hnews h1 (by omega) h63 hbytes ?_
      · intro b hb j u hu
        simp only [Option.some.injEq] at hb
        subst hb
        exact hownc.cells (g := g) rfl j u hu
      · intro v' w' ho' hgr
        obtain ⟨g', cap', rfl, hb', hc', hm'⟩ := row_form ho' (by omega)
        refine h g' cap' w' (ownsRow_base ho' (fun _ _ => Nat.zero_le _)) ?_ (Or.inr hb') hc' hm'
        exact ⟨hgr.os, hgr.tape, hgr.output, hgr.size, fun k hk _ => hgr.block k hk (by simp)⟩


/-- The first k slices lie apart. -/
def Sep (vs : List Value) (k : Nat) : Prop := ∀ a b, a < b → b < k → ∀ i, (vs[a]?.getD (.slice none 0 0)).ownBlock = some i → (vs[b]?.getD (.slice none 0 0)).ownBlock ≠ some i
theorem Sep.zero (vs : List Value) : Sep vs 0 := fun _ _ _ hb => absurd hb (Nat.not_lt_zero _)
theorem Sep.put {vs : List Value} {k : Nat} {u : Value} (h : Sep vs k) (hk : k < vs.length) (hu : ∀ a, a < k → ∀ i, (vs[a]?.getD (.slice none 0 0)).ownBlock = some i → u.ownBlock ≠ some i) : Sep (vs.set k u) (k + 1) := by
  intro a b hab hb i hi
  rw [List.getElem?_set_ne (by omega)] at hi
  by_cases e : b = k
  · subst e
    rw [List.getElem?_set_self hk]
    exact hu a hab i hi
  · rw [List.getElem?_set_ne (fun h => e h.symm)]
    exact h a b hab (by omega) i hi

set_option maxRecDepth 100000 in
set_option maxHeartbeats 4000000 in
theorem of_sep (W H : Nat) (v : Value) (P : Nat → Nat → Bool) (w : World) (hb : Bm w v W H P) :
    Calls Try.prog 34 #[.agg #[.int .i64 W, .int .i64 H, v]] w fun e w' => ∃ g vs, e = .returned (.tuple #[.slice (some ⟨g, 0, none⟩) H H, .int .i64 0]) ∧ OwnRR w' w.heap.size g H H (fun y => rl (fun x => P x y) W) vs ∧ Sep vs H ∧ Fr (fun _ => False) w w' := by
  obtain ⟨i0, hi, hz0, hz1, hz2⟩ := info_parts Try.infoRow
  obtain ⟨f1, f2, f3⟩ := size_facts hb.h1 hb.h2 hb.h3
  have h1 := hb.h1
  have h2 := hb.h2
  have hS : stride W * H / H = stride W := Nat.mul_div_cancel _ (by omega)
  have HCK : Hid (∀ w', Fr (fun _ => False) w w' → Calls Try.prog 45 #[.agg #[.int .i64 W, .int .i64 H, v]] w' fun e w'' => e = .returned (.bool true) ∧ Fr (fun _ => False) w' w'') := fun w' hf => (hb.kept hf).check
  obtain ⟨ao, cap, rfl, hll, hcc⟩ := hb.seen
  have hcap := (hb.cap _ _ _ rfl).1
  have hcapm := (hb.cap _ _ _ rfl).2
  rw [length_render] at hcc hll hcap HCK ⊢
  have hne : render W H P ≠ [] := by
    intro e
    have := length_render W H P
    rw [e] at this
    simp only [List.length_nil] at this
    have := Nat.mul_le_mul h2 (stride_pos (W := W) (by omega))
    omega
  obtain ⟨b0, off, rfl, hcell⟩ := hcc hne
  have HRO : Hid (∀ (y : Nat) (w' : World) (c : Nat), y < H → Fr (fun _ => False) w w' → Calls Try.prog 55 #[.slice (some ⟨b0, off + y * stride W, none⟩) (stride W) c, .int .i64 W] w' fun e w'' => ∃ rv, e = .returned rv ∧ w''.ownsRow w'.heap.size 100 2 rv (rl (fun x => P x y) W).length (runCells (rl (fun x => P x y) W)) ∧ Fr (fun _ => False) w' w'') := fun y w' c hy hf => by
    refine runsOf_any b0 (off + y * stride W) W c (fun x => P x y) w' h1 f1 (fun k hk => ?_)
    have := hcell (y * stride W + k) (at_lt hy hk)
    rw [render_get P hy hk, Option.getD_some] at this
    rw [← Nat.add_assoc] at this
    rw [hf.cellEq (seen_lt this) (fun h => h)]
    exact this
  have HSP : Hid (0 < stride W) := stride_pos (by omega)
  have hSb : stride W ≤ 1048576 := by unfold stride; omega
  have HS : Hid (∀ y, y < H → (y + 1) * stride W ≤ H * stride W) := fun y hy => Nat.mul_le_mul_right _ hy
  clear hcell hcc hne hb hll
  generalize hgS : stride W = S at *
  have hdiv : ((H * S : Nat) : Int).tdiv (H : Int) = (S : Int) := by
    rw [Int.tdiv_eq_ediv_of_nonneg (by omega), ← Int.natCast_ediv, Nat.mul_comm, hS]
  have hws : wrap64 (S : Int) = (S : Int) := by simp only [wrap64]; omega
  clear hgS hS
  have HBX : Hid (∀ w', Fr (fun _ => False) (w.alloc (.cells #[.int .i64 W, .int .i64 H, .slice (some ⟨b0, off, none⟩) (H * S) cap] 25)) w' → w'.cell? ⟨w.heap.size, 0, none⟩ = some (.int .i64 W) ∧ w'.cell? ⟨w.heap.size, 1, none⟩ = some (.int .i64 H) ∧ w'.cell? ⟨w.heap.size, 2, none⟩ = some (.slice (some ⟨b0, off, none⟩) (H * S) cap)) := fun w' hf => by
    obtain ⟨c0, c1, c2, _⟩ := cell_of_three ((hf.block w.heap.size (by simp) (fun hh => hh)).trans (heap_alloc_new w _))
    exact ⟨c0, c1, c2⟩
  have HA : Hid (Fr (fun _ => False) w (w.alloc (.cells #[.int .i64 W, .int .i64 H, .slice (some ⟨b0, off, none⟩) (H * S) cap] 25))) := (Fr.refl _ _).alloc _
  have hdz : ((H : Int) == 0) = false := by rw [beq_eq_false_iff_ne]; omega
  generalize hN : H * S = N at *
  go_enter Try.func34, Try.ntmps34
  go_wp2_with fail
  generalize w.alloc (.cells #[.int .i64 W, .int .i64 H, .slice (some ⟨b0, off, none⟩) N cap] 25) = w0 at *
  refine (HCK.out _ HA.out).mono ?_
  rintro e w1 ⟨rfl, hf1⟩
  have HF1 : Hid (Fr (fun _ => False) w0 w1) := hf1
  obtain ⟨c0, c1, c2⟩ := HBX.out _ hf1
  clear hf1 HCK
  go_wp2_with (first | (at_make; refine wpList_make_full _ rfl _ _ 63 rfl w.heap.size 97 i0 (.slice none 0 0) 1 Try.underlying63 hi hz0 hz1 .i64 .i64 _ _ H rfl rfl ?_ ?_ ?_ ?_ ?_ ?_))
  · omega
  · omega
  · rw [hz2]; omega
  · unfold maxLen; omega
  · have := HA.out.size; have := HF1.out.size; omega
  · intro w2 hown hgrow
    have HF2 : Hid (Fr (fun _ => False) w0 w2) := HF1.out.trans ((Fr.refl _ _).grown hgrow (fun _ e _ => by cases e)) (fun _ _ h => h)
    have HO : Hid (OwnRR w2 w.heap.size w1.heap.size H 0 (fun y => rl (fun x => P x y) W) (List.replicate H (.slice none 0 0))) := ⟨by rw [← toList_madeCells_one]; exact hown, fun y hy => absurd hy (Nat.not_lt_zero _)⟩
    have HSZ : Hid (w.heap.size ≤ w0.heap.size ∧ w0.heap.size ≤ w1.heap.size) := ⟨HA.out.size, HF1.out.size⟩
    have HLW : Hid (w.heap.size < w1.heap.size) := seen_lt c0
    clear hown hgrow c0 c1 c2
    generalize w1.heap.size = g at *
    go_wp2_with fail
    go_loopg [6, 21] H (fun q yv i wr => ∃ (y : Nat) (vs : List Value), y + q = H ∧ i = .int .i64 y ∧ OwnRR wr w.heap.size g H y (fun y => rl (fun x => P x y) W) vs ∧ Sep vs y ∧ Fr (fun _ => False) w0 wr)
    case atStart => exact ⟨0, _, by omega, rfl, HO.out, Sep.zero _, HF2.out⟩
    case round =>
      obtain ⟨y, vs, hyq, rfl, hown, hsep, hfr⟩ := hrel
      have HSP2 : Hid (Sep vs y) := hsep
      clear hsep
      have HOy : Hid (OwnRR wr w.heap.size g H y (fun y => rl (fun x => P x y) W) vs) := hown
      have HFr : Hid (Fr (fun _ => False) w0 wr) := hfr
      clear hown hfr
      by_cases hyH : y < H
      · have hdy : decide (y < H) = true := decide_eq_true hyH
        have hYS := HS.out y hyH
        obtain ⟨Y, hY⟩ : ∃ Y, Y = y * S := ⟨_, rfl⟩
        obtain ⟨Z, hZ⟩ : ∃ Z, Z = (y + 1) * S := ⟨_, rfl⟩
        have hZY : Z = Y + S := by rw [hY, hZ, Nat.add_mul, Nat.one_mul]
        have HR0 : Hid (∀ (w' : World) (c : Nat), Fr (fun _ => False) w w' → Calls Try.prog 55 #[.slice (some ⟨b0, off + Y, none⟩) S c, .int .i64 W] w' fun e w'' => ∃ rv, e = .returned rv ∧ w''.ownsRow w'.heap.size 100 2 rv (rl (fun x => P x y) W).length (runCells (rl (fun x => P x y) W)) ∧ Fr (fun _ => False) w' w'') := fun w' c hf => by
          have := HRO.out y w' c hyH hf
          rwa [← hY] at this
        rw [← hZ] at hYS
        have g1 : IntKind.i64.wrap ((y : Int) * (S : Int)) = (Y : Int) := by rw [IntKind.wrap_i64, ← Int.natCast_mul, ← hY]; omega
        have g2 : IntKind.i64.wrap ((y : Int) + 1) = (y : Int) + 1 := by rw [IntKind.wrap_i64]; omega
        have g3 : IntKind.i64.wrap (((y : Int) + 1) * (S : Int)) = (Z : Int) := by rw [show (y : Int) + 1 = ((y + 1 : Nat) : Int) by omega, IntKind.wrap_i64, ← Int.natCast_mul, ← hZ]; omega
        have g4 : (0 : Int) ≤ (Y : Int) := by omega
        have g5 : (Y : Int) ≤ (Z : Int) := by omega
        have g6 : (Z : Int) ≤ (cap : Int) := by omega
        have g7 : (0 : Int) ≤ (y : Int) := by omega
        have g8 : (y : Int) < (H : Int) := by omega
        have hZs : Z - Y = S := by omega
        have hS1 : 0 < S := HSP.out
        have hcY : ¬ cap = Y := by omega
        have hYZ : Y ≤ Z := by omega
        clear hY hZ hZY HRO hS1
        have HBY : Hid (∀ w', Fr (fun k => k = g) wr w' → w'.cell? ⟨w.heap.size, 0, none⟩ = some (.int .i64 W) ∧ w'.cell? ⟨w.heap.size, 2, none⟩ = some (.slice (some ⟨b0, off, none⟩) N cap)) := fun w' hf => by
          obtain ⟨k0, _, k2⟩ := HBX.out _ HFr.out
          have hne : w.heap.size ≠ g := by have := HSZ.out; have := seen_lt k0; have := HLW.out; omega
          rw [hf.cellEq (seen_lt k0) hne, hf.cellEq (seen_lt k2) hne]
          exact ⟨k0, k2⟩
        go_wp2_with fail
        go_region_held3 (fun w' => w'.cell? ⟨w.heap.size, 0, none⟩ = some (.int .i64 W) ∧ w'.cell? ⟨w.heap.size, 2, none⟩ = some (.slice (some ⟨b0, off, none⟩) N cap)) (exact HBY.out _ (by repeat (first | with_reducible exact Fr.refl _ _ | with_reducible refine Fr.drew ?_ | with_reducible refine Fr.slot ?_ _ | with_reducible exact hf4))) (first | (go_at_call 55; refine (HR0.out _ _ (HA.out.trans HFr.out.drew (fun _ _ h => h))).mono ?_; rintro e w4 ⟨rv, rfl, ho4, hf4'⟩; obtain ⟨ao4, c4, rfl⟩ := own_slice ho4; have hf4 : Fr (fun k => k = g) wr w4 := ((Fr.refl _ _).drew.trans hf4' (fun _ _ h => h.elim)); have hf5 : Fr (fun _ => False) wr w4 := ((Fr.refl _ _).drew.trans hf4' (fun _ _ h => h)); have HO4 : Hid (OwnRR w4 w.heap.size g H y (fun y => rl (fun x => P x y) W) vs) := HOy.out.kept hf5 (fun _ _ h => h); have HO5 : Hid (w4.ownsRow w.heap.size 100 2 (.slice ao4 (rl (fun x => P x y) W).length c4) (rl (fun x => P x y) W).length (runCells (rl (fun x => P x y) W))) := ownsRow_base ho4 (fun k hk => by have := (ho4.lt k hk).1; have := HFr.out.size; have := HSZ.out; have : wr.drew.heap.size = wr.heap.size := rfl; omega); have HFS : Hid (∀ i, Value.ownBlock (.slice ao4 (rl (fun x => P x y) W).length c4) = some i → wr.heap.size ≤ i) := (fun i hi => (ho4.lt i hi).1); have HF5 : Hid (Fr (fun _ => False) wr w4) := hf5; have k4 := HO4.out.own.frozenAt y; clear ho4 hf5; obtain ⟨u4, k5⟩ : ∃ u, w4.cell? ⟨g, y, none⟩ = some u := ⟨_, (HO4.out.own.cellAt y (by omega)).trans (List.getElem?_eq_getElem (by have := HO4.out.own.1; omega))⟩))
        have HO6 : Hid (OwnRR (w4.setCell ⟨g, y, none⟩ (.slice ao4 (rl (fun x => P x y) W).length c4)) w.heap.size g H (y + 1) (fun y => rl (fun x => P x y) W) (vs.set y (.slice ao4 (rl (fun x => P x y) W).length c4))) := HO4.out.put hyH HO5.out
        have HS6 : Hid (Sep (vs.set y (.slice ao4 (rl (fun x => P x y) W).length c4)) (y + 1)) := HSP2.out.put (by have := HOy.out.own.1; omega) (fun a ha i hi hu => by have := HFS.out i hu; have := ((HOy.out.at_ a ha).lt i hi).2; omega)
        have HF6 : Hid (Fr (fun _ => False) w0 (w4.setCell ⟨g, y, none⟩ (.slice ao4 (rl (fun x => P x y) W).length c4))) := (HFr.out.trans HF5.out (fun _ _ h => h)).setCell (p := ⟨g, y, none⟩) (fun h => by have := HSZ.out; exact absurd h (by show ¬ g < w0.heap.size; omega)) _
        go_wp2_with fail
        go_roundg (H - (y + 1))
        case measure => omega
        case rel => exact ⟨y + 1, _, by omega, congrArg (Value.int .i64) (by omega), HO6.out, HS6.out, HF6.out⟩
      · have hye : y = H := by omega
        have hdy : decide (y < H) = false := decide_eq_false hyH
        have HOH : Hid (OwnRR wr w.heap.size g H H (fun y => rl (fun x => P x y) W) vs) := by have := HOy.out; rw [hye] at this; exact this
        have HSH : Hid (Sep vs H) := by have := HSP2.out; rw [hye] at this; exact this
        clear hye
        go_wp2_with fail
        go_ret2
        exact ⟨g, vs, rfl, HOH.out, HSH.out, HA.out.trans HFr.out (fun _ _ h => h)⟩


end Go.Proofs.Ytgpciopoionmeaa
