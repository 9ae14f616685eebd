/- Pieces that were told, laid again: the bitmap. -/
import Derived.Test.YtgpciopoionmeaaCb
import Derived.Test.YtgpciopoionmeaaCo
namespace Go.Proofs.Ytgpciopoionmeaa
open Go.RowKit

/-- Each black pixel is connected with a first one. -/
theorem exists_first {W H : Nat} {P : Nat → Nat → Bool} : ∀ (n : Nat) (p : Nat × Nat), p.2 * W + p.1 = n → Bk W H P p → ∃ f, First (Bk W H P) f ∧ PC (Bk W H P) f p := by
  intro n
  induction n using Nat.strongRecOn with
  | _ n ih =>
    intro p hp hb
    by_cases h : First (Bk W H P) p
    · exact ⟨p, h, .refl hb⟩
    · have : ∃ q, PC (Bk W H P) p q ∧ ras q p := by
        apply Classical.byContradiction
        intro hn
        exact h ⟨hb, fun q hq hr => hn ⟨q, hq, hr⟩⟩
      obtain ⟨q, hq, hr⟩ := this
      have h1 := hq.right.1
      have h2 := hb.1
      have hlt : q.2 * W + q.1 < n := by
        rcases hr with hr | ⟨e, hr⟩
        · have := Nat.mul_le_mul_right W (show q.2 + 1 ≤ p.2 by omega)
          rw [Nat.add_mul, Nat.one_mul] at this
          omega
        · rw [e]; omega
      obtain ⟨f, hf, hpc⟩ := ih _ hlt q rfl hq.right
      exact ⟨f, hf, hpc.trans hq.symm⟩

def rpOf (q : PV) : Rp := ⟨q.1.X, q.1.Y, q.1.W, q.1.H, .slice (some ⟨q.2.1, 0, none⟩) (q.1.H * stride q.1.W) q.2.2, render q.1.W q.1.H q.1.Q⟩
theorem length_cellsP (q : PV) : (cellsP q).length = 5 := rfl
theorem cellsPs_at : ∀ (l : List PV) (i : Nat) (h : i < l.length), (cellsPs l)[i * 5]? = some (.int .i64 (l[i].1.X : Nat)) ∧ (cellsPs l)[i * 5 + 1]? = some (.int .i64 (l[i].1.Y : Nat)) ∧ (cellsPs l)[i * 5 + 2]? = some (.int .i64 (l[i].1.W : Nat)) ∧ (cellsPs l)[i * 5 + 3]? = some (.int .i64 (l[i].1.H : Nat)) ∧ (cellsPs l)[i * 5 + 4]? = some (.slice (some ⟨l[i].2.1, 0, none⟩) (l[i].1.H * stride l[i].1.W) l[i].2.2)
  | [], _, h => absurd h (Nat.not_lt_zero _)
  | q :: t, 0, _ => ⟨rfl, rfl, rfl, rfl, rfl⟩
  | q :: t, i + 1, h => by
    have := cellsPs_at t i (by simpa using h)
    have e : cellsPs (q :: t) = cellsP q ++ cellsPs t := rfl
    have k : ∀ j, (cellsPs (q :: t))[(i + 1) * 5 + j]? = (cellsPs t)[i * 5 + j]? := fun j => by
      rw [e, List.getElem?_append_right (by rw [length_cellsP]; omega), length_cellsP]
      congr 1; omega
    have k0 := k 0
    simp only [Nat.add_zero] at k0
    rw [k0, k 1, k 2, k 3, k 4]
    simpa using this
/-- What pieces of a bitmap keep to. -/
theorem pcs_in {W H : Nat} {P : Nat → Nat → Bool} {fs : List (Nat × Nat)} {l : List Pc} (h : Pcs (Bk W H P) fs l) {p : Pc} (hp : p ∈ l) : 1 ≤ p.W ∧ 1 ≤ p.H ∧ p.X + p.W ≤ W ∧ p.Y + p.H ≤ H := by
  obtain ⟨k, hk, rfl⟩ := List.getElem_of_mem hp
  obtain ⟨f, _, hi⟩ := h.at (List.getElem?_eq_getElem hk)
  have h1 := hi.pos
  obtain ⟨q, hq, e⟩ := hi.r
  obtain ⟨q', hq', e'⟩ := hi.b
  have := hq.right.1
  have := hq'.right.2.1
  exact ⟨h1.1, h1.2, by omega, by omega⟩
theorem pcs_area {W H : Nat} {P : Nat → Nat → Bool} {fs : List (Nat × Nat)} {l : List Pc} (h : Pcs (Bk W H P) fs l) (hWH : W * H ≤ 1048576) {p : Pc} (hp : p ∈ l) : p.W * p.H ≤ 1048576 := by
  have := pcs_in h hp
  exact Nat.le_trans (Nat.mul_le_mul (by omega) (by omega)) hWH
theorem OwnPs.seen {w : World} {base : Nat} {v : Value} {L : List PV} {W H : Nat} {P : Nat → Nat → Bool} {fs : List (Nat × Nat)} (h : OwnPs w base v L) (hp : Pcs (Bk W H P) fs (L.map (·.1))) (hWH : W * H ≤ 1048576) (hW : 1 ≤ W) (hH : 1 ≤ H) : SeenPs w v (L.map rpOf) := by
  obtain ⟨ao, c, rfl⟩ := own_slice h.own
  obtain ⟨f1, f2, f3⟩ := size_facts hW hH hWH
  have hlen : L.length ≤ 9223372036854775807 := by
    rcases h.own.2 with ⟨_, e⟩ | ⟨g, cap, cur, _, _, _, hc, hm, _⟩
    · omega
    · unfold maxLen at hm; omega
  refine ⟨ao, c, by rw [List.length_map], by rw [List.length_map]; exact hlen, fun r hr => ?_, fun hn => ?_⟩
  · obtain ⟨q, hq, rfl⟩ := List.mem_map.1 hr
    have hm : q.1 ∈ L.map (·.1) := List.mem_map.2 ⟨q, hq, rfl⟩
    have hin := pcs_in hp hm
    have har := pcs_area hp hWH hm
    obtain ⟨_, _, g3⟩ := size_facts hin.1 hin.2.1 har
    refine ⟨?_, ?_, ?_, ?_, (h.at_ q hq).1.seen g3, render_lt' _ _ _⟩ <;> (unfold in64 rpOf; simp only; omega)
  · have hpos : 0 < L.length := by
      cases L with
      | nil => simp at hn
      | cons _ _ => simp
    obtain ⟨g, cap, e, _⟩ := row_form h.own hpos
    simp only [Value.slice.injEq] at e
    obtain ⟨rfl, _, rfl⟩ := e
    refine ⟨g, 0, rfl, fun i hi => ?_⟩
    rw [List.length_map] at hi
    have k : ∀ j, j < 5 → w.cell? ⟨g, 0 + i * 5 + j, none⟩ = (cellsPs L)[i * 5 + j]? := fun j hj => by rw [Nat.zero_add]; exact h.own.cellAt _ (by omega)
    obtain ⟨a0, a1, a2, a3, a4⟩ := cellsPs_at L i hi
    have k0 := k 0 (by omega)
    simp only [Nat.add_zero] at k0
    rw [k0, k 1 (by omega), k 2 (by omega), k 3 (by omega), k 4 (by omega), List.getElem_map]
    exact ⟨a0, a1, a2, a3, a4⟩
theorem foldl_or (L : List Rp) : ∀ (P : Nat → Nat → Bool) (a e : Nat), L.foldl orP P a e = (P a e || L.any fun r => orP (fun _ _ => false) r a e) := by
  induction L with
  | nil => intro P a e; simp
  | cons r t ih =>
    intro P a e
    rw [List.foldl_cons, ih, List.any_cons]
    show (orP P r a e || _) = _
    unfold orP
    simp [Bool.or_assoc]
theorem backP_any (L : List Rp) (a e : Nat) : backP L a e = L.any fun r => orP (fun _ _ => false) r a e := by
  unfold backP; rw [foldl_or]; simp
theorem pixOf_render {W H : Nat} (Q : Nat → Nat → Bool) {x y : Nat} (hx : x < W) (hy : y < H) : pixOf W (render W H Q) x y = Q x y := by
  have hr := valid_render W H (render W H Q) (by omega) (length_render W H Q) (fun j hj => render_rowOK W H Q (by omega) j hj) (render_lt' W H Q)
  exact (render_inj hr x y hx hy).symm
/-- Which pixels a piece that was told blackens. -/
theorem rp_pix {B : Nat × Nat → Prop} {f : Nat × Nat} {q : PV} (h : IsPc B f q.1) (a e : Nat) : orP (fun _ _ => false) (rpOf q) a e = true ↔ PC B f (a, e) := by
  unfold orP rpOf
  simp only [Bool.false_or, Bool.and_eq_true, decide_eq_true_eq]
  constructor
  · rintro ⟨⟨h1, h2, h3, h4⟩, hp⟩
    rw [Int.toNat_natCast] at hp
    have e1 : ((a : Int) - (q.1.X : Int)).toNat = a - q.1.X := by omega
    have e2 : ((e : Int) - (q.1.Y : Int)).toNat = e - q.1.Y := by omega
    rw [e1, e2, pixOf_render q.1.Q (by omega) (by omega)] at hp
    have := (h.pix _ _ (by omega) (by omega)).1 hp
    rwa [show q.1.X + (a - q.1.X) = a by omega, show q.1.Y + (e - q.1.Y) = e by omega] at this
  · intro hpc
    have hb := h.box _ hpc
    simp only at hb
    refine ⟨by omega, ?_⟩
    rw [Int.toNat_natCast]
    have e1 : ((a : Int) - (q.1.X : Int)).toNat = a - q.1.X := by omega
    have e2 : ((e : Int) - (q.1.Y : Int)).toNat = e - q.1.Y := by omega
    rw [e1, e2, pixOf_render q.1.Q (by omega) (by omega), h.pix _ _ (by omega) (by omega), show q.1.X + (a - q.1.X) = a by omega, show q.1.Y + (e - q.1.Y) = e by omega]
    exact hpc
theorem back_of {W H : Nat} {P : Nat → Nat → Bool} {fs : List (Nat × Nat)} {L : List PV} (hf : Firsts (Bk W H P) fs) (hp : Pcs (Bk W H P) fs (L.map (·.1))) (a e : Nat) (ha : a < W) (he : e < H) : backP (L.map rpOf) a e = P a e := by
  rw [backP_any, Bool.eq_iff_iff, List.any_eq_true]
  constructor
  · rintro ⟨r, hr, hx⟩
    obtain ⟨q, hq, rfl⟩ := List.mem_map.1 hr
    obtain ⟨k, hk, rfl⟩ := List.getElem_of_mem hq
    obtain ⟨f, _, hi⟩ := hp.at (k := k) (p := L[k].1) (by rw [List.getElem?_map, List.getElem?_eq_getElem hk]; rfl)
    exact ((rp_pix hi a e).1 hx).right.2.2
  · intro h
    obtain ⟨f, hff, hpc⟩ := exists_first _ (a, e) rfl (show Bk W H P (a, e) from ⟨ha, he, h⟩)
    obtain ⟨k, hk, hkf⟩ := List.getElem_of_mem ((hf.mem f).2 hff)
    have hl := hp.length
    rw [List.length_map] at hl
    have hk' : k < L.length := by omega
    obtain ⟨f', hf', hi⟩ := hp.at (k := k) (p := L[k].1) (by rw [List.getElem?_map, List.getElem?_eq_getElem hk']; rfl)
    rw [List.getElem?_eq_getElem hk, hkf] at hf'
    cases hf'
    exact ⟨rpOf L[k], List.mem_map.2 ⟨_, List.getElem_mem hk', rfl⟩, (rp_pix hi a e).2 hpc⟩
theorem ok_of {W H : Nat} {P : Nat → Nat → Bool} {fs : List (Nat × Nat)} {L : List PV} (hW : 1 ≤ W) (hH : 1 ≤ H) (hWH : W * H ≤ 1048576) (hp : Pcs (Bk W H P) fs (L.map (·.1))) : okBk (L.map rpOf) W H = true := by
  unfold okBk
  rw [Bool.and_eq_true, List.all_eq_true]
  refine ⟨?_, fun r hr => ?_⟩
  · unfold sizeOK
    refine decide_eq_true ⟨by omega, by omega, ?_⟩
    rw [← Int.natCast_mul]; omega
  · obtain ⟨q, hq, rfl⟩ := List.mem_map.1 hr
    have hm : q.1 ∈ L.map (·.1) := List.mem_map.2 ⟨q, hq, rfl⟩
    have hin := pcs_in hp hm
    exact render_valid _ _ _ hin.1 hin.2.1 (pcs_area hp hWH hm)
/-- Of, then Back. -/
theorem cback_of {W H : Nat} {P : Nat → Nat → Bool} {fs : List (Nat × Nat)} {L : List PV} {base : Nat} {v : Value} (w : World) (hW : 1 ≤ W) (hH : 1 ≤ H) (hWH : W * H ≤ 1048576) (hf : Firsts (Bk W H P) fs) (hp : Pcs (Bk W H P) fs (L.map (·.1))) (ho : OwnPs w base v L) :
    Calls Try.prog 18 #[v, .int .i64 W, .int .i64 H] w fun e w' => ∃ g cap, e = .returned (.tuple #[.agg #[.int .i64 W, .int .i64 H, .slice (some ⟨g, 0, none⟩) (H * stride W) cap], .int .i64 0]) ∧ RowAt w' g cap W H P ∧ w.heap.size ≤ g ∧ Fr (fun _ => False) w w' := by
  obtain ⟨f1, f2, f3⟩ := size_facts hW hH hWH
  refine (cback_any v (L.map rpOf) W H w (ho.seen hp hWH hW hH) (by unfold in64; omega) (by unfold in64; omega)).mono ?_
  rintro e w' ⟨hok, _, hfr⟩
  obtain ⟨g, cap, he, hr, hg⟩ := hok (ok_of hW hH hWH hp)
  rw [Int.toNat_natCast, Int.toNat_natCast] at he hr
  refine ⟨g, cap, he, ?_, hg, hfr⟩
  have : render W H (backP (L.map rpOf)) = render W H P := render_congr (fun x y hx hy => back_of hf hp x y hx hy)
  unfold RowAt at hr ⊢
  rwa [this] at hr

end Go.Proofs.Ytgpciopoionmeaa
