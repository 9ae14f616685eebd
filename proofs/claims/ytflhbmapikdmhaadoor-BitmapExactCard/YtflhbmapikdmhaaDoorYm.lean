/- The law's 'maps': of the bitmaps that may be, at most four, on both sides. -/
import Derived.Test.YtflhbmapikdmhaaDoorYa
import Derived.Test.YtflhbmapikdmhaaDoorYc
import Derived.Test.YtflhbmapikdmhaaDoorLe
import Derived.Test.YtflhbmapikdmhaaDoorFrom
import Derived.Test.YtflhbmapikdmhaaDoorMay
import Derived.Test.YtflhbmapikdmhaaDoorWy
namespace Go.Proofs.YtflhbmapikdmhaaDoor
set_option maxRecDepth 100000
open Go.RowKit

theorem Tryd.infoPm : (Tryd.prog.info? 34).map (fun i => (i.zero, i.size, i.bytes)) = some (some (.pointer none), 1, 8) := by kernel_rfl
theorem Tryd.infoBm : (Tryd.prog.info? 39).map (fun i => (i.zero, i.size, i.bytes)) = some (some (.agg #[.int .i64 0, .int .i64 0, .slice none 0 0]), 3, 40) := by kernel_rfl

/-- Bitmaps that are handed in. -/
structure Bp where
  x : Int
  y : Int
  v : Value
  l : List Nat
structure BpOK (w : World) (a : Bp) : Prop where
  hx : -9223372036854775808 ≤ a.x ∧ a.x ≤ 9223372036854775807
  hy : -9223372036854775808 ≤ a.y ∧ a.y ≤ 9223372036854775807
  hv : Seen w a.v a.l
  hn : NilOK a.v
  hc : CapOK a.v
  hlt : ∀ j : Nat, a.l[j]?.getD 0 < 18446744073709551616
structure BpsAt (w : World) (ao : Option Addr) (n : Nat) (A : Nat → Bp) : Prop where
  len : n ≤ 9223372036854775807
  cells : 0 < n → ∃ b off, ao = some ⟨b, off, none⟩ ∧ ∀ j, j < n → w.cell? ⟨b, off + j * 3, none⟩ = some (.int .i64 (A j).x) ∧ w.cell? ⟨b, off + j * 3 + 1, none⟩ = some (.int .i64 (A j).y) ∧ w.cell? ⟨b, off + j * 3 + 2, none⟩ = some (A j).v
  ok : ∀ j, j < n → BpOK w (A j)
theorem seen_cellF {w w' : World} (f : Fr (fun _ => False) w w') {b o : Nat} {v : Value} (h : w.cell? ⟨b, o, none⟩ = some v) : w'.cell? ⟨b, o, none⟩ = some v := by
  rw [f.cellEq (seen_lt h) (fun h => h)]; exact h
theorem BpsAt.kept {w w' : World} {ao : Option Addr} {n : Nat} {A : Nat → Bp} (h : BpsAt w ao n A) (f : Fr (fun _ => False) w w') : BpsAt w' ao n A := by
  refine ⟨h.len, fun hn => ?_, fun j hj => ?_⟩
  · obtain ⟨b, off, e, hc⟩ := h.cells hn
    refine ⟨b, off, e, fun j hj => ?_⟩
    obtain ⟨a, b, c⟩ := hc j hj
    exact ⟨seen_cellF f a, seen_cellF f b, seen_cellF f c⟩
  · have q := h.ok j hj
    exact ⟨q.hx, q.hy, q.hv.kept f, q.hn, q.hc, q.hlt⟩

/-- Alike: the maps and the bitmaps have the same pixels. -/
def Ag (n : Nat) (M : Nat → Mp) (R : Nat → Rw) : Prop := ∀ j, j < n → (M j).W = (R j).W ∧ (M j).H = (R j).H ∧ (M j).P = (R j).P
/-- All is newer than a world. -/
structure Fs (w : World) (v u : Value) (n : Nat) (M : Nat → Mp) (R : Nat → Rw) : Prop where
  v : ∀ k, v.ownBlock = some k → w.heap.size ≤ k
  u : ∀ k, u.ownBlock = some k → w.heap.size ≤ k
  e : ∀ j, j < n → w.heap.size ≤ (M j).b ∧ w.heap.size ≤ (M j).g ∧ w.heap.size ≤ (R j).g
theorem own_slice {w : World} {base e s n : Nat} {v : Value} {xs : List Value} (h : w.ownsRow base e s v n xs) : ∃ ao c, v = .slice ao n c := by
  rcases h.2 with ⟨rfl, h0⟩ | ⟨g, cap, cur, rfl, _⟩
  · subst h0; exact ⟨none, 0, rfl⟩
  · exact ⟨_, cap, rfl⟩
theorem cell1_new (w : World) (a : Value) (t : TypeId) : ∀ (j : Nat) (u : Value), [a][j]? = some u → (w.alloc (.cells #[a] t)).cell? (Addr.add ⟨w.heap.size, 0, none⟩ j) = some u := fun j u hu => by
  have h := heap_alloc_new w (.cells #[a] t)
  match j, hu with
  | 0, hu => cases hu; show (w.alloc (.cells #[a] t)).cell? ⟨w.heap.size, 0, none⟩ = _; unfold World.cell?; simp only [h]; rfl
  | j + 1, hu => simp at hu
theorem cell3_new (w : World) (a b c : Value) (t : TypeId) : ∀ (j : Nat) (u : Value), [a, b, c][j]? = some u → (w.alloc (.cells #[a, b, c] t)).cell? (Addr.add ⟨w.heap.size, 0, none⟩ j) = some u := fun j u hu => by
  have h := heap_alloc_new w (.cells #[a, b, c] t)
  match j, hu with
  | 0, hu => cases hu; show (w.alloc (.cells #[a, b, c] t)).cell? ⟨w.heap.size, 0, none⟩ = _; unfold World.cell?; simp only [h]; rfl
  | 1, hu => cases hu; show (w.alloc (.cells #[a, b, c] t)).cell? ⟨w.heap.size, 1, none⟩ = _; unfold World.cell?; simp only [h]; rfl
  | 2, hu => cases hu; show (w.alloc (.cells #[a, b, c] t)).cell? ⟨w.heap.size, 2, none⟩ = _; unfold World.cell?; simp only [h]; rfl
  | j + 3, hu => simp at hu

/-- One more map and one more bitmap. -/
theorem Bo.push {w w1 w2 : World} {v u v1 u1 : Value} {n : Nat} {M : Nat → Mp} {R : Nat → Rw} {m : Mp} {r : Rw} (h : Bo w v u n M R) (hm : MapAt w m.b m.g m.cap m.W m.H m.P) (hfm : ∀ j, j < n → (M j).b ≠ m.b ∧ (M j).g ≠ m.g ∧ (R j).g ≠ m.g)
    (hl : w1.ownsRow 0 34 1 v1 (n + 1) (ptrC M n ++ [ptrV m])) (f1 : Fr (fun k => v.ownBlock = some k) w w1) {w1' : World} (f1' : Fr (fun _ => False) w1 w1') (hr : RowAt w1' r.g r.cap r.W r.H r.P) (hfr : w1.heap.size ≤ r.g)
    (hu : w2.ownsRow 0 39 3 u1 (n + 1) (rowC R n ++ [.int .i64 (r.W : Int), .int .i64 (r.H : Int), .slice (some ⟨r.g, 0, none⟩) (r.H * stride r.W) r.cap])) (f2 : Fr (fun k => u.ownBlock = some k) w1' w2) :
    Bo w2 v1 u1 (n + 1) (updF M n m) (updF R n r) := by
  have kl : ∀ {b g cap W H P}, MapAt w b g cap W H P → MapAt w1' b g cap W H P := fun {b g cap W H P} q => by
    refine (q.kept f1 (fun e => ?_) (fun e => ?_)).kept f1' (fun h => h) (fun h => h)
    · rcases h.l.row.2 with ⟨e1, _⟩ | ⟨g1, c1, cur, e1, _⟩
      · rw [e1] at e; cases e
      · rw [e1] at e
        simp only [Value.ownBlock, Option.some.injEq] at e
        exact q.nrow (by have := h.l.row; rw [e1] at this; exact this) (by decide) e.symm
    · exact own_ne h.l.row q.own (by decide) e
  have hu1 : RR w1' u n R := ⟨row_kept (row_kept h.r.row f1 (fun k hk e => by
      rcases h.r.row.2 with ⟨e1, _⟩ | ⟨g1, c1, cur, e1, _⟩
      · rw [e1] at hk; cases hk
      · rw [e1] at hk
        simp only [Value.ownBlock, Option.some.injEq] at hk
        subst hk
        exact own_ne h.l.row (by have := h.r.row; rw [e1] at this; exact this) (by decide) e)) f1' (fun _ _ h => h), fun j hj => ((h.r.at_ j hj).kept f1 (fun e => (h.vg hj).2.2.1 e)).kept f1' (fun h => h), h.r.ne⟩
  have km : ∀ {b g cap W H P}, MapAt w1' b g cap W H P → MapAt w2 b g cap W H P := fun {b g cap W H P} q => by
    refine q.kept f2 (fun e => ?_) (fun e => ?_)
    · rcases hu1.row.2 with ⟨e1, _⟩ | ⟨g1, c1, cur, e1, _⟩
      · rw [e1] at e; cases e
      · rw [e1] at e
        simp only [Value.ownBlock, Option.some.injEq] at e
        exact q.nrow (by have := hu1.row; rw [e1] at this; exact this) (by decide) e.symm
    · exact own_ne hu1.row q.own (by decide) e
  have kr : ∀ {g cap W H P}, RowAt w1' g cap W H P → RowAt w2 g cap W H P := fun {g cap W H P} q => q.kept f2 (fun e => own_ne hu1.row q (by decide) e)
  have hlt : m.b < w1.heap.size ∧ m.g < w1.heap.size := by have h1 := hm.lt; have h2 := hm.glt; have h3 := f1.size; omega
  have hlts : ∀ j, j < n → (M j).g < w1.heap.size ∧ (R j).g < w1.heap.size := fun j hj => by have h1 := h.lts hj; have h3 := f1.size; omega
  refine ⟨⟨?_, fun j hj => ?_, fun a b ha hb hab => ?_⟩, ⟨?_, fun j hj => ?_, fun a b ha hb hab => ?_⟩, fun a b ha hb => ?_⟩
  · rw [ptrC_succ]
    refine row_kept (row_kept hl f1' (fun _ _ h => h)) f2 (fun k hk e => ?_)
    have hl' := row_kept hl f1' (fun _ _ h => h)
    rcases hl'.2 with ⟨e1, _⟩ | ⟨g1, c1, cur, e1, _⟩
    · rw [e1] at hk; cases hk
    · rw [e1] at hk
      simp only [Value.ownBlock, Option.some.injEq] at hk
      subst hk
      exact own_ne hu1.row (by rw [e1] at hl'; exact hl') (by decide) e
  · by_cases e : j = n
    · subst e; rw [updF_same]; exact km (kl hm)
    · rw [updF_other M _ e]; exact km (kl (h.l.at_ j (by omega)))
  · by_cases e : a = n
    · subst e
      rw [updF_same, updF_other M _ (fun e => hab e.symm)]
      have := hfm b (by omega)
      exact ⟨this.1.symm, this.2.1.symm⟩
    · rw [updF_other M _ e]
      by_cases e2 : b = n
      · subst e2; rw [updF_same]; have := hfm a (by omega); exact ⟨this.1, this.2.1⟩
      · rw [updF_other M _ e2]; exact h.l.ne a b (by omega) (by omega) hab
  · rw [rowC_succ]; exact hu
  · by_cases e : j = n
    · subst e; rw [updF_same]; exact kr hr
    · rw [updF_other R _ e]; exact kr (hu1.at_ j (by omega))
  · by_cases e : a = n
    · subst e
      rw [updF_same, updF_other R _ (fun e => hab e.symm)]
      have := hlts b (by omega)
      omega
    · rw [updF_other R _ e]
      by_cases e2 : b = n
      · subst e2; rw [updF_same]; have := hlts a (by omega); omega
      · rw [updF_other R _ e2]; exact h.r.ne a b (by omega) (by omega) hab
  · by_cases e : a = n
    · subst e
      rw [updF_same]
      by_cases e2 : b = a
      · subst e2; rw [updF_same]; omega
      · rw [updF_other R _ e2]; exact (hfm b (by omega)).2.2.symm
    · rw [updF_other M _ e]
      have := hlts a (by omega)
      by_cases e2 : b = n
      · subst e2; rw [updF_same]; omega
      · rw [updF_other R _ e2]; exact h.x a b (by omega) (by omega)

set_option linter.unusedSimpArgs false in
set_option maxHeartbeats 40000000 in
theorem maps_any (ao : Option Addr) (n cap : Nat) (A : Nat → Bp) (w : World) (hB : BpsAt w ao n A) :
    Calls Tryd.prog 4 #[.slice ao n cap] w fun e w' => ∃ (m : Nat) (vv uu : Value) (M : Nat → Mp) (R : Nat → Rw), e = .returned (.tuple #[vv, uu, .bool true]) ∧ m ≤ 4 ∧ Bo w' vv uu m M R ∧ Ag m M R ∧ Fs w vv uu m M R ∧ Fr (fun _ => False) w w' := by
  obtain ⟨i0, hi, hz0, hz1, hz2⟩ := info_parts Tryd.infoPm
  obtain ⟨j0, hj, hy0, hy1, hy2⟩ := info_parts Tryd.infoBm
  have HBP : Hid (∀ w', Fr (fun _ => False) w w' → BpsAt w' ao n A) := fun w' f => hB.kept f
  have HNL : Hid (n ≤ 9223372036854775807) := hB.len
  have hnl := hB.len
  clear hB
  go_enter Tryd.func4, Tryd.ntmps4
  go_wp2_with fail
  go_loopg [5, 6, 7] n (fun q v u k wr => ∃ (i m : Nat) (vv uu : Value) (M : Nat → Mp) (R : Nat → Rw), i + q = n ∧ k = .int .i64 (i : Int) ∧ v = vv ∧ u = uu ∧ m ≤ 4 ∧ Bo wr vv uu m M R ∧ Ag m M R ∧ Fs w vv uu m M R ∧ Fr (fun _ => False) w wr)
  case atStart => exact ⟨0, 0, _, _, fun _ => ⟨0, 0, 0, 0, 0, fun _ _ => false⟩, fun _ => ⟨0, 0, 0, 0, fun _ _ => false⟩, by omega, rfl, rfl, rfl, by omega, ⟨⟨World.ownsRow_nil _ _ _ _, fun j hj => absurd hj (Nat.not_lt_zero _), fun a b ha => absurd ha (Nat.not_lt_zero _)⟩, ⟨World.ownsRow_nil _ _ _ _, fun j hj => absurd hj (Nat.not_lt_zero _), fun a b ha => absurd ha (Nat.not_lt_zero _)⟩, fun a b ha => absurd ha (Nat.not_lt_zero _)⟩, fun j hj => absurd hj (Nat.not_lt_zero _), ⟨fun k hk => by simp [Value.ownBlock] at hk, fun k hk => by simp [Value.ownBlock] at hk, fun j hj => absurd hj (Nat.not_lt_zero _)⟩, Fr.refl _ _⟩
  case round =>
    obtain ⟨i, m, vv, uu, M, R, hiq, rfl, hvv, huu, hm4, hbo, hag, hfs, hfr⟩ := hrel
    have hvv2 := hvv.symm
    have huu2 := huu.symm
    clear hvv huu
    subst hvv2
    subst huu2
    obtain ⟨va, vc, rfl⟩ := own_slice hbo.l.row
    obtain ⟨ua, uc, rfl⟩ := own_slice hbo.r.row
    have HBO : Hid (Bo wr (.slice va m vc) (.slice ua m uc) m M R) := hbo
    have HAG : Hid (Ag m M R) := hag
    have HFS : Hid (Fs w (.slice va m vc) (.slice ua m uc) m M R) := hfs
    have HFr : Hid (Fr (fun _ => False) w wr) := hfr
    clear hbo hag hfs hfr
    have hni : IntKind.i64.wrap ((i : Int) + 1) = ((i + 1 : Nat) : Int) ∨ n ≤ i := by rcases Nat.lt_or_ge i n with h | h; (left; rw [IntKind.wrap_i64]; omega); (right; exact h)
    by_cases h1 : i < n
    rotate_left
    · have d1 : decide (i < n) = false := decide_eq_false h1
      clear hni
      go_wp2_with fail
      (try simp only [Exit.inBlock, Exit.then])
      refine bodyPost_ret (v := .tuple #[.slice va m vc, .slice ua m uc, .bool true]) (by simp [results, Tryd.results4, go_sem]) rfl ?_
      exact ⟨m, _, _, M, R, rfl, hm4, HBO.out, HAG.out, HFS.out, HFr.out⟩
    · have d1 : decide (i < n) = true := decide_eq_true h1
      have hwi : IntKind.i64.wrap ((i : Int) + 1) = ((i + 1 : Nat) : Int) := by rw [IntKind.wrap_i64]; omega
      clear hni
      by_cases h4 : m < 4
      rotate_left
      · have d4 : decide (m < 4) = false := decide_eq_false h4
        go_wp2_with fail
        (try simp only [Exit.inBlock, Exit.then])
        refine bodyPost_ret (v := .tuple #[.slice va m vc, .slice ua m uc, .bool true]) (by simp [results, Tryd.results4, go_sem]) rfl ?_
        exact ⟨m, _, _, M, R, rfl, hm4, HBO.out, HAG.out, HFS.out, HFr.out⟩
      · have d4 : decide (m < 4) = true := decide_eq_true h4
        obtain ⟨b, off, hao, hcc⟩ := (HBP.out wr HFr.out).cells (by omega)
        subst hao
        have hok := (HBP.out wr HFr.out).ok i h1
        have HCX : Hid (∀ w', Fr (fun _ => False) w w' → (w'.cell? ⟨b, off + i * 3, none⟩ = some (.int .i64 (A i).x) ∧ w'.cell? ⟨b, off + i * 3 + 1, none⟩ = some (.int .i64 (A i).y) ∧ w'.cell? ⟨b, off + i * 3 + 2, none⟩ = some (A i).v) ∧ BpOK w' (A i)) := fun w' f => by
          obtain ⟨b', off', e, hcc'⟩ := (HBP.out w' f).cells (by omega)
          cases e
          exact ⟨hcc' i h1, (HBP.out w' f).ok i h1⟩
        clear hcc
        generalize A i = a at *
        obtain ⟨Ax, Ay, Av, l⟩ := a
        simp only at HCX hok
        have hv := hok.hv
        simp only at hv
        obtain ⟨av, cv, rfl, hll, _⟩ := hv
        have HOK : Hid (BpOK wr ⟨Ax, Ay, .slice av l.length cv, l⟩) := hok
        clear hok
        obtain ⟨ll, hl⟩ : ∃ ll, ll = l.length := ⟨_, rfl⟩
        have HLL : Hid (ll = l.length) := hl
        rw [← hl] at HCX HOK hll
        clear hl
        obtain ⟨⟨k0, k1, k2⟩, _⟩ := HCX.out wr HFr.out
        by_cases hbig : 937 < ll
        · have d5 : decide (937 < ll) = true := decide_eq_true hbig
          go_wp2_with fail
          go_roundg (n - (i + 1))
          case measure => omega
          case rel => exact ⟨i + 1, m, _, _, M, R, by omega, by go_num, rfl, rfl, hm4, HBO.out, HAG.out, HFS.out, HFr.out⟩
        · have d5 : decide (937 < ll) = false := decide_eq_false hbig
          go_wp2_with fail
          have hld := lendB_any Ax Ay (.slice av ll cv) l wr HOK.out.hv HOK.out.hn (by rw [← HLL.out]; omega)
          rw [← HLL.out] at hld
          refine hld.mono ?_
          rintro e w2 ⟨gl, rfl, hlt2, hgl2, hf2⟩
          have HLT : Hid (Lent w2 gl l) := hlt2
          have HF2 : Hid (Fr (fun _ => False) wr w2) := hf2
          have HGL : Hid (wr.heap.size ≤ gl ∧ gl < w2.heap.size) := ⟨hgl2, hlt2.lt⟩
          clear hld hlt2 hgl2 hf2 k0 k1 k2
          have HB3 : Hid ((w2.alloc (.cells #[.int .i64 Ax, .int .i64 Ay, .slice (some ⟨gl, 0, none⟩) ll (ll + 7)] 39)).heap[w2.heap.size]? = some (.cells #[.int .i64 Ax, .int .i64 Ay, .slice (some ⟨gl, 0, none⟩) ll (ll + 7)] 39 (0, 0))) := heap_alloc_new _ _
          have HF3 : Hid (Fr (fun _ => False) wr (w2.alloc (.cells #[.int .i64 Ax, .int .i64 Ay, .slice (some ⟨gl, 0, none⟩) ll (ll + 7)] 39))) := HF2.out.alloc _
          have HL3 : Hid (Lent (w2.alloc (.cells #[.int .i64 Ax, .int .i64 Ay, .slice (some ⟨gl, 0, none⟩) ll (ll + 7)] 39)) gl l) := HLT.out.kept ((Fr.refl (fun _ => False) _).alloc _) (fun h => h)
          obtain ⟨⟨k0, k1, k2⟩, _⟩ := HCX.out _ (HFr.out.trans HF3.out (fun _ _ h => h))
          go_wp2_with fail
          generalize (w2.alloc (.cells #[.int .i64 Ax, .int .i64 Ay, .slice (some ⟨gl, 0, none⟩) ll (ll + 7)] 39)) = w3 at *
          obtain ⟨tb, HTB⟩ : ∃ tb, Hid (w2.heap.size = tb) := ⟨_, rfl⟩
          rw [HTB.out] at HB3
          rw [HTB.out]
          have HK3 : Hid (∀ w', Fr (fun _ => False) wr w' → Fr (fun _ => False) w3 w' → w'.cell? ⟨tb, 0, none⟩ = some (.int .i64 Ax) ∧ w'.cell? ⟨tb, 1, none⟩ = some (.int .i64 Ay) ∧ w'.cell? ⟨tb, 2, none⟩ = some (.slice (some ⟨gl, 0, none⟩) ll (ll + 7)) ∧ w'.cell? ⟨b, off + i * 3, none⟩ = some (.int .i64 Ax) ∧ w'.cell? ⟨b, off + i * 3 + 1, none⟩ = some (.int .i64 Ay) ∧ w'.cell? ⟨b, off + i * 3 + 2, none⟩ = some (.slice av ll cv)) := fun w' f f3 => by
            obtain ⟨z0, z1, z2, _⟩ := cell_of_three ((f3.block _ (lt_of_block HB3.out) (fun h => h)).trans HB3.out)
            obtain ⟨⟨k0, k1, k2⟩, _⟩ := HCX.out _ (HFr.out.trans f (fun _ _ h => h))
            exact ⟨z0, z1, z2, k0, k1, k2⟩
          refine (may_any Ax Ay _ l w3 HOK.out.hx HOK.out.hy (HCX.out _ (HFr.out.trans HF3.out (fun _ _ h => h))).2.hv HOK.out.hlt).mono ?_
          rintro e w4 ⟨rfl, hf4⟩
          have HF4 : Hid (Fr (fun _ => False) w3 w4) := hf4
          clear hf4 k0 k1 k2
          obtain ⟨z0, z1, z2, k0, k1, k2⟩ := HK3.out w4 (HF3.out.trans HF4.out (fun _ _ h => h)) HF4.out
          go_wp2_with fail
          have hck := check_any Ax Ay (.slice (some ⟨gl, 0, none⟩) ll (ll + 7)) l w4 HOK.out.hx HOK.out.hy (by have := (HL3.out.kept HF4.out (fun h => h)).seen (by rw [← HLL.out]; omega); rw [← HLL.out] at this; exact this) HOK.out.hlt
          refine hck.mono ?_
          rintro e w5 ⟨rfl, hf5⟩
          have HF5 : Hid (Fr (fun _ => False) w3 w5) := HF4.out.trans hf5 (fun _ _ h => h)
          clear hck hf5 z0 z1 z2 k0 k1 k2
          obtain ⟨z0, z1, z2, k0, k1, k2⟩ := HK3.out w5 (HF3.out.trans HF5.out (fun _ _ h => h)) HF5.out
          have hsn5 : Seen w5 (.slice (some ⟨gl, 0, none⟩) ll (ll + 7)) l := by have := (HL3.out.kept HF5.out (fun h => h)).seen (by rw [← HLL.out]; omega); rw [← HLL.out] at this; exact this
          have HSN5 : Hid (Seen w5 (.slice (some ⟨gl, 0, none⟩) ll (ll + 7)) l) := hsn5
          clear hsn5
          cases hvb : validB Ax Ay l
          · have HVB : Hid (validB Ax Ay l = false) := hvb
            clear hvb
            go_wp2_with fail
            refine (from_no Ax Ay _ l w5 HOK.out.hx HOK.out.hy HSN5.out HOK.out.hlt HVB.out).mono ?_
            rintro e w6 ⟨rfl, hf6⟩
            have HF36 : Hid (Fr (fun _ => False) w3 w6) := HF5.out.trans hf6 (fun _ _ h => h)
            have HF6 : Hid (Fr (fun _ => False) wr w6) := HF3.out.trans HF36.out (fun _ _ h => h)
            clear hf6 z0 z1 z2 k0 k1 k2
            have HBK : Hid (∀ w', Fr (fun _ => False) w6 w' → Calls Tryd.prog 29 #[.agg #[.int .i64 Ax, .int .i64 Ay, .slice (some ⟨gl, 0, none⟩) ll (ll + 7)], .agg #[.int .i64 Ax, .int .i64 Ay, .slice av ll cv]] w' fun e w'' => e = .returned (.bool true) ∧ Fr (fun k => k = gl) w' w'') := fun w' f => by
              have h := backB_any Ax Ay gl (.slice av ll cv) l w' (by rw [← HLL.out]; omega) (HL3.out.kept (HF36.out.trans f (fun _ _ h => h)) (fun h => h)) (HCX.out _ (HFr.out.trans (HF6.out.trans f (fun _ _ h => h)) (fun _ _ h => h))).2.hv
              rw [← HLL.out] at h
              exact h
            have HKX : Hid (∀ w', Fr (fun k => k = gl) w6 w' → w'.cell? ⟨tb, 0, none⟩ = some (.int .i64 Ax) ∧ w'.cell? ⟨tb, 1, none⟩ = some (.int .i64 Ay) ∧ w'.cell? ⟨tb, 2, none⟩ = some (.slice (some ⟨gl, 0, none⟩) ll (ll + 7)) ∧ w'.cell? ⟨b, off + i * 3, none⟩ = some (.int .i64 Ax) ∧ w'.cell? ⟨b, off + i * 3 + 1, none⟩ = some (.int .i64 Ay) ∧ w'.cell? ⟨b, off + i * 3 + 2, none⟩ = some (.slice av ll cv)) := fun w' f => by
              have hg := HGL.out
              have ht := HTB.out
              have f3 : Fr (fun k => k = gl) w3 w' := (HF36.out.mono (fun _ _ h => h.elim)).trans f (fun _ _ h => h)
              obtain ⟨z0, z1, z2, _⟩ := cell_of_three ((f3.block _ (lt_of_block HB3.out) (by omega)).trans HB3.out)
              obtain ⟨⟨k0, k1, k2⟩, _⟩ := HCX.out w' (HFr.out.trans (HF6.out.trans f (fun i hi e => by omega)) (fun _ _ h => h))
              exact ⟨z0, z1, z2, k0, k1, k2⟩
            go_upto_region 12 with (fail)

            refine wp_region_noPanic ?_
            refine wp_region_held_drew (S := (fun w' => w'.cell? ⟨tb, 0, none⟩ = some (.int .i64 Ax) ∧ w'.cell? ⟨tb, 1, none⟩ = some (.int .i64 Ay) ∧ w'.cell? ⟨tb, 2, none⟩ = some (.slice (some ⟨gl, 0, none⟩) ll (ll + 7)) ∧ w'.cell? ⟨b, off + i * 3, none⟩ = some (.int .i64 Ax) ∧ w'.cell? ⟨b, off + i * 3 + 1, none⟩ = some (.int .i64 Ay) ∧ w'.cell? ⟨b, off + i * 3 + 2, none⟩ = some (.slice av ll cv))) (by kernel_rfl) (HKX.out _ (Fr.refl (fun k => k = gl) _).drew) (fun hHeld => ?_)
            refine wpAnyH_take (i := 0) (oi := _) (v := ?vv0) rfl (by kernel_rfl) (by kernel_rfl) (by kernel_rfl) (fun _ _ _ h => h) (Or.inl ⟨by kernel_rfl, ?hy0⟩) (by assumption) ?_
            case hy0 => (intro w hSw; (try dsimp only at hSw); obtain ⟨q0, q1, q2, q3, q4, q5⟩ := hSw; go_simp; all_goals (with_reducible rfl))
            (try simp only [Act.put, List.getElem_toArray, List.getElem_cons_succ, List.getElem_cons_zero, List.setIfInBounds_toArray, List.set_cons_zero, List.set_cons_succ])
            refine wpAnyH_take (i := 1) (oi := _) (v := ?vv1) rfl (by kernel_rfl) (by kernel_rfl) (by kernel_rfl) (fun _ _ _ h => h) (Or.inl ⟨by kernel_rfl, ?hy1⟩) (by assumption) ?_
            case hy1 => (intro w hSw; (try dsimp only at hSw); obtain ⟨q0, q1, q2, q3, q4, q5⟩ := hSw; go_simp; all_goals (with_reducible rfl))
            (try simp only [Act.put, List.getElem_toArray, List.getElem_cons_succ, List.getElem_cons_zero, List.setIfInBounds_toArray, List.set_cons_zero, List.set_cons_succ])
            refine wpAnyH_take (i := 2) (oi := _) (v := ?vv2) rfl (by kernel_rfl) (by kernel_rfl) (by kernel_rfl) (fun _ _ _ h => h) (Or.inl ⟨by kernel_rfl, ?hy2⟩) (by assumption) ?_
            case hy2 => (intro w hSw; (try dsimp only at hSw); obtain ⟨q0, q1, q2, q3, q4, q5⟩ := hSw; go_simp; all_goals (with_reducible rfl))
            (try simp only [Act.put, List.getElem_toArray, List.getElem_cons_succ, List.getElem_cons_zero, List.setIfInBounds_toArray, List.set_cons_zero, List.set_cons_succ])
            refine wpAnyH_take (i := 3) (oi := _) (v := ?vv3) rfl (by kernel_rfl) (by kernel_rfl) (by kernel_rfl) (fun _ _ _ h => h) (Or.inl ⟨by kernel_rfl, ?hy3⟩) (by assumption) ?_
            case hy3 => (intro w hSw; (try dsimp only at hSw); obtain ⟨q0, q1, q2, q3, q4, q5⟩ := hSw; go_simp; all_goals (with_reducible rfl))
            (try simp only [Act.put, List.getElem_toArray, List.getElem_cons_succ, List.getElem_cons_zero, List.setIfInBounds_toArray, List.set_cons_zero, List.set_cons_succ])
            refine wpAnyH_take (i := 4) (oi := _) (v := ?vv4) rfl (by kernel_rfl) (by kernel_rfl) (by kernel_rfl) (fun _ _ _ h => h) (Or.inl ⟨by kernel_rfl, ?hy4⟩) (by assumption) ?_
            case hy4 => (intro w hSw; (try dsimp only at hSw); obtain ⟨q0, q1, q2, q3, q4, q5⟩ := hSw; go_simp; all_goals (with_reducible rfl))
            (try simp only [Act.put, List.getElem_toArray, List.getElem_cons_succ, List.getElem_cons_zero, List.setIfInBounds_toArray, List.set_cons_zero, List.set_cons_succ])
            refine wpAnyH_ready (rs := [5]) (by kernel_rfl) (by simp) ?_
            refine AllReadyH.cons (o := _) rfl (fun K hK => ?_) AllReadyH.nil
            go_simp
            (go_at_call 29; refine (HBK.out _ (Fr.refl _ _).drew).mono ?_; rintro e w7 ⟨rfl, hf7⟩; have HF67 : Hid (Fr (fun k => k = gl) w6 w7) := ((Fr.refl (fun k => k = gl) _).drew).trans hf7 (fun _ _ h => h); have HF7 : Hid (Fr (fun _ => False) wr w7) := HF6.out.trans HF67.out (fun i hi e => by have := HGL.out; omega))
            go_wp2_with fail
            refine hK.out _ _ (HKX.out _ HF67.out) (fun hHeld => ?_)
            clear hK K
            (try simp only [Act.put, List.getElem_toArray, List.getElem_cons_succ, List.getElem_cons_zero, List.setIfInBounds_toArray, List.set_cons_zero, List.set_cons_succ])
            refine wpAnyH_take (i := 6) (oi := _) (v := ?vv6) rfl (by kernel_rfl) (by kernel_rfl) (by kernel_rfl) (fun _ _ _ h => h) (Or.inl ⟨by kernel_rfl, ?hy6⟩) (by assumption) ?_
            case hy6 => (intro w hSw; (try dsimp only at hSw); obtain ⟨q0, q1, q2, q3, q4, q5⟩ := hSw; go_simp; all_goals (with_reducible rfl))
            (try simp only [Act.put, List.getElem_toArray, List.getElem_cons_succ, List.getElem_cons_zero, List.setIfInBounds_toArray, List.set_cons_zero, List.set_cons_succ])
            refine wpAnyH_take (i := 7) (oi := _) (v := ?vv7) rfl (by kernel_rfl) (by kernel_rfl) (by kernel_rfl) (fun _ _ _ h => h) (Or.inl ⟨by kernel_rfl, ?hy7⟩) (by assumption) ?_
            case hy7 => (intro w hSw; (try dsimp only at hSw); obtain ⟨q0, q1, q2, q3, q4, q5⟩ := hSw; go_simp; all_goals (with_reducible rfl))
            (try simp only [Act.put, List.getElem_toArray, List.getElem_cons_succ, List.getElem_cons_zero, List.setIfInBounds_toArray, List.set_cons_zero, List.set_cons_succ])
            refine wpAnyH_take (i := 8) (oi := _) (v := ?vv8) rfl (by kernel_rfl) (by kernel_rfl) (by kernel_rfl) (fun _ _ _ h => h) (Or.inl ⟨by kernel_rfl, ?hy8⟩) (by assumption) ?_
            case hy8 => (intro w hSw; (try dsimp only at hSw); obtain ⟨q0, q1, q2, q3, q4, q5⟩ := hSw; go_simp; all_goals (with_reducible rfl))
            (try simp only [Act.put, List.getElem_toArray, List.getElem_cons_succ, List.getElem_cons_zero, List.setIfInBounds_toArray, List.set_cons_zero, List.set_cons_succ])
            refine wpAnyH_take (i := 9) (oi := _) (v := ?vv9) rfl (by kernel_rfl) (by kernel_rfl) (by kernel_rfl) (fun _ _ _ h => h) (Or.inl ⟨by kernel_rfl, ?hy9⟩) (by assumption) ?_
            case hy9 => (intro w hSw; (try dsimp only at hSw); obtain ⟨q0, q1, q2, q3, q4, q5⟩ := hSw; go_simp; all_goals (with_reducible rfl))
            (try simp only [Act.put, List.getElem_toArray, List.getElem_cons_succ, List.getElem_cons_zero, List.setIfInBounds_toArray, List.set_cons_zero, List.set_cons_succ])
            refine wpAnyH_take (i := 10) (oi := _) (v := ?vv10) rfl (by kernel_rfl) (by kernel_rfl) (by kernel_rfl) (fun _ _ _ h => h) (Or.inl ⟨by kernel_rfl, ?hy10⟩) (by assumption) ?_
            case hy10 => (intro w hSw; (try dsimp only at hSw); obtain ⟨q0, q1, q2, q3, q4, q5⟩ := hSw; go_simp; all_goals (with_reducible rfl))
            (try simp only [Act.put, List.getElem_toArray, List.getElem_cons_succ, List.getElem_cons_zero, List.setIfInBounds_toArray, List.set_cons_zero, List.set_cons_succ])
            refine wpAnyH_take (i := 11) (oi := _) (v := ?vv11) rfl (by kernel_rfl) (by kernel_rfl) (by kernel_rfl) (fun _ _ _ h => h) (Or.inl ⟨by kernel_rfl, ?hy11⟩) (by assumption) ?_
            case hy11 => (intro w hSw; (try dsimp only at hSw); obtain ⟨q0, q1, q2, q3, q4, q5⟩ := hSw; go_simp; all_goals (with_reducible rfl))
            (try simp only [Act.put, List.getElem_toArray, List.getElem_cons_succ, List.getElem_cons_zero, List.setIfInBounds_toArray, List.set_cons_zero, List.set_cons_succ])
            refine wpAnyH_take (i := 12) (oi := _) (v := ?vv12) rfl (by kernel_rfl) (by kernel_rfl) (by kernel_rfl) (fun _ _ _ h => h) (Or.inl ⟨by kernel_rfl, ?hy12⟩) (by assumption) ?_
            case hy12 => (intro w hSw; (try dsimp only at hSw); obtain ⟨q0, q1, q2, q3, q4, q5⟩ := hSw; go_simp; all_goals (with_reducible rfl))
            (try simp only [Act.put, List.getElem_toArray, List.getElem_cons_succ, List.getElem_cons_zero, List.setIfInBounds_toArray, List.set_cons_zero, List.set_cons_succ])
            refine wpAnyH_take (i := 13) (oi := _) (v := ?vv13) rfl (by kernel_rfl) (by kernel_rfl) (by kernel_rfl) (fun _ _ _ h => h) (Or.inl ⟨by kernel_rfl, ?hy13⟩) (by assumption) ?_
            case hy13 => (intro w hSw; (try dsimp only at hSw); obtain ⟨q0, q1, q2, q3, q4, q5⟩ := hSw; go_simp; all_goals (with_reducible rfl))
            (try simp only [Act.put, List.getElem_toArray, List.getElem_cons_succ, List.getElem_cons_zero, List.setIfInBounds_toArray, List.set_cons_zero, List.set_cons_succ])
            refine wpAnyH_take (i := 14) (oi := _) (v := ?vv14) rfl (by kernel_rfl) (by kernel_rfl) (by kernel_rfl) (fun _ _ _ h => h) (Or.inl ⟨by kernel_rfl, ?hy14⟩) (by assumption) ?_
            case hy14 => (intro w hSw; (try dsimp only at hSw); obtain ⟨q0, q1, q2, q3, q4, q5⟩ := hSw; go_simp; all_goals (with_reducible rfl))
            (try simp only [Act.put, List.getElem_toArray, List.getElem_cons_succ, List.getElem_cons_zero, List.setIfInBounds_toArray, List.set_cons_zero, List.set_cons_succ])
            refine wpAnyH_take (i := 15) (oi := _) (v := ?vv15) rfl (by kernel_rfl) (by kernel_rfl) (by kernel_rfl) (fun _ _ _ h => h) (Or.inl ⟨by kernel_rfl, ?hy15⟩) (by assumption) ?_
            case hy15 => (intro w hSw; (try dsimp only at hSw); obtain ⟨q0, q1, q2, q3, q4, q5⟩ := hSw; go_simp; all_goals (with_reducible rfl))
            (try simp only [Act.put, List.getElem_toArray, List.getElem_cons_succ, List.getElem_cons_zero, List.setIfInBounds_toArray, List.set_cons_zero, List.set_cons_succ])
            refine wpAnyH_take (i := 16) (oi := _) (v := ?vv16) rfl (by kernel_rfl) (by kernel_rfl) (by kernel_rfl) (fun _ _ _ h => h) (Or.inl ⟨by kernel_rfl, ?hy16⟩) (by assumption) ?_
            case hy16 => (intro w hSw; (try dsimp only at hSw); obtain ⟨q0, q1, q2, q3, q4, q5⟩ := hSw; go_simp; all_goals (with_reducible rfl))
            (try simp only [Act.put, List.getElem_toArray, List.getElem_cons_succ, List.getElem_cons_zero, List.setIfInBounds_toArray, List.set_cons_zero, List.set_cons_succ])
            refine wpAnyH_take (i := 17) (oi := _) (v := ?vv17) rfl (by kernel_rfl) (by kernel_rfl) (by kernel_rfl) (fun _ _ _ h => h) (Or.inl ⟨by kernel_rfl, ?hy17⟩) (by assumption) ?_
            case hy17 => (intro w hSw; (try dsimp only at hSw); obtain ⟨q0, q1, q2, q3, q4, q5⟩ := hSw; go_simp; all_goals (with_reducible rfl))
            (try simp only [Act.put, List.getElem_toArray, List.getElem_cons_succ, List.getElem_cons_zero, List.setIfInBounds_toArray, List.set_cons_zero, List.set_cons_succ])
            refine wpAnyH_take (i := 18) (oi := _) (v := ?vv18) rfl (by kernel_rfl) (by kernel_rfl) (by kernel_rfl) (fun _ _ _ h => h) (Or.inl ⟨by kernel_rfl, ?hy18⟩) (by assumption) ?_
            case hy18 => (intro w hSw; (try dsimp only at hSw); obtain ⟨q0, q1, q2, q3, q4, q5⟩ := hSw; go_simp; all_goals (with_reducible rfl))
            (try simp only [Act.put, List.getElem_toArray, List.getElem_cons_succ, List.getElem_cons_zero, List.setIfInBounds_toArray, List.set_cons_zero, List.set_cons_succ])
            refine wpAnyH_take (i := 19) (oi := _) (v := ?vv19) rfl (by kernel_rfl) (by kernel_rfl) (by kernel_rfl) (fun _ _ _ h => h) (Or.inl ⟨by kernel_rfl, ?hy19⟩) (by assumption) ?_
            case hy19 => (intro w hSw; (try dsimp only at hSw); obtain ⟨q0, q1, q2, q3, q4, q5⟩ := hSw; go_simp; all_goals (with_reducible rfl))
            (try simp only [Act.put, List.getElem_toArray, List.getElem_cons_succ, List.getElem_cons_zero, List.setIfInBounds_toArray, List.set_cons_zero, List.set_cons_succ])
            refine wpAnyH_take (i := 20) (oi := _) (v := ?vv20) rfl (by kernel_rfl) (by kernel_rfl) (by kernel_rfl) (fun _ _ _ h => h) (Or.inl ⟨by kernel_rfl, ?hy20⟩) (by assumption) ?_
            case hy20 => (intro w hSw; (try dsimp only at hSw); obtain ⟨q0, q1, q2, q3, q4, q5⟩ := hSw; go_simp; all_goals (with_reducible rfl))
            (try simp only [Act.put, List.getElem_toArray, List.getElem_cons_succ, List.getElem_cons_zero, List.setIfInBounds_toArray, List.set_cons_zero, List.set_cons_succ])
            refine wpAnyH_take (i := 21) (oi := _) (v := ?vv21) rfl (by kernel_rfl) (by kernel_rfl) (by kernel_rfl) (fun _ _ _ h => h) (Or.inl ⟨by kernel_rfl, ?hy21⟩) (by assumption) ?_
            case hy21 => (intro w hSw; (try dsimp only at hSw); obtain ⟨q0, q1, q2, q3, q4, q5⟩ := hSw; go_simp; all_goals (with_reducible rfl))
            (try simp only [Act.put, List.getElem_toArray, List.getElem_cons_succ, List.getElem_cons_zero, List.setIfInBounds_toArray, List.set_cons_zero, List.set_cons_succ])
            refine wpAnyH_take (i := 22) (oi := _) (v := ?vv22) rfl (by kernel_rfl) (by kernel_rfl) (by kernel_rfl) (fun _ _ _ h => h) (Or.inl ⟨by kernel_rfl, ?hy22⟩) (by assumption) ?_
            case hy22 => (intro w hSw; (try dsimp only at hSw); obtain ⟨q0, q1, q2, q3, q4, q5⟩ := hSw; go_simp; all_goals (with_reducible rfl))
            (try simp only [Act.put, List.getElem_toArray, List.getElem_cons_succ, List.getElem_cons_zero, List.setIfInBounds_toArray, List.set_cons_zero, List.set_cons_succ])
            refine wpAnyH_take (i := 23) (oi := _) (v := ?vv23) rfl (by kernel_rfl) (by kernel_rfl) (by kernel_rfl) (fun _ _ _ h => h) (Or.inl ⟨by kernel_rfl, ?hy23⟩) (by assumption) ?_
            case hy23 => (intro w hSw; (try dsimp only at hSw); obtain ⟨q0, q1, q2, q3, q4, q5⟩ := hSw; go_simp; all_goals (with_reducible rfl))
            (try simp only [Act.put, List.getElem_toArray, List.getElem_cons_succ, List.getElem_cons_zero, List.setIfInBounds_toArray, List.set_cons_zero, List.set_cons_succ])
            refine wpAnyH_take (i := 24) (oi := _) (v := ?vv24) rfl (by kernel_rfl) (by kernel_rfl) (by kernel_rfl) (fun _ _ _ h => h) (Or.inl ⟨by kernel_rfl, ?hy24⟩) (by assumption) ?_
            case hy24 => (intro w hSw; (try dsimp only at hSw); obtain ⟨q0, q1, q2, q3, q4, q5⟩ := hSw; go_simp; all_goals (with_reducible rfl))
            (try simp only [Act.put, List.getElem_toArray, List.getElem_cons_succ, List.getElem_cons_zero, List.setIfInBounds_toArray, List.set_cons_zero, List.set_cons_succ])
            refine wpAnyH_take (i := 25) (oi := _) (v := ?vv25) rfl (by kernel_rfl) (by kernel_rfl) (by kernel_rfl) (fun _ _ _ h => h) (Or.inl ⟨by kernel_rfl, ?hy25⟩) (by assumption) ?_
            case hy25 => (intro w hSw; (try dsimp only at hSw); obtain ⟨q0, q1, q2, q3, q4, q5⟩ := hSw; go_simp; all_goals (with_reducible rfl))
            (try simp only [Act.put, List.getElem_toArray, List.getElem_cons_succ, List.getElem_cons_zero, List.setIfInBounds_toArray, List.set_cons_zero, List.set_cons_succ])
            refine wpAnyH_take (i := 26) (oi := _) (v := ?vv26) rfl (by kernel_rfl) (by kernel_rfl) (by kernel_rfl) (fun _ _ _ h => h) (Or.inl ⟨by kernel_rfl, ?hy26⟩) (by assumption) ?_
            case hy26 => (intro w hSw; (try dsimp only at hSw); obtain ⟨q0, q1, q2, q3, q4, q5⟩ := hSw; go_simp; all_goals (with_reducible rfl))
            (try simp only [Act.put, List.getElem_toArray, List.getElem_cons_succ, List.getElem_cons_zero, List.setIfInBounds_toArray, List.set_cons_zero, List.set_cons_succ])
            refine wpAnyH_done (by kernel_rfl) ?_ _
            refine NoPanic.normal ?_
            clear HK3 HKX HBK HB3 HL3 HLT
            go_wp2_with fail
            go_roundg (n - (i + 1))
            case measure => omega
            case rel => exact ⟨i + 1, m, _, _, M, R, by omega, by go_num, rfl, rfl, hm4, HBO.out.kept HF7.out, HAG.out, HFS.out, HFr.out.trans HF7.out (fun _ _ h => h)⟩
          · have HVB : Hid (validB Ax Ay l = true) := hvb
            obtain ⟨W, H, rfl, rfl, q1, q2, q3, q4, q5⟩ := valid_parts hvb
            have HPT : Hid (1 ≤ W ∧ 1 ≤ H ∧ W * H ≤ 1048576 ∧ l.length = H * stride W ∧ (∀ j, j < H → rowOK W l j)) := ⟨q1, q2, q3, q4, q5⟩
            clear hvb q1 q2 q3 q4 q5
            go_wp2_with fail
            refine (from_yes W H _ l w5 HPT.out.1 HPT.out.2.1 HPT.out.2.2.1 HSN5.out HOK.out.hlt HPT.out.2.2.2.1 HPT.out.2.2.2.2).mono ?_
            rintro e w6 ⟨bm, gm, cm, rfl, hn⟩
            have HNM : Hid (NewMap w5 w6 bm gm cm W H (pixOf W l)) := hn
            have HF36 : Hid (Fr (fun _ => False) w3 w6) := HF5.out.trans hn.fr (fun _ _ h => h)
            have HF6 : Hid (Fr (fun _ => False) wr w6) := HF3.out.trans HF36.out (fun _ _ h => h)
            clear hn z0 z1 z2 k0 k1 k2
            have HBK : Hid (∀ w', Fr (fun _ => False) w6 w' → Calls Tryd.prog 29 #[.agg #[.int .i64 W, .int .i64 H, .slice (some ⟨gl, 0, none⟩) ll (ll + 7)], .agg #[.int .i64 W, .int .i64 H, .slice av ll cv]] w' fun e w'' => e = .returned (.bool true) ∧ Fr (fun k => k = gl) w' w'') := fun w' f => by
              have h := backB_any W H gl (.slice av ll cv) l w' (by rw [← HLL.out]; omega) (HL3.out.kept (HF36.out.trans f (fun _ _ h => h)) (fun h => h)) (HCX.out _ (HFr.out.trans (HF6.out.trans f (fun _ _ h => h)) (fun _ _ h => h))).2.hv
              rw [← HLL.out] at h
              exact h
            have HKX : Hid (∀ w', Fr (fun k => k = gl) w6 w' → w'.cell? ⟨tb, 0, none⟩ = some (.int .i64 (W : Int)) ∧ w'.cell? ⟨tb, 1, none⟩ = some (.int .i64 (H : Int)) ∧ w'.cell? ⟨tb, 2, none⟩ = some (.slice (some ⟨gl, 0, none⟩) ll (ll + 7)) ∧ w'.cell? ⟨b, off + i * 3, none⟩ = some (.int .i64 (W : Int)) ∧ w'.cell? ⟨b, off + i * 3 + 1, none⟩ = some (.int .i64 (H : Int)) ∧ w'.cell? ⟨b, off + i * 3 + 2, none⟩ = some (.slice av ll cv)) := fun w' f => by
              have hg := HGL.out
              have ht := HTB.out
              have f3 : Fr (fun k => k = gl) w3 w' := (HF36.out.mono (fun _ _ h => h.elim)).trans f (fun _ _ h => h)
              obtain ⟨z0, z1, z2, _⟩ := cell_of_three ((f3.block _ (lt_of_block HB3.out) (by omega)).trans HB3.out)
              obtain ⟨⟨k0, k1, k2⟩, _⟩ := HCX.out w' (HFr.out.trans (HF6.out.trans f (fun i hi e => by omega)) (fun _ _ h => h))
              exact ⟨z0, z1, z2, k0, k1, k2⟩
            go_upto_region 12 with (fail)

            refine wp_region_noPanic ?_
            refine wp_region_held_drew (S := (fun w' => w'.cell? ⟨tb, 0, none⟩ = some (.int .i64 (W : Int)) ∧ w'.cell? ⟨tb, 1, none⟩ = some (.int .i64 (H : Int)) ∧ w'.cell? ⟨tb, 2, none⟩ = some (.slice (some ⟨gl, 0, none⟩) ll (ll + 7)) ∧ w'.cell? ⟨b, off + i * 3, none⟩ = some (.int .i64 (W : Int)) ∧ w'.cell? ⟨b, off + i * 3 + 1, none⟩ = some (.int .i64 (H : Int)) ∧ w'.cell? ⟨b, off + i * 3 + 2, none⟩ = some (.slice av ll cv))) (by kernel_rfl) (HKX.out _ (Fr.refl (fun k => k = gl) _).drew) (fun hHeld => ?_)
            refine wpAnyH_take (i := 0) (oi := _) (v := ?tt0) rfl (by kernel_rfl) (by kernel_rfl) (by kernel_rfl) (fun _ _ _ h => h) (Or.inl ⟨by kernel_rfl, ?th0⟩) (by assumption) ?_
            case th0 => (intro w hSw; (try dsimp only at hSw); obtain ⟨q0, q1, q2, q3, q4, q5⟩ := hSw; go_simp; all_goals (with_reducible rfl))
            (try simp only [Act.put, List.getElem_toArray, List.getElem_cons_succ, List.getElem_cons_zero, List.setIfInBounds_toArray, List.set_cons_zero, List.set_cons_succ])
            refine wpAnyH_take (i := 1) (oi := _) (v := ?tt1) rfl (by kernel_rfl) (by kernel_rfl) (by kernel_rfl) (fun _ _ _ h => h) (Or.inl ⟨by kernel_rfl, ?th1⟩) (by assumption) ?_
            case th1 => (intro w hSw; (try dsimp only at hSw); obtain ⟨q0, q1, q2, q3, q4, q5⟩ := hSw; go_simp; all_goals (with_reducible rfl))
            (try simp only [Act.put, List.getElem_toArray, List.getElem_cons_succ, List.getElem_cons_zero, List.setIfInBounds_toArray, List.set_cons_zero, List.set_cons_succ])
            refine wpAnyH_take (i := 2) (oi := _) (v := ?tt2) rfl (by kernel_rfl) (by kernel_rfl) (by kernel_rfl) (fun _ _ _ h => h) (Or.inl ⟨by kernel_rfl, ?th2⟩) (by assumption) ?_
            case th2 => (intro w hSw; (try dsimp only at hSw); obtain ⟨q0, q1, q2, q3, q4, q5⟩ := hSw; go_simp; all_goals (with_reducible rfl))
            (try simp only [Act.put, List.getElem_toArray, List.getElem_cons_succ, List.getElem_cons_zero, List.setIfInBounds_toArray, List.set_cons_zero, List.set_cons_succ])
            refine wpAnyH_take (i := 3) (oi := _) (v := ?tt3) rfl (by kernel_rfl) (by kernel_rfl) (by kernel_rfl) (fun _ _ _ h => h) (Or.inl ⟨by kernel_rfl, ?th3⟩) (by assumption) ?_
            case th3 => (intro w hSw; (try dsimp only at hSw); obtain ⟨q0, q1, q2, q3, q4, q5⟩ := hSw; go_simp; all_goals (with_reducible rfl))
            (try simp only [Act.put, List.getElem_toArray, List.getElem_cons_succ, List.getElem_cons_zero, List.setIfInBounds_toArray, List.set_cons_zero, List.set_cons_succ])
            refine wpAnyH_take (i := 4) (oi := _) (v := ?tt4) rfl (by kernel_rfl) (by kernel_rfl) (by kernel_rfl) (fun _ _ _ h => h) (Or.inl ⟨by kernel_rfl, ?th4⟩) (by assumption) ?_
            case th4 => (intro w hSw; (try dsimp only at hSw); obtain ⟨q0, q1, q2, q3, q4, q5⟩ := hSw; go_simp; all_goals (with_reducible rfl))
            (try simp only [Act.put, List.getElem_toArray, List.getElem_cons_succ, List.getElem_cons_zero, List.setIfInBounds_toArray, List.set_cons_zero, List.set_cons_succ])
            refine wpAnyH_ready (rs := [5]) (by kernel_rfl) (by simp) ?_
            refine AllReadyH.cons (o := _) rfl (fun K hK => ?_) AllReadyH.nil
            go_simp
            (go_at_call 29; refine (HBK.out _ (Fr.refl _ _).drew).mono ?_; rintro e w7 ⟨rfl, hf7⟩; have HF67 : Hid (Fr (fun k => k = gl) w6 w7) := ((Fr.refl (fun k => k = gl) _).drew).trans hf7 (fun _ _ h => h); have HF7 : Hid (Fr (fun _ => False) wr w7) := HF6.out.trans HF67.out (fun i hi e => by have := HGL.out; omega))
            go_wp2_with fail
            refine hK.out _ _ (HKX.out _ HF67.out) (fun hHeld => ?_)
            clear hK K
            (try simp only [Act.put, List.getElem_toArray, List.getElem_cons_succ, List.getElem_cons_zero, List.setIfInBounds_toArray, List.set_cons_zero, List.set_cons_succ])
            refine wpAnyH_take (i := 6) (oi := _) (v := ?tt6) rfl (by kernel_rfl) (by kernel_rfl) (by kernel_rfl) (fun _ _ _ h => h) (Or.inl ⟨by kernel_rfl, ?th6⟩) (by assumption) ?_
            case th6 => (intro w hSw; (try dsimp only at hSw); obtain ⟨q0, q1, q2, q3, q4, q5⟩ := hSw; go_simp; all_goals (with_reducible rfl))
            (try simp only [Act.put, List.getElem_toArray, List.getElem_cons_succ, List.getElem_cons_zero, List.setIfInBounds_toArray, List.set_cons_zero, List.set_cons_succ])
            refine wpAnyH_take (i := 7) (oi := _) (v := ?tt7) rfl (by kernel_rfl) (by kernel_rfl) (by kernel_rfl) (fun _ _ _ h => h) (Or.inl ⟨by kernel_rfl, ?th7⟩) (by assumption) ?_
            case th7 => (intro w hSw; (try dsimp only at hSw); obtain ⟨q0, q1, q2, q3, q4, q5⟩ := hSw; go_simp; all_goals (with_reducible rfl))
            (try simp only [Act.put, List.getElem_toArray, List.getElem_cons_succ, List.getElem_cons_zero, List.setIfInBounds_toArray, List.set_cons_zero, List.set_cons_succ])
            refine wpAnyH_take (i := 8) (oi := _) (v := ?tt8) rfl (by kernel_rfl) (by kernel_rfl) (by kernel_rfl) (fun _ _ _ h => h) (Or.inl ⟨by kernel_rfl, ?th8⟩) (by assumption) ?_
            case th8 => (intro w hSw; (try dsimp only at hSw); obtain ⟨q0, q1, q2, q3, q4, q5⟩ := hSw; go_simp; all_goals (with_reducible rfl))
            (try simp only [Act.put, List.getElem_toArray, List.getElem_cons_succ, List.getElem_cons_zero, List.setIfInBounds_toArray, List.set_cons_zero, List.set_cons_succ])
            refine wpAnyH_take (i := 9) (oi := _) (v := ?tt9) rfl (by kernel_rfl) (by kernel_rfl) (by kernel_rfl) (fun _ _ _ h => h) (Or.inl ⟨by kernel_rfl, ?th9⟩) (by assumption) ?_
            case th9 => (intro w hSw; (try dsimp only at hSw); obtain ⟨q0, q1, q2, q3, q4, q5⟩ := hSw; go_simp; all_goals (with_reducible rfl))
            (try simp only [Act.put, List.getElem_toArray, List.getElem_cons_succ, List.getElem_cons_zero, List.setIfInBounds_toArray, List.set_cons_zero, List.set_cons_succ])
            refine wpAnyH_take (i := 10) (oi := _) (v := ?tt10) rfl (by kernel_rfl) (by kernel_rfl) (by kernel_rfl) (fun _ _ _ h => h) (Or.inl ⟨by kernel_rfl, ?th10⟩) (by assumption) ?_
            case th10 => (intro w hSw; (try dsimp only at hSw); obtain ⟨q0, q1, q2, q3, q4, q5⟩ := hSw; go_simp; all_goals (with_reducible rfl))
            (try simp only [Act.put, List.getElem_toArray, List.getElem_cons_succ, List.getElem_cons_zero, List.setIfInBounds_toArray, List.set_cons_zero, List.set_cons_succ])
            refine wpAnyH_take (i := 11) (oi := _) (v := ?tt11) rfl (by kernel_rfl) (by kernel_rfl) (by kernel_rfl) (fun _ _ _ h => h) (Or.inl ⟨by kernel_rfl, ?th11⟩) (by assumption) ?_
            case th11 => (intro w hSw; (try dsimp only at hSw); obtain ⟨q0, q1, q2, q3, q4, q5⟩ := hSw; go_simp; all_goals (with_reducible rfl))
            (try simp only [Act.put, List.getElem_toArray, List.getElem_cons_succ, List.getElem_cons_zero, List.setIfInBounds_toArray, List.set_cons_zero, List.set_cons_succ])
            refine wpAnyH_take (i := 12) (oi := _) (v := ?tt12) rfl (by kernel_rfl) (by kernel_rfl) (by kernel_rfl) (fun _ _ _ h => h) (Or.inl ⟨by kernel_rfl, ?th12⟩) (by assumption) ?_
            case th12 => (intro w hSw; (try dsimp only at hSw); obtain ⟨q0, q1, q2, q3, q4, q5⟩ := hSw; go_simp; all_goals (with_reducible rfl))
            (try simp only [Act.put, List.getElem_toArray, List.getElem_cons_succ, List.getElem_cons_zero, List.setIfInBounds_toArray, List.set_cons_zero, List.set_cons_succ])
            refine wpAnyH_take (i := 13) (oi := _) (v := ?tt13) rfl (by kernel_rfl) (by kernel_rfl) (by kernel_rfl) (fun _ _ _ h => h) (Or.inl ⟨by kernel_rfl, ?th13⟩) (by assumption) ?_
            case th13 => (intro w hSw; (try dsimp only at hSw); obtain ⟨q0, q1, q2, q3, q4, q5⟩ := hSw; go_simp; all_goals (with_reducible rfl))
            (try simp only [Act.put, List.getElem_toArray, List.getElem_cons_succ, List.getElem_cons_zero, List.setIfInBounds_toArray, List.set_cons_zero, List.set_cons_succ])
            refine wpAnyH_take (i := 14) (oi := _) (v := ?tt14) rfl (by kernel_rfl) (by kernel_rfl) (by kernel_rfl) (fun _ _ _ h => h) (Or.inl ⟨by kernel_rfl, ?th14⟩) (by assumption) ?_
            case th14 => (intro w hSw; (try dsimp only at hSw); obtain ⟨q0, q1, q2, q3, q4, q5⟩ := hSw; go_simp; all_goals (with_reducible rfl))
            (try simp only [Act.put, List.getElem_toArray, List.getElem_cons_succ, List.getElem_cons_zero, List.setIfInBounds_toArray, List.set_cons_zero, List.set_cons_succ])
            refine wpAnyH_take (i := 15) (oi := _) (v := ?tt15) rfl (by kernel_rfl) (by kernel_rfl) (by kernel_rfl) (fun _ _ _ h => h) (Or.inl ⟨by kernel_rfl, ?th15⟩) (by assumption) ?_
            case th15 => (intro w hSw; (try dsimp only at hSw); obtain ⟨q0, q1, q2, q3, q4, q5⟩ := hSw; go_simp; all_goals (with_reducible rfl))
            (try simp only [Act.put, List.getElem_toArray, List.getElem_cons_succ, List.getElem_cons_zero, List.setIfInBounds_toArray, List.set_cons_zero, List.set_cons_succ])
            refine wpAnyH_take (i := 16) (oi := _) (v := ?tt16) rfl (by kernel_rfl) (by kernel_rfl) (by kernel_rfl) (fun _ _ _ h => h) (Or.inl ⟨by kernel_rfl, ?th16⟩) (by assumption) ?_
            case th16 => (intro w hSw; (try dsimp only at hSw); obtain ⟨q0, q1, q2, q3, q4, q5⟩ := hSw; go_simp; all_goals (with_reducible rfl))
            (try simp only [Act.put, List.getElem_toArray, List.getElem_cons_succ, List.getElem_cons_zero, List.setIfInBounds_toArray, List.set_cons_zero, List.set_cons_succ])
            refine wpAnyH_take (i := 17) (oi := _) (v := ?tt17) rfl (by kernel_rfl) (by kernel_rfl) (by kernel_rfl) (fun _ _ _ h => h) (Or.inl ⟨by kernel_rfl, ?th17⟩) (by assumption) ?_
            case th17 => (intro w hSw; (try dsimp only at hSw); obtain ⟨q0, q1, q2, q3, q4, q5⟩ := hSw; go_simp; all_goals (with_reducible rfl))
            (try simp only [Act.put, List.getElem_toArray, List.getElem_cons_succ, List.getElem_cons_zero, List.setIfInBounds_toArray, List.set_cons_zero, List.set_cons_succ])
            refine wpAnyH_take (i := 18) (oi := _) (v := ?tt18) rfl (by kernel_rfl) (by kernel_rfl) (by kernel_rfl) (fun _ _ _ h => h) (Or.inl ⟨by kernel_rfl, ?th18⟩) (by assumption) ?_
            case th18 => (intro w hSw; (try dsimp only at hSw); obtain ⟨q0, q1, q2, q3, q4, q5⟩ := hSw; go_simp; all_goals (with_reducible rfl))
            (try simp only [Act.put, List.getElem_toArray, List.getElem_cons_succ, List.getElem_cons_zero, List.setIfInBounds_toArray, List.set_cons_zero, List.set_cons_succ])
            refine wpAnyH_take (i := 19) (oi := _) (v := ?tt19) rfl (by kernel_rfl) (by kernel_rfl) (by kernel_rfl) (fun _ _ _ h => h) (Or.inl ⟨by kernel_rfl, ?th19⟩) (by assumption) ?_
            case th19 => (intro w hSw; (try dsimp only at hSw); obtain ⟨q0, q1, q2, q3, q4, q5⟩ := hSw; go_simp; all_goals (with_reducible rfl))
            (try simp only [Act.put, List.getElem_toArray, List.getElem_cons_succ, List.getElem_cons_zero, List.setIfInBounds_toArray, List.set_cons_zero, List.set_cons_succ])
            refine wpAnyH_take (i := 20) (oi := _) (v := ?tt20) rfl (by kernel_rfl) (by kernel_rfl) (by kernel_rfl) (fun _ _ _ h => h) (Or.inl ⟨by kernel_rfl, ?th20⟩) (by assumption) ?_
            case th20 => (intro w hSw; (try dsimp only at hSw); obtain ⟨q0, q1, q2, q3, q4, q5⟩ := hSw; go_simp; all_goals (with_reducible rfl))
            (try simp only [Act.put, List.getElem_toArray, List.getElem_cons_succ, List.getElem_cons_zero, List.setIfInBounds_toArray, List.set_cons_zero, List.set_cons_succ])
            refine wpAnyH_take (i := 21) (oi := _) (v := ?tt21) rfl (by kernel_rfl) (by kernel_rfl) (by kernel_rfl) (fun _ _ _ h => h) (Or.inl ⟨by kernel_rfl, ?th21⟩) (by assumption) ?_
            case th21 => (intro w hSw; (try dsimp only at hSw); obtain ⟨q0, q1, q2, q3, q4, q5⟩ := hSw; go_simp; all_goals (with_reducible rfl))
            (try simp only [Act.put, List.getElem_toArray, List.getElem_cons_succ, List.getElem_cons_zero, List.setIfInBounds_toArray, List.set_cons_zero, List.set_cons_succ])
            refine wpAnyH_take (i := 22) (oi := _) (v := ?tt22) rfl (by kernel_rfl) (by kernel_rfl) (by kernel_rfl) (fun _ _ _ h => h) (Or.inl ⟨by kernel_rfl, ?th22⟩) (by assumption) ?_
            case th22 => (intro w hSw; (try dsimp only at hSw); obtain ⟨q0, q1, q2, q3, q4, q5⟩ := hSw; go_simp; all_goals (with_reducible rfl))
            (try simp only [Act.put, List.getElem_toArray, List.getElem_cons_succ, List.getElem_cons_zero, List.setIfInBounds_toArray, List.set_cons_zero, List.set_cons_succ])
            refine wpAnyH_take (i := 23) (oi := _) (v := undef) rfl (by kernel_rfl) (by kernel_rfl) (by kernel_rfl) (fun _ _ _ h => h) (Or.inr ⟨by kernel_rfl, rfl⟩) (by assumption) ?_
            (try simp only [Act.put, List.getElem_toArray, List.getElem_cons_succ, List.getElem_cons_zero, List.setIfInBounds_toArray, List.set_cons_zero, List.set_cons_succ])
            refine wpAnyH_take (i := 24) (oi := _) (v := undef) rfl (by kernel_rfl) (by kernel_rfl) (by kernel_rfl) (fun _ _ _ h => h) (Or.inr ⟨by kernel_rfl, rfl⟩) (by assumption) ?_
            (try simp only [Act.put, List.getElem_toArray, List.getElem_cons_succ, List.getElem_cons_zero, List.setIfInBounds_toArray, List.set_cons_zero, List.set_cons_succ])
            refine wpAnyH_take (i := 25) (oi := _) (v := ?tt25) rfl (by kernel_rfl) (by kernel_rfl) (by kernel_rfl) (fun _ _ _ h => h) (Or.inl ⟨by kernel_rfl, ?th25⟩) (by assumption) ?_
            case th25 => (intro w hSw; (try dsimp only at hSw); obtain ⟨q0, q1, q2, q3, q4, q5⟩ := hSw; go_simp; all_goals (with_reducible rfl))
            (try simp only [Act.put, List.getElem_toArray, List.getElem_cons_succ, List.getElem_cons_zero, List.setIfInBounds_toArray, List.set_cons_zero, List.set_cons_succ])
            refine wpAnyH_take (i := 26) (oi := _) (v := ?tt26) rfl (by kernel_rfl) (by kernel_rfl) (by kernel_rfl) (fun _ _ _ h => h) (Or.inl ⟨by kernel_rfl, ?th26⟩) (by assumption) ?_
            case th26 => (intro w hSw; (try dsimp only at hSw); obtain ⟨q0, q1, q2, q3, q4, q5⟩ := hSw; go_simp; all_goals (with_reducible rfl))
            (try simp only [Act.put, List.getElem_toArray, List.getElem_cons_succ, List.getElem_cons_zero, List.setIfInBounds_toArray, List.set_cons_zero, List.set_cons_succ])
            refine wpAnyH_done (by kernel_rfl) ?_ _
            refine NoPanic.normal ?_
            have HM7 : Hid (MapAt w7 bm gm cm W H (pixOf W l)) := HNM.out.at_.kept HF67.out (by have := HNM.out.nb; have := HGL.out; have := HF3.out.size; have := HF5.out.size; have := HTB.out; have := lt_of_block HB3.out; omega) (by have := HNM.out.ng; have := HGL.out; have := HF5.out.size; have := HTB.out; have := lt_of_block HB3.out; omega)
            have HB7 : Hid (Bo w7 (.slice va m vc) (.slice ua m uc) m M R) := HBO.out.kept HF7.out
            have HNW : Hid (wr.heap.size ≤ bm ∧ wr.heap.size ≤ gm) := by
              have h1 := HNM.out.nb
              have h2 := HNM.out.ng
              have h3 := HF3.out.size
              have h4 := HF5.out.size
              exact ⟨by omega, by omega⟩
            have HF07 : Hid (Fr (fun _ => False) w w7) := HFr.out.trans HF7.out (fun _ _ h => h)
            have HSL : Hid (∀ w', Fr (fun _ => False) w w' → Bm w' (.slice av ll cv) W H (pixOf W l)) := fun w' f => by
              have hk := (HCX.out w' f).2
              have hp := HPT.out
              refine ⟨?_, hk.hc, hp.1, hp.2.1, hp.2.2.1⟩
              have h := hk.hv
              rw [valid_render W H l hp.1 hp.2.2.2.1 hp.2.2.2.2 hk.hlt] at h
              exact h
            clear HK3 HKX HBK HB3 HL3 HLT HNM HSN5
            go_wp2_with (first | (at_builtin; refine wpList_append_row _ rfl _ _ 26 rfl 34 i0 (.pointer none) 1 8 Tryd.underlying26 hi hz0 hz1 hz2 rfl (by decide) (.slice va m vc) m (ptrC M m) rfl (HB7.out.l.row.alloc _) ⟨w7.heap.size, 0, none⟩ 1 1 [.pointer (some ⟨bm, 0, none⟩)] rfl rfl ?c1 ?c2 ?c3 ?c4 (by decide) ?_))
            case c1 => exact cell1_new w7 (.pointer (some ⟨bm, 0, none⟩)) 34
            case c2 =>
              intro u hu
              simp only [List.mem_cons, List.not_mem_nil, or_false] at hu
              rcases hu with rfl <;> rfl
            case c3 => unfold maxLen; omega
            case c4 => omega
            intro gv cv2 w8 ho8 hg8 hor8 _ _
            have HL8 : Hid (w8.ownsRow 0 34 1 (.slice (some ⟨gv, 0, none⟩) (m + 1) cv2) (m + 1) (ptrC M m ++ [.pointer (some ⟨bm, 0, none⟩)])) := ho8
            have HF8 : Hid (Fr (fun k => (Value.slice va m vc).ownBlock = some k) w7 w8) := ((Fr.refl (fun k => (Value.slice va m vc).ownBlock = some k) w7).alloc _).grown hg8 (fun k e _ => e)
            have HV8 : Hid (∀ k, (Value.slice (some ⟨gv, 0, none⟩) (m + 1) cv2).ownBlock = some k → w.heap.size ≤ k) := fun k hk => by
              simp only [Value.ownBlock, Option.some.injEq] at hk
              subst hk
              rcases hor8 with h | h
              · exact HFS.out.v _ h
              · have := HF07.out.size
                first | (simp only [World.size_alloc] at h; omega) | omega
            have HF08 : Hid (Fr (fun _ => False) w w8) := HF07.out.trans HF8.out (fun k hk e => by have := HFS.out.v k e; omega)
            clear ho8 hg8 hor8
            obtain ⟨⟨k0, k1, k2⟩, _⟩ := HCX.out _ HF08.out
            go_wp2_with fail
            refine (copy_any W H _ (pixOf W l) w8 (HSL.out w8 HF08.out)).mono ?_
            rintro e w9 ⟨gr, cr, rfl, hr9, hf9, hg9⟩
            have HR9 : Hid (RowAt w9 gr cr W H (pixOf W l)) := hr9
            have HF9 : Hid (Fr (fun _ => False) w8 w9) := hf9
            have HG9 : Hid (w8.heap.size ≤ gr) := hg9
            have HU9 : Hid (w9.ownsRow 0 39 3 (.slice ua m uc) m (rowC R m)) := row_kept (row_kept HB7.out.r.row HF8.out (fun k hk e => by
              obtain ⟨g1, e1⟩ : ∃ g1, va = some ⟨g1, 0, none⟩ := by
                rcases HB7.out.l.row.2 with ⟨e1, _⟩ | ⟨g1, c1, cur, e1, _⟩
                · rw [e1] at e; cases e
                · cases e1; exact ⟨g1, rfl⟩
              subst e1
              simp only [Value.ownBlock, Option.some.injEq] at e
              subst e
              exact own_ne HB7.out.r.row HB7.out.l.row (by decide) hk)) hf9 (fun _ _ h => h)
            clear hr9 hf9 hg9 k0 k1 k2
            go_wp2_with (first | (at_builtin; refine wpList_append_row _ rfl _ _ 22 rfl 39 j0 (.agg #[.int .i64 0, .int .i64 0, .slice none 0 0]) 3 40 Tryd.underlying22 hj hy0 hy1 hy2 rfl (by decide) (.slice ua m uc) m (rowC R m) rfl (HU9.out.alloc _) ⟨w9.heap.size, 0, none⟩ 1 1 [.int .i64 W, .int .i64 H, .slice (some ⟨gr, 0, none⟩) (H * stride W) cr] rfl rfl ?c1 ?c2 ?c3 ?c4 (by decide) ?_))
            case c1 => exact cell3_new w9 (.int .i64 W) (.int .i64 H) (.slice (some ⟨gr, 0, none⟩) (H * stride W) cr) 39
            case c2 =>
              intro u hu
              simp only [List.mem_cons, List.not_mem_nil, or_false] at hu
              rcases hu with rfl | rfl | rfl <;> rfl
            case c3 => unfold maxLen; omega
            case c4 => omega
            intro gu cu2 w10 ho10 hg10 hor10 _ _
            have HF10 : Hid (Fr (fun k => (Value.slice ua m uc).ownBlock = some k) w9 w10) := ((Fr.refl (fun k => (Value.slice ua m uc).ownBlock = some k) w9).alloc _).grown hg10 (fun k e _ => e)
            have HBN : Hid (Bo w10 (.slice (some ⟨gv, 0, none⟩) (m + 1) cv2) (.slice (some ⟨gu, 0, none⟩) (m + 1) cu2) (m + 1) (updF M m ⟨bm, gm, cm, W, H, pixOf W l⟩) (updF R m ⟨gr, cr, W, H, pixOf W l⟩)) := by
              refine HB7.out.push (m := ⟨bm, gm, cm, W, H, pixOf W l⟩) (r := ⟨gr, cr, W, H, pixOf W l⟩) HM7.out (fun j hj => ?_) HL8.out HF8.out HF9.out HR9.out HG9.out ho10 HF10.out
              have h1 := HBO.out.lts hj
              have h2 := HNW.out
              show _ ≠ bm ∧ _ ≠ gm ∧ _ ≠ gm
              omega
            have HF09 : Hid (Fr (fun _ => False) w w9) := HF08.out.trans HF9.out (fun _ _ h => h)
            have HF010 : Hid (Fr (fun _ => False) w w10) := HF09.out.trans HF10.out (fun k hk e => by have := HFS.out.u k e; omega)
            have HFN : Hid (Fs w (.slice (some ⟨gv, 0, none⟩) (m + 1) cv2) (.slice (some ⟨gu, 0, none⟩) (m + 1) cu2) (m + 1) (updF M m ⟨bm, gm, cm, W, H, pixOf W l⟩) (updF R m ⟨gr, cr, W, H, pixOf W l⟩)) := by
              refine ⟨HV8.out, fun k hk => ?_, fun j hj => ?_⟩
              · simp only [Value.ownBlock, Option.some.injEq] at hk
                subst hk
                rcases hor10 with h | h
                · exact HFS.out.u _ h
                · have := HF09.out.size
                  first | (simp only [World.size_alloc] at h; omega) | omega
              · have h0 := HFr.out.size
                have h1 := HNW.out
                have h2 := HG9.out
                have h3 := HF08.out.size
                by_cases e : j = m
                · subst e
                  rw [updF_same, updF_same]
                  show _ ≤ bm ∧ _ ≤ gm ∧ _ ≤ gr
                  omega
                · rw [updF_other M _ e, updF_other R _ e]
                  exact HFS.out.e j (by omega)
            have HAN : Hid (Ag (m + 1) (updF M m ⟨bm, gm, cm, W, H, pixOf W l⟩) (updF R m ⟨gr, cr, W, H, pixOf W l⟩)) := fun j hj => by
              by_cases e : j = m
              · subst e; rw [updF_same, updF_same]; exact ⟨rfl, rfl, rfl⟩
              · rw [updF_other M _ e, updF_other R _ e]; exact HAG.out j (by omega)
            clear ho10 hg10 hor10
            go_wp2_with fail
            go_roundg (n - (i + 1))
            case measure => omega
            case rel => exact ⟨i + 1, m + 1, _, _, _, _, by omega, by go_num, rfl, rfl, by omega, HBN.out, HAN.out, HFN.out, HF010.out⟩
end Go.Proofs.YtflhbmapikdmhaaDoor
