/- The document's own answer: Get. -/
import Derived.Test.YtmfpoabhmpljgaaKRa
import Derived.Test.YtmfpoabhmpljgaaK23
import Derived.Test.YtmfpoabhmpljgaaKRdG
namespace Go.Proofs.Ytmfpoabhmpljgaa
open Go.RowKit

theorem getP_made (B : List Nat) (o : De) (i : Int) : (getP B o i).made = o.made + 1 := rfl
theorem pixW_eok {B : List Nat} (cx : Cxf) (base y : Nat) (s : De × Pxs) (h : Eok B s.1) : ∀ n, s.1.made + n ≤ 16777216 → Eok B (pixW (askD B) cx base y n s).1 ∧ (pixW (askD B) cx base y n s).1.made = s.1.made + n
  | 0, _ => ⟨h, rfl⟩
  | n + 1, hn => by
    obtain ⟨a, b⟩ := pixW_eok cx base y s h n (by omega)
    refine ⟨getP_ok a _ (by omega), ?_⟩
    show (getP B _ _).made = _
    rw [getP_made, b]; omega
theorem thrW_eok {B : List Nat} (cx : Cxf) (base W : Nat) (s : De × Pxs) (h : Eok B s.1) : ∀ n, s.1.made + n * W ≤ 16777216 → Eok B (thrW (askD B) cx base W n s).1 ∧ (thrW (askD B) cx base W n s).1.made = s.1.made + n * W
  | 0, _ => ⟨h, by simp [thrW]⟩
  | n + 1, hn => by
    rw [Nat.add_mul, Nat.one_mul] at hn
    obtain ⟨a, b⟩ := thrW_eok cx base W s h n (by omega)
    obtain ⟨c, e⟩ := pixW_eok cx base n _ a W (by omega)
    refine ⟨c, ?_⟩
    show (pixW (askD B) cx base n W (thrW (askD B) cx base W n s)).1.made = _
    rw [e, b, Nat.add_mul, Nat.one_mul]; omega
theorem getBit_toNat {o : De} {i : Int} (h : getBit o i < 2) : (decide (getBit o i = 1)).toNat = getBit o i := by
  rcases (show getBit o i = 0 ∨ getBit o i = 1 by omega) with e | e <;> rw [e] <;> rfl

set_option maxRecDepth 100000 in
set_option maxHeartbeats 8000000 in
theorem rrget_ok (br gt ct gs gz n : Nat) (vb : Value) (B : List Nat) (d : De) (base W H : Nat) (V U : Nat) (vr : Value) (R : Pxs) (dx dy : Int) (w : World) (h : RdAt w br gt ct gs gz n vb B d) (hok : Eok B d) (hR : ∀ w', Fr (fun k => k = br ∨ k = gs ∨ k = gz) w w' → Bm w' vr V U R) (h1 : 1 ≤ W) (h2 : 1 ≤ H) (h3 : W * H ≤ 1048576) (hdx : -1048576 ≤ dx ∧ dx ≤ 1048576) (hdy : -1048576 ≤ dy ∧ dy ≤ 1048576) (hbase : base ≤ 131072) (hm : d.made + H * W ≤ 16777216) :
    Calls Try.prog 37 #[.pointer (some ⟨br, 0, none⟩), .int .i64 base, .int .i64 W, .int .i64 H, .agg #[.int .i64 V, .int .i64 U, vr], .int .i64 dx, .int .i64 dy] w fun e w' => ∃ g cap, e = .returned (.tuple #[.agg #[.int .i64 W, .int .i64 H, .slice (some ⟨g, 0, none⟩) (H * stride W) cap], .int .i64 0]) ∧ RowAt w' g cap W H (gotW B (cxR W (refP V U R dx dy)) base W H d).2 ∧ w.heap.size ≤ g ∧ Fr (fun k => k = br ∨ k = gs ∨ k = gz) w w' := by
  obtain ⟨f1, f2, f3⟩ := size_facts h1 h2 h3
  have hbr := hR w (Fr.refl _ _)
  obtain ⟨cx, HCX⟩ : ∃ cx, Hid (cx = cxR W (refP V U R dx dy)) := ⟨_, rfl⟩
  rw [← HCX.out]
  have HCl : Hid (∀ P x y, cx P x y < 8192) := fun P x y => by rw [HCX.out]; exact cxR_lt W _ (fun _ _ => refP_le _ _ _ _ _ _ _) P x y
  have HSz : Hid (1 ≤ W ∧ 1 ≤ H ∧ W * H ≤ 1048576) := ⟨h1, h2, h3⟩
  have HGe : Hid (∀ (w' : World) (o : De) (ii : Int) (i : Nat), RdAt w' br gt ct gs gz n vb B o → Eok B o → o.made < 16777216 → i ≤ 262144 → ii = (i : Int) → Calls Try.prog 68 #[.pointer (some ⟨br, 0, none⟩), .int .i64 ii] w' fun e w'' => e = .returned (.tuple #[.int .i64 ((decide (getBit o i = 1)).toNat : Nat), .int .i64 0]) ∧ RdAt w'' br gt ct gs gz n vb B (getP B o i) ∧ Fr (fun k => k = br ∨ k = gs ∨ k = gz) w' w'') := fun w' o ii i hr ho hmm hi e => by
    subst e
    rw [getBit_toNat (decBit_lt _ _)]
    exact rget_any w' br gt ct gs gz n vb B o hr ho hmm i (by omega)
  have HAt : Hid (∀ (w' : World) (g : Nat) (P : Pxs) (x y : Nat), x < W → y < H → RowAt w' g (H * stride W) W H P → Bm w' vr V U R → Calls Try.prog 57 #[.agg #[.int .i64 W, .int .i64 H, .slice (some ⟨g, 0, none⟩) (H * stride W) (H * stride W)], .agg #[.int .i64 V, .int .i64 U, vr], .int .i64 dx, .int .i64 dy, .int .i64 x, .int .i64 y] w' fun e w'' => e = .returned (.int .i64 (cx P x y : Nat)) ∧ Fr (fun _ => False) w' w'') := fun w' g P x y hx hy hrow hr' => by
    rw [HCX.out]; exact rat8_any W H _ P V U vr R dx dy x y w' (hrow.bm h1 h2 h3) hr' hx hy hdx hdy
  have HPt : Hid (∀ (w' : World) (g : Nat) (P : Pxs) (x y : Nat) (c : Bool), x < W → y < H → RowAt w' g (H * stride W) W H P → Calls Try.prog 41 #[.agg #[.int .i64 W, .int .i64 H, .slice (some ⟨g, 0, none⟩) (H * stride W) (H * stride W)], .int .i64 x, .int .i64 y, .int .i64 (c.toNat : Nat)] w' fun e w'' => e = .returned (.tuple #[]) ∧ RowAt w'' g (H * stride W) W H (putPix P x y c) ∧ Fr (fun k => k = g) w' w'') := fun w' g P x y c hx hy hrow => zput_any W H g _ P x y c w' hrow h1 h2 h3 hx hy
  have HWt : Hid (∀ w', Calls Try.prog 23 #[.int .i64 W, .int .i64 H] w' fun e w'' => ∃ g, e = .returned (.agg #[.int .i64 W, .int .i64 H, .slice (some ⟨g, 0, none⟩) (H * stride W) (H * stride W)]) ∧ RowAt w'' g (H * stride W) W H (fun _ _ => false) ∧ Fr (fun _ => False) w' w'' ∧ w'.heap.size ≤ g) := fun w' => zwhite_any W H w' h1 h2 h3
  have HTh : Hid (∀ y, y ≤ H → Eok B (thrW (askD B) cx base W y (d, fun _ _ => false)).1 ∧ (thrW (askD B) cx base W y (d, fun _ _ => false)).1.made = d.made + y * W) := fun y hy => thrW_eok cx base W (d, fun _ _ => false) hok y (by
    have := Nat.mul_le_mul_right W hy
    show d.made + _ ≤ _
    omega)
  have HPi : Hid (∀ y x, y < H → x < W → Eok B (pixW (askD B) cx base y x (thrW (askD B) cx base W y (d, fun _ _ => false))).1 ∧ (pixW (askD B) cx base y x (thrW (askD B) cx base W y (d, fun _ _ => false))).1.made < 16777216) := fun y x hy hx => by
    obtain ⟨a, b⟩ := HTh.out y (by omega)
    have h4 := Nat.mul_le_mul_right W (show y + 1 ≤ H by omega)
    rw [Nat.add_mul, Nat.one_mul] at h4
    obtain ⟨c, e⟩ := pixW_eok cx base y _ a x (by omega)
    exact ⟨c, by omega⟩
  have HR : Hid (∀ w', Fr (fun k => k = br ∨ k = gs ∨ k = gz) w w' → Bm w' vr V U R) := hR
  have HD0 : Hid (RdAt w br gt ct gs gz n vb B d) := h
  have HLt : Hid ((br < w.heap.size ∧ gt < w.heap.size ∧ gs < w.heap.size ∧ gz < w.heap.size) ∧ ∀ k, vb.ownBlock = some k → k < w.heap.size) := ⟨⟨h.lt, (h.tab.lt gt rfl).2, (h.st.lt gs rfl).2, (h.bt.lt gz rfl).2⟩, fun k hk => (h.bs.lt k hk).2⟩
  obtain ⟨ar, cr, hvr, -, -⟩ := hbr.seen
  generalize (render V U R).length = n1 at *
  subst hvr
  obtain ⟨m0, HM0⟩ : ∃ m0, Hid (m0 = H * stride W) := ⟨_, rfl⟩
  rw [← HM0.out] at HAt HPt HWt ⊢
  clear hbr hR h hok hm hdx hdy h1 h2 h3 f3
  have HA : Hid (Fr (fun _ => False) w ((w.alloc (.cells #[.int .i64 V, .int .i64 U, .slice ar n1 cr] 26)).alloc (.cells #[.int .i64 0, .int .i64 0, .slice none 0 0] 26))) := ((Fr.refl _ _).alloc _).alloc _
  have HBX : Hid (((w.alloc (.cells #[.int .i64 V, .int .i64 U, .slice ar n1 cr] 26)).alloc (.cells #[.int .i64 0, .int .i64 0, .slice none 0 0] 26)).heap[w.heap.size]? = some (.cells #[.int .i64 V, .int .i64 U, .slice ar n1 cr] 26 (0, 0)) ∧ ((w.alloc (.cells #[.int .i64 V, .int .i64 U, .slice ar n1 cr] 26)).alloc (.cells #[.int .i64 0, .int .i64 0, .slice none 0 0] 26)).heap[w.heap.size + 1]? = some (.cells #[.int .i64 0, .int .i64 0, .slice none 0 0] 26 (0, 0)) ∧ ((w.alloc (.cells #[.int .i64 V, .int .i64 U, .slice ar n1 cr] 26)).alloc (.cells #[.int .i64 0, .int .i64 0, .slice none 0 0] 26)).heap.size = w.heap.size + 2) := by
    have q2 := heap_alloc_new (w.alloc (.cells #[.int .i64 V, .int .i64 U, .slice ar n1 cr] 26)) (.cells #[.int .i64 0, .int .i64 0, .slice none 0 0] 26)
    have q1 := heap_alloc_new w (.cells #[.int .i64 V, .int .i64 U, .slice ar n1 cr] 26)
    simp only [World.size_alloc] at q1 q2
    exact ⟨blkUp q1 _, q2, by simp only [World.size_alloc]⟩
  go_enter Try.func37, Try.ntmps37
  go_wp2_with fail
  generalize ((w.alloc (.cells #[.int .i64 V, .int .i64 U, .slice ar n1 cr] 26)).alloc (.cells #[.int .i64 0, .int .i64 0, .slice none 0 0] 26)) = w0 at *
  refine (HWt.out _).mono ?_
  rintro e w1 ⟨g, rfl, hr1, hf1, hg1⟩
  have HF2 : Hid (Fr (fun _ => False) w0 (w1.alloc (.cells #[.int .i64 W, .int .i64 H, .slice (some ⟨g, 0, none⟩) m0 m0] 26))) := hf1.alloc _
  have HR2 : Hid (RowAt (w1.alloc (.cells #[.int .i64 W, .int .i64 H, .slice (some ⟨g, 0, none⟩) m0 m0] 26)) g m0 W H (fun _ _ => false)) := hr1.kept ((Fr.refl (fun _ => False) w1).alloc _) (fun h => h)
  have HB2 : Hid ((w1.alloc (.cells #[.int .i64 W, .int .i64 H, .slice (some ⟨g, 0, none⟩) m0 m0] 26)).heap[w1.heap.size]? = some (.cells #[.int .i64 W, .int .i64 H, .slice (some ⟨g, 0, none⟩) m0 m0] 26 (0, 0))) := heap_alloc_new w1 _
  have HG2 : Hid (w.heap.size + 2 ≤ g ∧ g < w1.heap.size ∧ w.heap.size + 2 ≤ w1.heap.size) := ⟨by have := HBX.out.2.2; omega, hr1.lt, by have := HBX.out.2.2; have := hf1.size; omega⟩
  clear hr1 hf1 hg1
  go_wp2_with fail
  generalize w1.alloc (.cells #[.int .i64 W, .int .i64 H, .slice (some ⟨g, 0, none⟩) m0 m0] 26) = w2 at *
  have HSt : Hid (∀ (w' : World), Fr (fun k => k = br ∨ k = gs ∨ k = gz ∨ k = g) w2 w' → (w'.cell? ⟨w1.heap.size, 0, none⟩ = some (.int .i64 W) ∧ w'.cell? ⟨w1.heap.size, 1, none⟩ = some (.int .i64 H) ∧ w'.cell? ⟨w1.heap.size, 2, none⟩ = some (.slice (some ⟨g, 0, none⟩) m0 m0) ∧ w'.cell? ⟨w.heap.size, 0, none⟩ = some (.int .i64 V) ∧ w'.cell? ⟨w.heap.size, 1, none⟩ = some (.int .i64 U) ∧ w'.cell? ⟨w.heap.size, 2, none⟩ = some (.slice ar n1 cr)) ∧ Bm w' (.slice ar n1 cr) V U R ∧ w'.heap[w.heap.size + 1]? = some (.cells #[.int .i64 0, .int .i64 0, .slice none 0 0] 26 (0, 0)) ∧ Fr (fun k => k = br ∨ k = gs ∨ k = gz) w w') := fun w' hs => by
    obtain ⟨b1, b2, b3⟩ := HBX.out
    have hg := HG2.out
    have hl := HLt.out.1
    have hs0 : Fr (fun k => k = br ∨ k = gs ∨ k = gz ∨ k = g) w0 w' := (HF2.out.mono (fun _ _ h => h.elim)).trans hs (fun _ _ h => h)
    have e1 := (hs.block w1.heap.size (lt_of_block HB2.out) (by omega)).trans HB2.out
    have e2 := (hs0.block w.heap.size (lt_of_block b1) (by omega)).trans b1
    have e3 := (hs0.block (w.heap.size + 1) (lt_of_block b2) (by omega)).trans b2
    obtain ⟨c0, c1, c2, _⟩ := cell_of_three e1
    obtain ⟨d0, d1, d2, _⟩ := cell_of_three e2
    have hw : Fr (fun k => k = br ∨ k = gs ∨ k = gz) w w' := (HA.out.mono (fun _ _ h => h.elim)).trans hs0 (fun i hi e => by omega)
    exact ⟨⟨c0, c1, c2, d0, d1, d2⟩, HR.out w' hw, e3, hw⟩
  have HD2 : Hid (RdAt w2 br gt ct gs gz n vb B d) := HD0.out.keptAll (HA.out.trans HF2.out (fun _ _ h => h))
  go_loopw [17, 18, 19, 20] (fun a _ _ _ wr => ∃ (y : Nat), y ≤ H ∧ a = .int .i64 y ∧ RdAt wr br gt ct gs gz n vb B (thrW (askD B) cx base W y (d, fun _ _ => false)).1 ∧ RowAt wr g m0 W H (thrW (askD B) cx base W y (d, fun _ _ => false)).2 ∧ Fr (fun k => k = br ∨ k = gs ∨ k = gz ∨ k = g) w2 wr) (fun a _ _ _ _ => H - (intOf a).toNat)
  case atStart => exact ⟨0, Nat.zero_le _, rfl, HD2.out, HR2.out, Fr.refl _ _⟩
  case round =>
    obtain ⟨y, hy, rfl, hre, hro, hst⟩ := hrel
    have HRe : Hid (RdAt wr br gt ct gs gz n vb B (thrW (askD B) cx base W y (d, fun _ _ => false)).1 ∧ RowAt wr g m0 W H (thrW (askD B) cx base W y (d, fun _ _ => false)).2) := ⟨hre, hro⟩
    have HS : Hid (Fr (fun k => k = br ∨ k = gs ∨ k = gz ∨ k = g) w2 wr) := hst
    obtain ⟨⟨c0, c1, c2, d0, d1, d2⟩, -, -, -⟩ := HSt.out _ hst
    clear hre hst hro
    by_cases hyH : y < H
    · have hdy : decide ((y : Int) < (H : Int)) = true := decide_eq_true (by omega)
      have HYH : Hid (y < H) := hyH
      go_wp2_with fail
      go_loopw [18, 19, 20] (fun a _ _ wi => ∃ (x : Nat), x ≤ W ∧ a = .int .i64 x ∧ RdAt wi br gt ct gs gz n vb B (pixW (askD B) cx base y x (thrW (askD B) cx base W y (d, fun _ _ => false))).1 ∧ RowAt wi g m0 W H (pixW (askD B) cx base y x (thrW (askD B) cx base W y (d, fun _ _ => false))).2 ∧ Fr (fun k => k = br ∨ k = gs ∨ k = gz ∨ k = g) w2 wi) (fun a _ _ _ => W - (intOf a).toNat)
      case atStart => exact ⟨0, Nat.zero_le _, rfl, HRe.out.1, HRe.out.2, HS.out⟩
      case round =>
        obtain ⟨x, hx, rfl, hri, hroi, hsi⟩ := hrel
        have HRi : Hid (RdAt wr br gt ct gs gz n vb B (pixW (askD B) cx base y x (thrW (askD B) cx base W y (d, fun _ _ => false))).1 ∧ RowAt wr g m0 W H (pixW (askD B) cx base y x (thrW (askD B) cx base W y (d, fun _ _ => false))).2) := ⟨hri, hroi⟩
        have HSi : Hid (Fr (fun k => k = br ∨ k = gs ∨ k = gz ∨ k = g) w2 wr) := hsi
        have HSI : Hid (∀ w', Fr (fun k => k = br ∨ k = gs ∨ k = gz ∨ k = g) wr w' → (w'.cell? ⟨w1.heap.size, 0, none⟩ = some (.int .i64 W) ∧ w'.cell? ⟨w1.heap.size, 1, none⟩ = some (.int .i64 H) ∧ w'.cell? ⟨w1.heap.size, 2, none⟩ = some (.slice (some ⟨g, 0, none⟩) m0 m0) ∧ w'.cell? ⟨w.heap.size, 0, none⟩ = some (.int .i64 V) ∧ w'.cell? ⟨w.heap.size, 1, none⟩ = some (.int .i64 U) ∧ w'.cell? ⟨w.heap.size, 2, none⟩ = some (.slice ar n1 cr)) ∧ Bm w' (.slice ar n1 cr) V U R) := fun w' f => by
          obtain ⟨a, b, _⟩ := HSt.out w' (HSi.out.trans f (fun _ _ h => h))
          exact ⟨a, b⟩
        clear hri hsi hroi c0 c1 c2 d0 d1 d2
        obtain ⟨⟨c0, c1, c2, d0, d1, d2⟩, -⟩ := HSI.out _ (Fr.refl _ _)
        by_cases hxW : x < W
        · have hdx : decide ((x : Int) < (W : Int)) = true := decide_eq_true (by omega)
          obtain ⟨s, HSs⟩ : ∃ s, Hid (s = pixW (askD B) cx base y x (thrW (askD B) cx base W y (d, fun _ _ => false))) := ⟨_, rfl⟩
          have HRs : Hid (RdAt wr br gt ct gs gz n vb B s.1 ∧ RowAt wr g m0 W H s.2) := by rw [HSs.out]; exact HRi.out
          have HEs : Hid (Eok B s.1 ∧ s.1.made < 16777216) := by rw [HSs.out]; exact HPi.out y x HYH.out hxW
          have HAx : Hid (∀ w', Fr (fun _ => False) wr w' → Calls Try.prog 57 #[.agg #[.int .i64 W, .int .i64 H, .slice (some ⟨g, 0, none⟩) m0 m0], .agg #[.int .i64 V, .int .i64 U, .slice ar n1 cr], .int .i64 dx, .int .i64 dy, .int .i64 x, .int .i64 y] w' fun e w'' => e = .returned (.int .i64 (cx s.2 x y : Nat)) ∧ Fr (fun _ => False) w' w'') := fun w' f => by
            obtain ⟨_, h1⟩ := HSI.out w' (f.mono (fun _ _ h => h.elim))
            exact HAt.out w' g s.2 x y hxW HYH.out (HRs.out.2.kept f (fun h => h)) h1
          have hcl := HCl.out s.2 x y
          obtain ⟨K, hK⟩ : ∃ K, K = cx s.2 x y := ⟨_, rfl⟩
          rw [← hK] at HAx hcl
          have HGx : Hid (∀ w' (ii : Int), ii = ((base + K : Nat) : Int) → Fr (fun _ => False) wr w' → Calls Try.prog 68 #[.pointer (some ⟨br, 0, none⟩), .int .i64 ii] w' fun e w'' => e = .returned (.tuple #[.int .i64 ((decide (getBit s.1 ((base + K : Nat) : Int) = 1)).toNat : Nat), .int .i64 0]) ∧ RdAt w'' br gt ct gs gz n vb B (getP B s.1 ((base + K : Nat) : Int)) ∧ Fr (fun k => k = br ∨ k = gs ∨ k = gz) w' w'') := fun w' ii hii f => HGe.out w' s.1 ii (base + K) (HRs.out.1.keptAll f) HEs.out.1 HEs.out.2 (by omega) hii
          obtain ⟨c, hc⟩ : ∃ c, c = decide (getBit s.1 ((base + K : Nat) : Int) = 1) := ⟨_, rfl⟩
          have HNx : Hid (pixW (askD B) cx base y (x + 1) (thrW (askD B) cx base W y (d, fun _ _ => false)) = (getP B s.1 ((base + K : Nat) : Int), putPix s.2 x y c)) := by
            rw [pixW, ← HSs.out, hc, hK]; rfl
          rw [← hc] at HGx
          have HPx : Hid (∀ w', Fr (fun k => k = br ∨ k = gs ∨ k = gz) wr w' → Calls Try.prog 41 #[.agg #[.int .i64 W, .int .i64 H, .slice (some ⟨g, 0, none⟩) m0 m0], .int .i64 x, .int .i64 y, .int .i64 (c.toNat : Nat)] w' fun e w'' => e = .returned (.tuple #[]) ∧ RowAt w'' g m0 W H (putPix s.2 x y c) ∧ Fr (fun k => k = g) w' w'') := fun w' f => HPt.out w' g s.2 x y c hxW HYH.out (HRs.out.2.kept f (by have := HG2.out; have := HLt.out.1; omega))
          clear hc hK
          obtain ⟨cb, hcb⟩ : ∃ cb : Nat, cb = c.toNat := ⟨_, rfl⟩
          rw [← hcb] at HGx HPx
          clear hcb
          have hw9 : IntKind.i64.wrap ((base : Int) + (K : Int)) = (base : Int) + (K : Int) := by rw [IntKind.wrap_i64]; omega
          go_wp2_with fail
          refine (HAx.out _ (Fr.refl _ _)).mono ?_
          rintro e w7 ⟨rfl, hf7⟩
          have HF7 : Hid (Fr (fun _ => False) wr w7) := hf7
          clear c0 c1 c2 d0 d1 d2 hf7
          obtain ⟨⟨c0, c1, c2, d0, d1, d2⟩, -⟩ := HSI.out _ (HF7.out.mono (fun _ _ h => h.elim))
          go_wp2_with fail
          refine (HGx.out _ _ (by omega) HF7.out).mono ?_
          rintro e w9 ⟨rfl, hr9, hs9⟩
          have HF9 : Hid (Fr (fun k => k = br ∨ k = gs ∨ k = gz) wr w9) := (HF7.out.mono (fun _ _ h => h.elim)).trans hs9 (fun _ _ h => h)
          have HR9 : Hid (RdAt w9 br gt ct gs gz n vb B (getP B s.1 ((base + K : Nat) : Int))) := hr9
          clear c0 c1 c2 d0 d1 d2 hr9 hs9
          obtain ⟨⟨c0, c1, c2, d0, d1, d2⟩, -⟩ := HSI.out _ (HF9.out.mono (fun _ _ h => by omega))
          go_wp2_with fail
          refine (HPx.out _ HF9.out).mono ?_
          rintro e w10 ⟨rfl, hr10, hs10⟩
          have H10 : Hid (RdAt w10 br gt ct gs gz n vb B (pixW (askD B) cx base y (x + 1) (thrW (askD B) cx base W y (d, fun _ _ => false))).1 ∧ RowAt w10 g m0 W H (pixW (askD B) cx base y (x + 1) (thrW (askD B) cx base W y (d, fun _ _ => false))).2 ∧ Fr (fun k => k = br ∨ k = gs ∨ k = gz ∨ k = g) w2 w10) := by
            have hg := HG2.out
            have hl := HLt.out
            rw [HNx.out]
            refine ⟨HR9.out.kept hs10 (by omega) (by omega) (by omega) (by omega) (fun k hk e => by have := hl.2 k hk; omega), hr10, ?_⟩
            exact HSi.out.trans ((HF9.out.mono (fun _ _ h => by omega)).trans hs10 (fun _ _ h => by omega)) (fun _ _ h => h)
          clear hr10 hs10 c0 c1 c2 d0 d1 d2
          go_wp2_with fail
          exact ⟨⟨x + 1, by omega, by rw [Int.natCast_add]; rfl, H10.out⟩, by simp only [intOf]; omega⟩
        · obtain rfl : x = W := by omega
          go_wp2_with fail
          exact ⟨⟨y + 1, by omega, by rw [Int.natCast_add]; rfl, HRi.out.1, HRi.out.2, HSi.out⟩, by simp only [intOf]; omega⟩
    · obtain rfl : y = H := by omega
      have hdy : decide ((y : Int) < (y : Int)) = false := decide_eq_false (by omega)
      obtain ⟨-, -, hb9, hfw⟩ := HSt.out _ HS.out
      have hset := set3_cells hb9 (.int .i64 W) (.int .i64 y) (.slice (some ⟨g, 0, none⟩) m0 m0)
      have hf9 : Fr (fun k => k = w.heap.size + 1) wr (((wr.setCell ⟨w.heap.size + 1, 0, none⟩ (.int .i64 W)).setCell ⟨w.heap.size + 1, 1, none⟩ (.int .i64 y)).setCell ⟨w.heap.size + 1, 2, none⟩ (.slice (some ⟨g, 0, none⟩) m0 m0)) := (((Fr.refl (fun k => k = w.heap.size + 1) wr).setCell (p := ⟨w.heap.size + 1, 0, none⟩) (fun _ => rfl) _).setCell (p := ⟨w.heap.size + 1, 1, none⟩) (fun _ => rfl) _).setCell (p := ⟨w.heap.size + 1, 2, none⟩) (fun _ => rfl) _
      obtain ⟨w9, hw9⟩ : ∃ w9, w9 = ((wr.setCell ⟨w.heap.size + 1, 0, none⟩ (.int .i64 W)).setCell ⟨w.heap.size + 1, 1, none⟩ (.int .i64 y)).setCell ⟨w.heap.size + 1, 2, none⟩ (.slice (some ⟨g, 0, none⟩) m0 m0) := ⟨_, rfl⟩
      rw [← hw9] at hset hf9
      obtain ⟨x0, x1, x2, xf⟩ := cell_of_three hset
      have HW9 := (show Hid (w9 = ((wr.setCell ⟨w.heap.size + 1, 0, none⟩ (.int .i64 W)).setCell ⟨w.heap.size + 1, 1, none⟩ (.int .i64 y)).setCell ⟨w.heap.size + 1, 2, none⟩ (.slice (some ⟨g, 0, none⟩) m0 m0)) from hw9)
      have HE : Hid (RowAt w9 g m0 W y (gotW B cx base W y d).2 ∧ w.heap.size ≤ g ∧ Fr (fun k => k = br ∨ k = gs ∨ k = gz) w w9) := by
        have hg := HG2.out
        exact ⟨HRe.out.2.kept hf9 (by omega), by omega, hfw.trans hf9 (fun i hi e => by omega)⟩
      obtain ⟨u0, u1, u2, uf⟩ := cell_of_three hb9
      clear hset hf9 xf hb9 hw9 hfw
      go_wp2_with fail
      rw [← HW9.out]
      refine bodyPost_ret (v := .tuple #[.agg #[.int .i64 W, .int .i64 y, .slice (some ⟨g, 0, none⟩) m0 m0], .int .i64 0]) (by simp [results, Try.results37, go_sem, x0, x1, x2]) rfl ?_
      exact ⟨g, m0, rfl, HE.out⟩

end Go.Proofs.Ytmfpoabhmpljgaa
