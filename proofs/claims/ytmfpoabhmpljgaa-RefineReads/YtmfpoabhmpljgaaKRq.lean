/- The document's own answer: Put. -/
import Derived.Test.YtmfpoabhmpljgaaKRa
import Derived.Test.YtmfpoabhmpljgaaKReF
import Derived.Test.YtmfpoabhmpljgaaK15
namespace Go.Proofs.Ytmfpoabhmpljgaa
open Go.RowKit

set_option maxRecDepth 100000 in
set_option maxHeartbeats 8000000 in
theorem rrput_ok (br gt ct gs gz n gb cb : Nat) (o : Co) (base W H : Nat) (v : Value) (P : Pxs) (V U : Nat) (vr : Value) (R : Pxs) (dx dy : Int) (w : World) (h : ReAt w br gt ct gs gz n gb cb o false) (hok : Ook o) (hB : ∀ w', Fr (fun k => k = br ∨ k = gs ∨ k = gz ∨ k = gb) w w' → Bm w' v W H P ∧ Bm w' vr V U R) (hdx : -1048576 ≤ dx ∧ dx ≤ 1048576) (hdy : -1048576 ≤ dy ∧ dy ≤ 1048576) (hbase : base ≤ 131072) (hm : o.made + H * W ≤ 16777216) :
    Calls Try.prog 30 #[.pointer (some ⟨br, 0, none⟩), .int .i64 base, .agg #[.int .i64 W, .int .i64 H, v], .agg #[.int .i64 V, .int .i64 U, vr], .int .i64 dx, .int .i64 dy] w fun e w' => e = .returned (.int .i64 0) ∧ ∃ gb' cb', ReAt w' br gt ct gs gz n gb' cb' (runL o (rowsD (cxR W (refP V U R dx dy)) base W P H)) false ∧ Ook (runL o (rowsD (cxR W (refP V U R dx dy)) base W P H)) ∧ RStep br gs gz gb gb' w w' := by
  have hb := (hB w (Fr.refl _ _)).1
  have hbr := (hB w (Fr.refl _ _)).2
  obtain ⟨f1, f2, f3⟩ := size_facts hb.h1 hb.h2 hb.h3
  obtain ⟨cx, HCX⟩ : ∃ cx, Hid (cx = cxR W (refP V U R dx dy)) := ⟨_, rfl⟩
  rw [← HCX.out]
  have HL : Hid (∀ L : List (Int × Nat), L.length ≤ H * W → Ook (runL o L) ∧ (runL o L).made = o.made + L.length) := fun L hL => by
    obtain ⟨a, b, _⟩ := runL_ok hok L (by omega)
    exact ⟨a, b⟩
  have HM : Hid (o.made + H * W ≤ 16777216) := hm
  have HPu : Hid (∀ (w' : World) (gb' cb' : Nat) (L : List (Int × Nat)) (i : Nat) (ii bi : Int) (b : Nat), L.length < H * W → i ≤ 262144 → b < 2 → ii = (i : Int) → bi = (b : Int) → ReAt w' br gt ct gs gz n gb' cb' (runL o L) false → Calls Try.prog 56 #[.pointer (some ⟨br, 0, none⟩), .int .i64 ii, .int .i64 bi] w' fun e w'' => e = .returned (.int .i64 0) ∧ ∃ gb2 cb2, ReAt w'' br gt ct gs gz n gb2 cb2 (runL o (L ++ [((i : Int), b)])) false ∧ RStep br gs gz gb' gb2 w' w'') := fun w' gb' cb' L i ii bi b hL hi hb2 e1 e2 hr => by
    obtain ⟨a1, a2⟩ := HL.out L (by omega)
    rw [runL_snoc, e1, e2]
    exact rput_any w' br gt ct gs gz n gb' cb' (runL o L) hr a1 (by have := HM.out; omega) i (by omega) b hb2
  have HAt : Hid (∀ (w' : World) (x y : Nat), x < W → y < H → Bm w' v W H P → Bm w' vr V U R → Calls Try.prog 57 #[.agg #[.int .i64 W, .int .i64 H, v], .agg #[.int .i64 V, .int .i64 U, vr], .int .i64 dx, .int .i64 dy, .int .i64 x, .int .i64 y] w' fun e w'' => e = .returned (.int .i64 (cx P x y : Nat)) ∧ Fr (fun _ => False) w' w'') := fun w' x y hx hy hb' hr' => by
    rw [HCX.out]; exact rat8_any W H v P V U vr R dx dy x y w' hb' hr' hx hy hdx hdy
  have HGe : Hid (∀ (w' : World) (x y : Nat), x < W → y < H → Bm w' v W H P → Calls Try.prog 43 #[.agg #[.int .i64 W, .int .i64 H, v], .int .i64 x, .int .i64 y] w' fun e w'' => e = .returned (.int .i64 ((P x y).toNat : Nat)) ∧ Fr (fun _ => False) w' w'') := fun w' x y hx hy hb' => zget_in W H v P x y w' hb'.seen hb'.h1 hb'.h2 hb'.h3 hx hy
  have HB : Hid (∀ w', Fr (fun k => k = br ∨ k = gs ∨ k = gz ∨ k = gb) w w' → Bm w' v W H P ∧ Bm w' vr V U R) := hB
  have HR0 : Hid (ReAt w br gt ct gs gz n gb cb o false) := h
  have HLt : Hid (br < w.heap.size ∧ gt < w.heap.size ∧ gs < w.heap.size ∧ gz < w.heap.size ∧ gb < w.heap.size) := ⟨h.lt, (h.tab.lt gt rfl).2, (h.st.lt gs rfl).2, (h.bt.lt gz rfl).2, (h.bs.lt gb rfl).2⟩
  have HCl : Hid (∀ x y, cx P x y < 8192) := fun x y => by rw [HCX.out]; exact cxR_lt W _ (fun _ _ => refP_le _ _ _ _ _ _ _) P x y
  obtain ⟨ao, cap, hv, -, -⟩ := hb.seen
  obtain ⟨ar, cr, hvr, -, -⟩ := hbr.seen
  generalize (render W H P).length = n0 at *
  generalize (render V U R).length = n1 at *
  subst hv
  subst hvr
  have hW1 := hb.h1
  clear hb hbr hB h hok hm f3 hdx hdy
  have HA : Hid (Fr (fun _ => False) w ((w.alloc (.cells #[.int .i64 W, .int .i64 H, .slice ao n0 cap] 26)).alloc (.cells #[.int .i64 V, .int .i64 U, .slice ar n1 cr] 26))) := ((Fr.refl _ _).alloc _).alloc _
  have HBX : Hid (∀ w', Fr (fun k => k = br ∨ k = gs ∨ k = gz ∨ k = gb) ((w.alloc (.cells #[.int .i64 W, .int .i64 H, .slice ao n0 cap] 26)).alloc (.cells #[.int .i64 V, .int .i64 U, .slice ar n1 cr] 26)) w' → w'.heap[w.heap.size]? = some (.cells #[.int .i64 W, .int .i64 H, .slice ao n0 cap] 26 (0, 0)) ∧ w'.heap[w.heap.size + 1]? = some (.cells #[.int .i64 V, .int .i64 U, .slice ar n1 cr] 26 (0, 0))) := fun w' f => by
    have hlt := HLt.out
    have q2 := heap_alloc_new (w.alloc (.cells #[.int .i64 W, .int .i64 H, .slice ao n0 cap] 26)) (.cells #[.int .i64 V, .int .i64 U, .slice ar n1 cr] 26)
    have q1 := heap_alloc_new w (.cells #[.int .i64 W, .int .i64 H, .slice ao n0 cap] 26)
    simp only [World.size_alloc] at q1 q2
    refine ⟨?_, ?_⟩
    · rw [f.block _ (by simp only [World.size_alloc]; omega) (by omega)]; exact blkUp q1 _
    · rw [f.block _ (by simp only [World.size_alloc]; omega) (by omega)]; exact q2
  go_enter Try.func30, Try.ntmps30
  go_wp2_with fail
  generalize ((w.alloc (.cells #[.int .i64 W, .int .i64 H, .slice ao n0 cap] 26)).alloc (.cells #[.int .i64 V, .int .i64 U, .slice ar n1 cr] 26)) = w1 at *
  have HSt : Hid (∀ (w' : World) (gb' : Nat), RStep br gs gz gb gb' w1 w' → (w'.cell? ⟨w.heap.size, 0, none⟩ = some (.int .i64 W) ∧ w'.cell? ⟨w.heap.size, 1, none⟩ = some (.int .i64 H) ∧ w'.cell? ⟨w.heap.size, 2, none⟩ = some (.slice ao n0 cap) ∧ w'.cell? ⟨w.heap.size + 1, 0, none⟩ = some (.int .i64 V) ∧ w'.cell? ⟨w.heap.size + 1, 1, none⟩ = some (.int .i64 U) ∧ w'.cell? ⟨w.heap.size + 1, 2, none⟩ = some (.slice ar n1 cr)) ∧ Bm w' (.slice ao n0 cap) W H P ∧ Bm w' (.slice ar n1 cr) V U R) := fun w' gb' hs => by
    obtain ⟨b0, b1⟩ := HBX.out w' hs.fr
    obtain ⟨c0, c1, c2, _⟩ := cell_of_three b0
    obtain ⟨d0, d1, d2, _⟩ := cell_of_three b1
    exact ⟨⟨c0, c1, c2, d0, d1, d2⟩, HB.out w' ((HA.out.mono (fun _ _ h => h.elim)).trans hs.fr (fun _ _ h => h))⟩
  go_loopw [13, 14, 15] (fun a _ _ wr => ∃ (y gb' cb' : Nat), y ≤ H ∧ a = .int .i64 y ∧ ReAt wr br gt ct gs gz n gb' cb' (runL o (rowsD cx base W P y)) false ∧ RStep br gs gz gb gb' w1 wr) (fun a _ _ _ => H - (intOf a).toNat)
  case atStart => exact ⟨0, gb, cb, Nat.zero_le _, rfl, HR0.out.kept HA.out (fun h => h) (fun h => h) (fun h => h) (fun h => h) (fun h => h), RStep.of_fr (Fr.refl _ _)⟩
  case round =>
    obtain ⟨y, gb', cb', hy, rfl, hre, hst⟩ := hrel
    have HRe : Hid (ReAt wr br gt ct gs gz n gb' cb' (runL o (rowsD cx base W P y)) false) := hre
    have HS : Hid (RStep br gs gz gb gb' w1 wr) := hst
    obtain ⟨⟨c0, c1, c2, d0, d1, d2⟩, -, -⟩ := HSt.out _ _ hst
    clear hre hst
    by_cases hyH : y < H
    · have hdy : decide ((y : Int) < (H : Int)) = true := decide_eq_true (by omega)
      have HYH : Hid (y < H) := hyH
      have HLr : Hid ((rowsD cx base W P y).length + W ≤ H * W) := by
        have h1 := rowsD_length cx base W P y
        have h2 := Nat.mul_le_mul_right W (show y + 1 ≤ H by omega)
        rw [Nat.add_mul, Nat.one_mul] at h2
        show _ ≤ _
        omega
      have HRe0 : Hid (ReAt wr br gt ct gs gz n gb' cb' (runL o (rowsD cx base W P y ++ pixD cx base P y 0)) false) := by
        have := HRe.out
        show ReAt _ _ _ _ _ _ _ _ _ _ _
        unfold pixD
        simpa using this
      go_wp2_with fail
      go_loopw [14, 15] (fun a _ wi => ∃ (x gb2 cb2 : Nat), x ≤ W ∧ a = .int .i64 x ∧ ReAt wi br gt ct gs gz n gb2 cb2 (runL o (rowsD cx base W P y ++ pixD cx base P y x)) false ∧ RStep br gs gz gb gb2 w1 wi) (fun a _ _ => W - (intOf a).toNat)
      case atStart => exact ⟨0, gb', cb', Nat.zero_le _, rfl, HRe0.out, HS.out⟩
      case round =>
        obtain ⟨x, gb2, cb2, hx, rfl, hri, hsi⟩ := hrel
        have HRi : Hid (∀ w', Fr (fun _ => False) wr w' → ReAt w' br gt ct gs gz n gb2 cb2 (runL o (rowsD cx base W P y ++ pixD cx base P y x)) false) := fun w' f => hri.kept f (fun h => h) (fun h => h) (fun h => h) (fun h => h) (fun h => h)
        have HSi : Hid (RStep br gs gz gb gb2 w1 wr) := hsi
        have HSI : Hid (∀ w', Fr (fun k => k = br ∨ k = gs ∨ k = gz ∨ k = gb2) wr w' → (w'.cell? ⟨w.heap.size, 0, none⟩ = some (.int .i64 W) ∧ w'.cell? ⟨w.heap.size, 1, none⟩ = some (.int .i64 H) ∧ w'.cell? ⟨w.heap.size, 2, none⟩ = some (.slice ao n0 cap) ∧ w'.cell? ⟨w.heap.size + 1, 0, none⟩ = some (.int .i64 V) ∧ w'.cell? ⟨w.heap.size + 1, 1, none⟩ = some (.int .i64 U) ∧ w'.cell? ⟨w.heap.size + 1, 2, none⟩ = some (.slice ar n1 cr)) ∧ Bm w' (.slice ao n0 cap) W H P ∧ Bm w' (.slice ar n1 cr) V U R) := fun w' f => HSt.out w' gb2 (HSi.out.trans (RStep.of_fr f))
        clear hri hsi c0 c1 c2 d0 d1 d2
        obtain ⟨⟨c0, c1, c2, d0, d1, d2⟩, -, -⟩ := HSI.out _ (Fr.refl _ _)
        by_cases hxW : x < W
        · have hdx : decide ((x : Int) < (W : Int)) = true := decide_eq_true (by omega)
          have HAx : Hid (∀ w', Fr (fun _ => False) wr w' → Calls Try.prog 57 #[.agg #[.int .i64 W, .int .i64 H, .slice ao n0 cap], .agg #[.int .i64 V, .int .i64 U, .slice ar n1 cr], .int .i64 dx, .int .i64 dy, .int .i64 x, .int .i64 y] w' fun e w'' => e = .returned (.int .i64 (cx P x y : Nat)) ∧ Fr (fun _ => False) w' w'') := fun w' f => by
            obtain ⟨_, h1, h2⟩ := HSI.out w' (f.mono (fun _ _ h => h.elim))
            exact HAt.out w' x y hxW HYH.out h1 h2
          have HGx : Hid (∀ w', Fr (fun _ => False) wr w' → Calls Try.prog 43 #[.agg #[.int .i64 W, .int .i64 H, .slice ao n0 cap], .int .i64 x, .int .i64 y] w' fun e w'' => e = .returned (.int .i64 ((P x y).toNat : Nat)) ∧ Fr (fun _ => False) w' w'') := fun w' f => by
            obtain ⟨_, h1, h2⟩ := HSI.out w' (f.mono (fun _ _ h => h.elim))
            exact HGe.out w' x y hxW HYH.out h1
          have HPx : Hid (∀ w' (ii : Int), ii = ((base + cx P x y : Nat) : Int) → Fr (fun _ => False) wr w' → Calls Try.prog 56 #[.pointer (some ⟨br, 0, none⟩), .int .i64 ii, .int .i64 ((P x y).toNat : Nat)] w' fun e w'' => e = .returned (.int .i64 0) ∧ ∃ gb3 cb3, ReAt w'' br gt ct gs gz n gb3 cb3 (runL o (rowsD cx base W P y ++ pixD cx base P y (x + 1))) false ∧ RStep br gs gz gb2 gb3 w' w'') := fun w' ii hii f => by
            have hl := HLr.out
            have hcx := HCl.out x y
            have hpl : (rowsD cx base W P y ++ pixD cx base P y x).length < H * W := by
              rw [List.length_append, pixD_length]
              omega
            have := HPu.out w' gb2 cb2 (rowsD cx base W P y ++ pixD cx base P y x) (base + cx P x y) ii _ (P x y).toNat hpl (by omega) (by have := Bool.toNat_le (P x y); omega) hii rfl (HRi.out w' f)
            rwa [List.append_assoc] at this
          have hcl := HCl.out x y
          generalize cx P x y = K at *
          generalize (P x y).toNat = bb at *
          have hw9 : IntKind.i64.wrap ((base : Int) + (K : Int)) = (base : Int) + (K : Int) := by rw [IntKind.wrap_i64]; omega
          go_wp2_with fail
          clear c0 c1 c2 d0 d1 d2
          go_region_held3 (fun w' => w'.cell? ⟨w.heap.size, 0, none⟩ = some (.int .i64 W) ∧ w'.cell? ⟨w.heap.size, 1, none⟩ = some (.int .i64 H) ∧ w'.cell? ⟨w.heap.size, 2, none⟩ = some (.slice ao n0 cap) ∧ w'.cell? ⟨w.heap.size + 1, 0, none⟩ = some (.int .i64 V) ∧ w'.cell? ⟨w.heap.size + 1, 1, none⟩ = some (.int .i64 U) ∧ w'.cell? ⟨w.heap.size + 1, 2, none⟩ = some (.slice ar n1 cr)) (exact (HSI.out _ (by repeat (first | with_reducible exact Fr.refl _ _ | with_reducible refine Fr.drew ?_ | with_reducible refine Fr.trans ?_ hs9.fr (fun _ _ hh => hh) | with_reducible refine Fr.trans ?_ hf8 (fun _ _ hh => hh.elim) | with_reducible refine Fr.trans ?_ hf7 (fun _ _ hh => hh.elim)))).1) (first | (go_at_call 57; refine (HAx.out _ (by repeat (first | with_reducible exact Fr.refl _ _ | with_reducible refine Fr.drew ?_))).mono ?_; rintro e w7 ⟨rfl, hf7⟩) | (go_at_call 43; refine (HGx.out _ (by repeat (first | with_reducible exact Fr.refl _ _ | with_reducible refine Fr.drew ?_ | with_reducible refine Fr.trans ?_ hf7 (fun _ _ hh => hh)))).mono ?_; rintro e w8 ⟨rfl, hf8⟩) | (go_at_call 56; refine (HPx.out _ _ (by omega) (by repeat (first | with_reducible exact Fr.refl _ _ | with_reducible refine Fr.drew ?_ | with_reducible refine Fr.trans ?_ hf8 (fun _ _ hh => hh) | with_reducible refine Fr.trans ?_ hf7 (fun _ _ hh => hh)))).mono ?_; rintro e w9 ⟨rfl, gb3, cb3, hr9, hs9⟩))
          have H9 : Hid (ReAt w9 br gt ct gs gz n gb3 cb3 (runL o (rowsD cx base W P y ++ pixD cx base P y (x + 1))) false ∧ RStep br gs gz gb gb3 w1 w9) := by
            refine ⟨hr9, HSi.out.trans (RStep.trans (RStep.of_fr ?_) hs9)⟩
            repeat (first | with_reducible exact Fr.refl _ _ | with_reducible refine Fr.drew ?_ | with_reducible refine Fr.trans ?_ hf8 (fun _ _ hh => hh.elim) | with_reducible refine Fr.trans ?_ hf7 (fun _ _ hh => hh.elim))
          clear hr9 hs9 hf7 hf8
          go_wp2_with fail
          exact ⟨⟨x + 1, gb3, cb3, by omega, by rw [Int.natCast_add]; rfl, H9.out.1, H9.out.2⟩, by simp only [intOf]; omega⟩
        · obtain rfl : x = W := by omega
          go_wp2_with fail
          exact ⟨⟨y + 1, gb2, cb2, by omega, by rw [Int.natCast_add]; rfl, HRi.out _ (Fr.refl _ _), HSi.out⟩, by simp only [intOf]; omega⟩
    · obtain rfl : y = H := by omega
      have hl := rowsD_length cx base W P y
      have HOk := (HL.out (rowsD cx base W P y) (by omega)).1
      have HOk' : Hid (Ook (runL o (rowsD cx base W P y))) := HOk
      clear HOk
      go_wp2_with fail
      go_ret
      exact ⟨rfl, gb', cb', HRe.out, HOk'.out, (RStep.of_fr (HA.out.mono (fun _ _ h => h.elim))).trans HS.out⟩

end Go.Proofs.Ytmfpoabhmpljgaa
