/- The document's own answer: same, Need. -/
import Derived.Test.YtkggdnkmaldmlaaK30
import Derived.Test.YtkggdnkmaldmlaaK18
import Derived.Test.YtkggdnkmaldmlaaK37
import Derived.Test.YtkggdnkmaldmlaaK15
import Derived.Test.YtkggdnkmaldmlaaK29
import Derived.Test.YtkggdnkmaldmlaaK14
namespace Go.Proofs.Ytkggdnkmaldmlaa
open Go.RowKit

set_option maxRecDepth 100000 in
set_option maxHeartbeats 1000000 in
theorem need_any (t : Nat) (ht : t < 4) (w : World) : Calls Try.prog 40 #[.int .i64 t] w fun e w' => e = .returned (.int .i64 ((sizeT t + 1 : Nat) : Int)) ∧ Fr (fun _ => False) w w' := by
  have HS : Hid (∀ w', Calls Try.prog 71 #[.int .i64 t] w' fun e w'' => e = .returned (.int .i64 (sizeT t : Nat)) ∧ Fr (fun _ => False) w' w'') := fun w' => size6_any t ht w'
  have hZ := sizeT_le t ht
  generalize sizeT t = Z at *
  clear ht
  go_enter Try.func40, Try.ntmps40
  go_wp2_with fail
  refine (HS.out _).mono ?_
  rintro e w1 ⟨rfl, hf1⟩
  have HF : Hid (Fr (fun _ => False) w w1) := hf1
  clear hf1
  go_wp2_with fail
  go_ret
  exact ⟨by rw [Int.natCast_add]; rfl, HF.out⟩

theorem pixI_up (W H : Nat) (P : Pxs) (x y : Nat) (hx : x < W) (hy : y < H) : pixI W H P x ((y : Int) - 1) = (upP P y x).toNat := by
  unfold pixI upP
  by_cases h : y = 0
  · subst h
    rw [if_neg (by omega), if_pos rfl]; rfl
  · rw [if_pos (by omega), if_neg h, Int.toNat_natCast, show ((y : Int) - 1).toNat = y - 1 by omega]
theorem pixI_in (W H : Nat) (P : Pxs) (x y : Nat) (hx : x < W) (hy : y < H) : pixI W H P x y = (P x y).toNat := by
  unfold pixI
  rw [if_pos (by omega), Int.toNat_natCast, Int.toNat_natCast]

set_option maxRecDepth 100000 in
set_option maxHeartbeats 4000000 in
theorem rsame_any (W H : Nat) (v : Value) (P : Pxs) (y : Nat) (w : World) (hb : Bm w v W H P) (hy : y < H) :
    Calls Try.prog 54 #[.agg #[.int .i64 W, .int .i64 H, v], .int .i64 y] w fun e w' => e = .returned (.int .i64 ((sameR W P y).toNat : Nat)) ∧ Fr (fun _ => False) w w' := by
  obtain ⟨f1, f2, f3⟩ := size_facts hb.h1 hb.h2 hb.h3
  have HG1 : Hid (∀ (w' : World) (x : Nat), x < W → Fr (fun _ => False) w w' → Calls Try.prog 57 #[.agg #[.int .i64 W, .int .i64 H, v], .int .i64 x, .int .i64 y] w' fun e w'' => e = .returned (.int .i64 ((P x y).toNat : Nat)) ∧ Fr (fun _ => False) w' w'') := fun w' x hx f => by
    have := zget_any W H v P x y w' (hb.kept f).seen hb.h1 hb.h2 hb.h3
    rwa [pixI_get, pixI_in W H P x y hx hy] at this
  have HG2 : Hid (∀ (w' : World) (x : Nat), x < W → Fr (fun _ => False) w w' → Calls Try.prog 57 #[.agg #[.int .i64 W, .int .i64 H, v], .int .i64 x, .int .i64 ((y : Int) - 1)] w' fun e w'' => e = .returned (.int .i64 ((upP P y x).toNat : Nat)) ∧ Fr (fun _ => False) w' w'') := fun w' x hx f => by
    have := zget_any W H v P x ((y : Int) - 1) w' (hb.kept f).seen hb.h1 hb.h2 hb.h3
    rwa [pixI_get, pixI_up W H P x y hx hy] at this
  have HBX : Hid (∀ w', Fr (fun _ => False) (w.alloc (.cells #[.int .i64 W, .int .i64 H, v] 26)) w' → w'.cell? ⟨w.heap.size, 0, none⟩ = some (.int .i64 W) ∧ w'.cell? ⟨w.heap.size, 1, none⟩ = some (.int .i64 H) ∧ w'.cell? ⟨w.heap.size, 2, none⟩ = some v) := fun w' hf => by
    obtain ⟨c0, c1, c2, _⟩ := cell_of_three ((hf.block w.heap.size (by simp) (fun hh => hh)).trans (heap_alloc_new w _))
    exact ⟨c0, c1, c2⟩
  have hy2 : y ≤ 1048576 := by omega
  have hw1 : IntKind.i64.wrap ((y : Int) - 1) = (y : Int) - 1 := by rw [IntKind.wrap_i64]; omega
  obtain ⟨ao, cap, hv, _, _⟩ := hb.seen
  rw [length_render] at hv
  obtain ⟨n0, HN0⟩ : ∃ n0, Hid (n0 = H * stride W) := ⟨_, rfl⟩
  rw [← HN0.out] at hv
  subst hv
  have HA : Hid (Fr (fun _ => False) w (w.alloc (.cells #[.int .i64 W, .int .i64 H, .slice ao n0 cap] 26))) := (Fr.refl _ _).alloc _
  clear hb hy
  go_enter Try.func54, Try.ntmps54
  go_wp2_with fail
  generalize w.alloc (.cells #[.int .i64 W, .int .i64 H, .slice ao n0 cap] 26) = w0 at *
  go_loopw [5] (fun a wr => ∃ x : Nat, x ≤ W ∧ a = .int .i64 x ∧ (∀ i, i < x → P i y = upP P y i) ∧ Fr (fun _ => False) w0 wr) (fun a _ => W - (intOf a).toNat)
  case atStart => exact ⟨0, Nat.zero_le _, rfl, fun i hi => by omega, Fr.refl _ _⟩
  case round =>
    obtain ⟨x, hx, rfl, hpre, hfr⟩ := hrel
    have HFr : Hid (Fr (fun _ => False) w0 wr) := hfr
    have HPre : Hid (∀ i, i < x → P i y = upP P y i) := hpre
    obtain ⟨c0, c1, c2⟩ := HBX.out _ hfr
    have HBI : Hid (∀ w', Fr (fun _ => False) wr w' → w'.cell? ⟨w.heap.size, 0, none⟩ = some (.int .i64 W) ∧ w'.cell? ⟨w.heap.size, 1, none⟩ = some (.int .i64 H) ∧ w'.cell? ⟨w.heap.size, 2, none⟩ = some (.slice ao n0 cap)) := fun w' f => HBX.out w' (HFr.out.trans f (fun _ _ h => h))
    clear hpre hfr
    by_cases hxW : x < W
    · have HG1x : Hid (∀ (w' : World), Fr (fun _ => False) wr w' → _) := fun w' f => HG1.out w' x hxW (HA.out.trans (HFr.out.trans f (fun _ _ h => h)) (fun _ _ h => h))
      have HG2x : Hid (∀ (w' : World), Fr (fun _ => False) wr w' → _) := fun w' f => HG2.out w' x hxW (HA.out.trans (HFr.out.trans f (fun _ _ h => h)) (fun _ _ h => h))
      obtain ⟨p, Hp⟩ : ∃ p, Hid (p = P x y) := ⟨_, rfl⟩
      obtain ⟨q, Hq⟩ : ∃ q, Hid (q = upP P y x) := ⟨_, rfl⟩
      rw [← Hp.out] at HG1x
      rw [← Hq.out] at HG2x
      have hpl := Bool.toNat_le p
      have hql := Bool.toNat_le q
      generalize hpn : p.toNat = pn at *
      generalize hqn : q.toNat = qn at *
      go_wp2_with fail
      go_region_held3 (fun w' => w'.cell? ⟨w.heap.size, 0, none⟩ = some (.int .i64 W) ∧ w'.cell? ⟨w.heap.size, 1, none⟩ = some (.int .i64 H) ∧ w'.cell? ⟨w.heap.size, 2, none⟩ = some (.slice ao n0 cap)) (exact HBI.out _ (by repeat (first | with_reducible exact Fr.refl _ _ | with_reducible refine Fr.drew ?_ | with_reducible refine Fr.trans ?_ hf8 (fun _ _ hh => hh) | with_reducible refine Fr.trans ?_ hf7 (fun _ _ hh => hh)))) (first | (go_at_call 57; first | (with_reducible refine (HG1x.out _ (by repeat (first | with_reducible exact Fr.refl _ _ | with_reducible refine Fr.drew ?_ | with_reducible refine Fr.trans ?_ hf8 (fun _ _ hh => hh)))).mono ?_; rintro e w7 ⟨rfl, hf7⟩) | (with_reducible refine (HG2x.out _ (by repeat (first | with_reducible exact Fr.refl _ _ | with_reducible refine Fr.drew ?_ | with_reducible refine Fr.trans ?_ hf7 (fun _ _ hh => hh)))).mono ?_; rintro e w8 ⟨rfl, hf8⟩)))
      have HF8 : Hid (Fr (fun _ => False) w0 w8) := HFr.out.trans (((Fr.refl _ _).drew.trans hf7 (fun _ _ h => h)).trans hf8 (fun _ _ h => h)) (fun _ _ h => h)
      have HPQ : Hid (p.toNat = pn ∧ q.toNat = qn) := ⟨hpn, hqn⟩
      clear hf7 hf8 c0 c1 c2 hpn hqn
      by_cases hpq : pn = qn
      · have hne : ((pn : Int) != (qn : Int)) = false := by rw [hpq]; simp
        have hpp : p = q := by
          have h1 := HPQ.out
          rw [hpq] at h1
          have : p.toNat = q.toNat := by omega
          cases p <;> cases q <;> first | rfl | (simp at this)
        simp only [hne]
        clear hne
        go_wp2_with fail
        refine ⟨⟨x + 1, by omega, by rw [Int.natCast_add]; rfl, fun i hi => ?_, HF8.out⟩, by simp only [intOf]; omega⟩
        by_cases h : i = x
        · rw [h, ← Hp.out, ← Hq.out, hpp]
        · exact HPre.out i (by omega)
      · have hne : ((pn : Int) != (qn : Int)) = true := by rw [bne_iff_ne]; omega
        have hsm : sameR W P y = false := decide_eq_false (fun h => by
          have h2 := h x hxW
          rw [← Hp.out, ← Hq.out] at h2
          have h1 := HPQ.out
          rw [h2] at h1
          omega)
        simp only [hne]
        clear hne
        go_wp2_with fail
        go_ret
        exact ⟨by rw [hsm]; rfl, HA.out.trans HF8.out (fun _ _ h => h)⟩
    · obtain rfl : x = W := by omega
      have hsm : sameR x P y = true := decide_eq_true HPre.out
      go_wp2_with fail
      go_ret
      exact ⟨by rw [hsm]; rfl, HA.out.trans HFr.out (fun _ _ h => h)⟩

end Go.Proofs.Ytkggdnkmaldmlaa

/- The document's own answer: Put. -/
namespace Go.Proofs.Ytkggdnkmaldmlaa
open Go.RowKit

/-- Decisions ahead of a row's pixels, and the pixels' own. -/
def preD (base t W : Nat) (skip : Bool) (P : Pxs) (y : Nat) : List (Int × Nat) := rowsD base t W skip P y ++ (if skip then [(((base + sizeT t : Nat) : Int), 0)] else [])
theorem preD_row (base t W : Nat) (skip : Bool) (P : Pxs) (y : Nat) (h : skip = true → sameR W P y = false) : preD base t W skip P y ++ pixD base t W P y W = rowsD base t W skip P (y + 1) := by
  unfold preD
  rw [rowsD, rowD]
  cases skip
  · simp
  · simp [h rfl]

set_option maxRecDepth 100000 in
set_option maxHeartbeats 8000000 in
theorem rgput_ok (br gt ct gs gz n gb cb : Nat) (o : Co) (base t W H : Nat) (v : Value) (P : Pxs) (skip : Bool) (w : World) (h : ReAt w br gt ct gs gz n gb cb o false) (hok : Ook o) (hB : ∀ w', Fr (fun k => k = br ∨ k = gs ∨ k = gz ∨ k = gb) w w' → Bm w' v W H P) (ht : t < 4) (hbase : base ≤ 131072) (hm : o.made + H * (W + 1) ≤ 16777216) :
    Calls Try.prog 28 #[.pointer (some ⟨br, 0, none⟩), .int .i64 base, .agg #[.int .i64 W, .int .i64 H, v], .int .i64 t, .bool skip] w fun e w' => e = .returned (.int .i64 0) ∧ ∃ gb' cb', ReAt w' br gt ct gs gz n gb' cb' (runL o (rowsD base t W skip P H)) false ∧ Ook (runL o (rowsD base t W skip P H)) ∧ RStep br gs gz gb gb' w w' := by
  have hb := hB w (Fr.refl _ _)
  obtain ⟨f1, f2, f3⟩ := size_facts hb.h1 hb.h2 hb.h3
  have hZ := sizeT_le t ht
  have HL : Hid (∀ L : List (Int × Nat), L.length ≤ H * (W + 1) → Ook (runL o L) ∧ (runL o L).made = o.made + L.length) := fun L hL => by
    obtain ⟨a, b, _⟩ := runL_ok hok L (by omega)
    exact ⟨a, b⟩
  have HM : Hid (o.made + H * (W + 1) ≤ 16777216) := hm
  have HPu : Hid (∀ (w' : World) (gb' cb' : Nat) (L : List (Int × Nat)) (i : Nat) (ii bi : Int) (b : Nat), L.length < H * (W + 1) → i ≤ 262144 → b < 2 → ii = (i : Int) → bi = (b : Int) → ReAt w' br gt ct gs gz n gb' cb' (runL o L) false → Calls Try.prog 55 #[.pointer (some ⟨br, 0, none⟩), .int .i64 ii, .int .i64 bi] w' fun e w'' => e = .returned (.int .i64 0) ∧ ∃ gb2 cb2, ReAt w'' br gt ct gs gz n gb2 cb2 (runL o (L ++ [((i : Int), b)])) false ∧ RStep br gs gz gb' gb2 w' w'') := fun w' gb' cb' L i ii bi b hL hi hb2 e1 e2 hr => by
    obtain ⟨a1, a2⟩ := HL.out L (by omega)
    rw [runL_snoc, e1, e2]
    exact rput_any w' br gt ct gs gz n gb' cb' (runL o L) hr a1 (by have := HM.out; omega) i (by omega) b hb2
  have HPl : Hid (∀ w', Calls Try.prog 53 #[.int .i64 t] w' fun e w'' => e = .returned (.slice (some ⟨w'.heap.size, 0, none⟩) (2 * bitsK t 3) (2 * bitsK t 3)) ∧ PlAt w'' w'.heap.size t ∧ Fr (fun _ => False) w' w'') := fun w' => places_any t ht w'
  have HNe : Hid (∀ w', Calls Try.prog 40 #[.int .i64 t] w' fun e w'' => e = .returned (.int .i64 ((sizeT t + 1 : Nat) : Int)) ∧ Fr (fun _ => False) w' w'') := fun w' => need_any t ht w'
  have HSm : Hid (∀ (w' : World) (y : Nat), y < H → Bm w' v W H P → Calls Try.prog 54 #[.agg #[.int .i64 W, .int .i64 H, v], .int .i64 y] w' fun e w'' => e = .returned (.int .i64 ((sameR W P y).toNat : Nat)) ∧ Fr (fun _ => False) w' w'') := fun w' y hy hb' => rsame_any W H v P y w' hb' hy
  have HAt : Hid (∀ (w' : World) (gp x y : Nat), x < W → y < H → Bm w' v W H P → PlAt w' gp t → Calls Try.prog 56 #[.agg #[.int .i64 W, .int .i64 H, v], .slice (some ⟨gp, 0, none⟩) (2 * bitsK t 3) (2 * bitsK t 3), .int .i64 x, .int .i64 y] w' fun e w'' => e = .returned (.int .i64 (cxJ W P t x y : Nat)) ∧ Fr (fun _ => False) w' w'') := fun w' gp x y hx hy hb' hp => by
    have := rat_any W H v P t gp (2 * bitsK t 3) x y w' hb' ht hp (by omega) (by omega)
    rwa [cxJ_pixI W H P t x y ht hy] at this
  have HGe : Hid (∀ (w' : World) (x y : Nat), x < W → y < H → Bm w' v W H P → Calls Try.prog 57 #[.agg #[.int .i64 W, .int .i64 H, v], .int .i64 x, .int .i64 y] w' fun e w'' => e = .returned (.int .i64 ((P x y).toNat : Nat)) ∧ Fr (fun _ => False) w' w'') := fun w' x y hx hy hb' => zget_in W H v P x y w' hb'.seen hb'.h1 hb'.h2 hb'.h3 hx hy
  have HB : Hid (∀ w', Fr (fun k => k = br ∨ k = gs ∨ k = gz ∨ k = gb) w w' → Bm w' v W H P) := hB
  have HR0 : Hid (ReAt w br gt ct gs gz n gb cb o false) := h
  have HLt : Hid (br < w.heap.size ∧ gt < w.heap.size ∧ gs < w.heap.size ∧ gz < w.heap.size ∧ gb < w.heap.size) := ⟨h.lt, (h.tab.lt gt rfl).2, (h.st.lt gs rfl).2, (h.bt.lt gz rfl).2, (h.bs.lt gb rfl).2⟩
  have HCx : Hid (∀ x y, cxJ W P t x y < 65536) := fun x y => by have := cxJ_lt W P t x y; show _ < _; omega
  obtain ⟨ao, cap, hv, _, _⟩ := hb.seen
  rw [length_render] at hv
  obtain ⟨n0, HN0⟩ : ∃ n0, Hid (n0 = H * stride W) := ⟨_, rfl⟩
  rw [← HN0.out] at hv
  subst hv
  have hW1 := hb.h1
  have HA : Hid (Fr (fun _ => False) w (w.alloc (.cells #[.int .i64 W, .int .i64 H, .slice ao n0 cap] 26))) := (Fr.refl _ _).alloc _
  clear hb hB h hok hm ht f3
  go_enter Try.func28, Try.ntmps28
  go_wp2_with fail
  refine (HPl.out _).mono ?_
  rintro e w1 ⟨rfl, hp1, hf1⟩
  obtain ⟨gp, Hgp⟩ : ∃ gp, Hid (gp = w.heap.size + 1) := ⟨_, rfl⟩
  have hgpe : (w.alloc (.cells #[.int .i64 W, .int .i64 H, .slice ao n0 cap] 26)).heap.size = gp := by rw [Hgp.out]; simp
  rw [hgpe] at hp1 ⊢
  have HF1 : Hid (Fr (fun _ => False) w w1) := HA.out.trans hf1 (fun _ _ h => h)
  have HB1 : Hid (w1.heap[w.heap.size]? = some (.cells #[.int .i64 W, .int .i64 H, .slice ao n0 cap] 26 (0, 0)) ∧ PlAt w1 gp t ∧ gp < w1.heap.size ∧ w.heap.size < w1.heap.size) := by
    have hb2 := (hf1.block w.heap.size (by simp) (fun hh => hh)).trans (heap_alloc_new w _)
    refine ⟨hb2, hp1, ?_, lt_of_block hb2⟩
    have hl : 0 < (plc t).length := by
      match t with
      | 0 => decide
      | 1 => decide
      | 2 => decide
      | _ + 3 => exact (show 0 < (plc 3).length by decide)
    exact seen_lt (hp1 0 hl)
  clear hp1 hf1 hgpe
  have HSt : Hid (∀ (w' : World) (gb' : Nat), RStep br gs gz gb gb' w1 w' → (w'.cell? ⟨w.heap.size, 0, none⟩ = some (.int .i64 W) ∧ w'.cell? ⟨w.heap.size, 1, none⟩ = some (.int .i64 H) ∧ w'.cell? ⟨w.heap.size, 2, none⟩ = some (.slice ao n0 cap)) ∧ PlAt w' gp t ∧ Bm w' (.slice ao n0 cap) W H P) := fun w' gb' hs => by
    have hlt := HLt.out
    have hgp := Hgp.out
    have hno : ∀ k, w.heap.size ≤ k → ¬ (k = br ∨ k = gs ∨ k = gz ∨ k = gb) := fun k hk => by omega
    obtain ⟨c0, c1, c2, _⟩ := cell_of_three ((hs.fr.block w.heap.size HB1.out.2.2.2 (hno _ (Nat.le_refl _))).trans HB1.out.1)
    exact ⟨⟨c0, c1, c2⟩, HB1.out.2.1.kept hs.fr (hno _ (by omega)), HB.out w' ((HF1.out.mono (fun _ _ h => h.elim)).trans hs.fr (fun _ _ h => h))⟩
  go_wp2_with fail
  go_loopw [12, 13, 14, 15, 16] (fun a _ _ _ _ wr => ∃ (y gb' cb' : Nat), y ≤ H ∧ a = .int .i64 y ∧ ReAt wr br gt ct gs gz n gb' cb' (runL o (rowsD base t W skip P y)) false ∧ RStep br gs gz gb gb' w1 wr) (fun a _ _ _ _ _ => H - (intOf a).toNat)
  case atStart => exact ⟨0, gb, cb, Nat.zero_le _, rfl, HR0.out.kept HF1.out (fun h => h) (fun h => h) (fun h => h) (fun h => h) (fun h => h), RStep.of_fr (Fr.refl _ _)⟩
  case round =>
    obtain ⟨y, gb', cb', hy, rfl, hre, hst⟩ := hrel
    have HRe : Hid (ReAt wr br gt ct gs gz n gb' cb' (runL o (rowsD base t W skip P y)) false) := hre
    have HS : Hid (RStep br gs gz gb gb' w1 wr) := hst
    obtain ⟨⟨c0, c1, c2⟩, hpl, hbm⟩ := HSt.out _ _ hst
    have HBm : Hid (Bm wr (.slice ao n0 cap) W H P) := hbm
    clear hre hst hpl hbm
    by_cases hyH : y < H
    · have hdy : decide ((y : Int) < (H : Int)) = true := decide_eq_true (by omega)
      have HYH : Hid (y < H) := hyH
      have HLr : Hid ((rowsD base t W skip P y).length + (W + 1) ≤ H * (W + 1)) := by
        have h1 := rowsD_length base t W skip P y
        have h2 := Nat.mul_le_mul_right (W + 1) (show y + 1 ≤ H by omega)
        rw [Nat.add_mul, Nat.one_mul] at h2
        show _ ≤ _
        omega
      cases hsk : skip
      · subst hsk
        have HRe0 : Hid (ReAt wr br gt ct gs gz n gb' cb' (runL o (preD base t W false P y ++ pixD base t W P y 0)) false) := by
          have := HRe.out
          show ReAt _ _ _ _ _ _ _ _ _ _ _
          unfold preD pixD
          simpa using this
        go_wp2_with fail
        go_loopw [15, 16] (fun a _ wi => ∃ (x gb2 cb2 : Nat), x ≤ W ∧ a = .int .i64 x ∧ ReAt wi br gt ct gs gz n gb2 cb2 (runL o (preD base t W false P y ++ pixD base t W P y x)) false ∧ RStep br gs gz gb gb2 w1 wi) (fun a _ _ => W - (intOf a).toNat)
        case atStart => exact ⟨0, gb', cb', Nat.zero_le _, rfl, HRe0.out, HS.out⟩
        case round =>
          obtain ⟨x, gb2, cb2, hx, rfl, hri, hsi⟩ := hrel
          have HRi : Hid (∀ w', Fr (fun _ => False) wr w' → ReAt w' br gt ct gs gz n gb2 cb2 (runL o (preD base t W false P y ++ pixD base t W P y x)) false) := fun w' f => hri.kept f (fun h => h) (fun h => h) (fun h => h) (fun h => h) (fun h => h)
          have HSi : Hid (RStep br gs gz gb gb2 w1 wr) := hsi
          have HSI : Hid (∀ w', Fr (fun k => k = br ∨ k = gs ∨ k = gz ∨ k = gb2) wr w' → (w'.cell? ⟨w.heap.size, 0, none⟩ = some (.int .i64 W) ∧ w'.cell? ⟨w.heap.size, 1, none⟩ = some (.int .i64 H) ∧ w'.cell? ⟨w.heap.size, 2, none⟩ = some (.slice ao n0 cap)) ∧ PlAt w' gp t ∧ Bm w' (.slice ao n0 cap) W H P) := fun w' f => HSt.out w' gb2 (HSi.out.trans (RStep.of_fr f))
          clear hri hsi
          obtain ⟨⟨c0, c1, c2⟩, _, _⟩ := HSI.out _ (Fr.refl _ _)
          by_cases hxW : x < W
          · have hdx : decide ((x : Int) < (W : Int)) = true := decide_eq_true (by omega)
            have HAx : Hid (∀ w', Fr (fun _ => False) wr w' → Calls Try.prog 56 #[.agg #[.int .i64 W, .int .i64 H, .slice ao n0 cap], .slice (some ⟨gp, 0, none⟩) (2 * bitsK t 3) (2 * bitsK t 3), .int .i64 x, .int .i64 y] w' fun e w'' => e = .returned (.int .i64 (cxJ W P t x y : Nat)) ∧ Fr (fun _ => False) w' w'') := fun w' f => by
              obtain ⟨_, h1, h2⟩ := HSI.out w' (f.mono (fun _ _ h => h.elim))
              exact HAt.out w' gp x y hxW HYH.out h2 h1
            have HGx : Hid (∀ w', Fr (fun _ => False) wr w' → Calls Try.prog 57 #[.agg #[.int .i64 W, .int .i64 H, .slice ao n0 cap], .int .i64 x, .int .i64 y] w' fun e w'' => e = .returned (.int .i64 ((P x y).toNat : Nat)) ∧ Fr (fun _ => False) w' w'') := fun w' f => by
              obtain ⟨_, h1, h2⟩ := HSI.out w' (f.mono (fun _ _ h => h.elim))
              exact HGe.out w' x y hxW HYH.out h2
            have HPx : Hid (∀ w' (ii : Int), ii = ((base + cxJ W P t x y : Nat) : Int) → Fr (fun _ => False) wr w' → Calls Try.prog 55 #[.pointer (some ⟨br, 0, none⟩), .int .i64 ii, .int .i64 ((P x y).toNat : Nat)] w' fun e w'' => e = .returned (.int .i64 0) ∧ ∃ gb3 cb3, ReAt w'' br gt ct gs gz n gb3 cb3 (runL o (preD base t W false P y ++ pixD base t W P y (x + 1))) false ∧ RStep br gs gz gb2 gb3 w' w'') := fun w' ii hii f => by
              have hl := HLr.out
              have hcx := HCx.out x y
              have hpl : (preD base t W false P y ++ pixD base t W P y x).length < H * (W + 1) := by
                unfold preD
                rw [List.length_append, List.length_append, pixD_length]
                simp
                omega
              have := HPu.out w' gb2 cb2 (preD base t W false P y ++ pixD base t W P y x) (base + cxJ W P t x y) ii _ (P x y).toNat hpl (by omega) (by have := Bool.toNat_le (P x y); omega) hii rfl (HRi.out w' f)
              rwa [List.append_assoc] at this
            have hcl := HCx.out x y
            generalize cxJ W P t x y = K at *
            generalize (P x y).toNat = bb at *
            have hw9 : IntKind.i64.wrap ((base : Int) + (K : Int)) = (base : Int) + (K : Int) := by rw [IntKind.wrap_i64]; omega
            go_wp2_with fail
            go_region_held3 (fun w' => w'.cell? ⟨w.heap.size, 0, none⟩ = some (.int .i64 W) ∧ w'.cell? ⟨w.heap.size, 1, none⟩ = some (.int .i64 H) ∧ w'.cell? ⟨w.heap.size, 2, none⟩ = some (.slice ao n0 cap)) (exact (HSI.out _ (by repeat (first | with_reducible exact Fr.refl _ _ | with_reducible refine Fr.drew ?_ | with_reducible refine Fr.trans ?_ hs9.fr (fun _ _ hh => hh) | with_reducible refine Fr.trans ?_ hf8 (fun _ _ hh => hh.elim) | with_reducible refine Fr.trans ?_ hf7 (fun _ _ hh => hh.elim)))).1) (first | (go_at_call 56; refine (HAx.out _ (by repeat (first | with_reducible exact Fr.refl _ _ | with_reducible refine Fr.drew ?_))).mono ?_; rintro e w7 ⟨rfl, hf7⟩) | (go_at_call 57; refine (HGx.out _ (by repeat (first | with_reducible exact Fr.refl _ _ | with_reducible refine Fr.drew ?_ | with_reducible refine Fr.trans ?_ hf7 (fun _ _ hh => hh)))).mono ?_; rintro e w8 ⟨rfl, hf8⟩) | (go_at_call 55; refine (HPx.out _ _ (by omega) (by repeat (first | with_reducible exact Fr.refl _ _ | with_reducible refine Fr.drew ?_ | with_reducible refine Fr.trans ?_ hf8 (fun _ _ hh => hh) | with_reducible refine Fr.trans ?_ hf7 (fun _ _ hh => hh)))).mono ?_; rintro e w9 ⟨rfl, gb3, cb3, hr9, hs9⟩))
            have H9 : Hid (ReAt w9 br gt ct gs gz n gb3 cb3 (runL o (preD base t W false P y ++ pixD base t W P y (x + 1))) false ∧ RStep br gs gz gb gb3 w1 w9) := by
              refine ⟨hr9, HSi.out.trans (RStep.trans (RStep.of_fr ?_) hs9)⟩
              repeat (first | with_reducible exact Fr.refl _ _ | with_reducible refine Fr.drew ?_ | with_reducible refine Fr.trans ?_ hf8 (fun _ _ hh => hh.elim) | with_reducible refine Fr.trans ?_ hf7 (fun _ _ hh => hh.elim))
            clear hr9 hs9 hf7 hf8
            go_wp2_with fail
            exact ⟨⟨x + 1, gb3, cb3, by omega, by rw [Int.natCast_add]; rfl, H9.out.1, H9.out.2⟩, by simp only [intOf]; omega⟩
          · obtain rfl : x = W := by omega
            have hdx : decide ((x : Int) < (x : Int)) = false := decide_eq_false (by omega)
            go_wp2_with fail
            refine ⟨⟨y + 1, gb2, cb2, by omega, by rw [Int.natCast_add]; rfl, ?_, HSi.out⟩, by simp only [intOf]; omega⟩
            have := HRi.out wr (Fr.refl _ _)
            rwa [preD_row base t x false P y (fun h => by cases h)] at this
      · subst hsk
        go_wp2_with fail
        refine (HSm.out _ y HYH.out HBm.out).mono ?_
        rintro e w2 ⟨rfl, hf2⟩
        have HF2 : Hid (Fr (fun _ => False) wr w2) := hf2
        clear hf2 c0 c1 c2
        obtain ⟨bs, Hbs⟩ : ∃ bs, Hid (bs = sameR W P y) := ⟨_, rfl⟩
        rw [← Hbs.out]
        have hbl := Bool.toNat_le bs
        go_wp2_with fail
        refine (HNe.out _).mono ?_
        rintro e w3 ⟨rfl, hf3⟩
        have HF3 : Hid (Fr (fun _ => False) wr w3) := HF2.out.trans hf3 (fun _ _ h => h)
        have HP3 : Hid (∀ (ii : Int), ii = ((base + sizeT t : Nat) : Int) → Calls Try.prog 55 #[.pointer (some ⟨br, 0, none⟩), .int .i64 ii, .int .i64 (bs.toNat : Nat)] w3 fun e w'' => e = .returned (.int .i64 0) ∧ ∃ gb3 cb3, ReAt w'' br gt ct gs gz n gb3 cb3 (runL o (rowsD base t W true P y ++ [(((base + sizeT t : Nat) : Int), bs.toNat)])) false ∧ RStep br gs gz gb' gb3 w3 w'') := fun ii hii =>
          HPu.out w3 gb' cb' (rowsD base t W true P y) (base + sizeT t) ii _ bs.toNat (by have := HLr.out; omega) (by omega) (by omega) hii rfl (HRe.out.kept HF3.out (fun h => h) (fun h => h) (fun h => h) (fun h => h) (fun h => h))
        clear hf3
        have hne1 : ((sizeT t + 1 : Nat) : Int) = (sizeT t : Int) + 1 := by omega
        rw [hne1]
        obtain ⟨Z, HZ⟩ : ∃ Z, Hid (Z = sizeT t) := ⟨_, rfl⟩
        rw [← HZ.out] at hZ HP3 ⊢
        clear hne1
        obtain ⟨bn, Hbn⟩ : ∃ bn, Hid (bn = bs.toNat) := ⟨_, rfl⟩
        rw [← Hbn.out] at hbl HP3 ⊢
        go_wp2_with fail
        refine (HP3.out _ (by omega)).mono ?_
        rintro e w4 ⟨rfl, gb3, cb3, hr4, hs4⟩
        have H4 : Hid (ReAt w4 br gt ct gs gz n gb3 cb3 (runL o (rowsD base t W true P y ++ [(((base + Z : Nat) : Int), bn)])) false ∧ RStep br gs gz gb gb3 w1 w4) := ⟨hr4, HS.out.trans (RStep.trans (RStep.of_fr (HF3.out.mono (fun _ _ h => h.elim))) hs4)⟩
        clear hr4 hs4
        obtain ⟨⟨c0, c1, c2⟩, _, _⟩ := HSt.out _ _ H4.out.2
        rcases (show bn = 0 ∨ bn = 1 by omega) with hb0 | hb0
        · subst hb0
          have HSm0 : Hid (sameR W P y = false) := by
            show _ = _
            rw [← Hbs.out]
            have := Hbn.out
            cases bs
            · rfl
            · simp at this
          have HRe0 : Hid (ReAt w4 br gt ct gs gz n gb3 cb3 (runL o (preD base t W true P y ++ pixD base t W P y 0)) false) := by
            have := H4.out.1
            rw [HZ.out] at this
            show ReAt _ _ _ _ _ _ _ _ _ _ _
            unfold preD pixD
            simpa using this
          go_wp2_with fail
          go_loopw [15, 16] (fun a _ wi => ∃ (x gb2 cb2 : Nat), x ≤ W ∧ a = .int .i64 x ∧ ReAt wi br gt ct gs gz n gb2 cb2 (runL o (preD base t W true P y ++ pixD base t W P y x)) false ∧ RStep br gs gz gb gb2 w1 wi) (fun a _ _ => W - (intOf a).toNat)
          case atStart => exact ⟨0, gb3, cb3, Nat.zero_le _, rfl, HRe0.out, H4.out.2⟩
          case round =>
            obtain ⟨x, gb2, cb2, hx, rfl, hri, hsi⟩ := hrel
            have HRi : Hid (∀ w', Fr (fun _ => False) wr w' → ReAt w' br gt ct gs gz n gb2 cb2 (runL o (preD base t W true P y ++ pixD base t W P y x)) false) := fun w' f => hri.kept f (fun h => h) (fun h => h) (fun h => h) (fun h => h) (fun h => h)
            have HSi : Hid (RStep br gs gz gb gb2 w1 wr) := hsi
            have HSI : Hid (∀ w', Fr (fun k => k = br ∨ k = gs ∨ k = gz ∨ k = gb2) wr w' → (w'.cell? ⟨w.heap.size, 0, none⟩ = some (.int .i64 W) ∧ w'.cell? ⟨w.heap.size, 1, none⟩ = some (.int .i64 H) ∧ w'.cell? ⟨w.heap.size, 2, none⟩ = some (.slice ao n0 cap)) ∧ PlAt w' gp t ∧ Bm w' (.slice ao n0 cap) W H P) := fun w' f => HSt.out w' gb2 (HSi.out.trans (RStep.of_fr f))
            clear hri hsi
            obtain ⟨⟨c0, c1, c2⟩, _, _⟩ := HSI.out _ (Fr.refl _ _)
            by_cases hxW : x < W
            · have hdx : decide ((x : Int) < (W : Int)) = true := decide_eq_true (by omega)
              have HAx : Hid (∀ w', Fr (fun _ => False) wr w' → Calls Try.prog 56 #[.agg #[.int .i64 W, .int .i64 H, .slice ao n0 cap], .slice (some ⟨gp, 0, none⟩) (2 * bitsK t 3) (2 * bitsK t 3), .int .i64 x, .int .i64 y] w' fun e w'' => e = .returned (.int .i64 (cxJ W P t x y : Nat)) ∧ Fr (fun _ => False) w' w'') := fun w' f => by
                obtain ⟨_, h1, h2⟩ := HSI.out w' (f.mono (fun _ _ h => h.elim))
                exact HAt.out w' gp x y hxW HYH.out h2 h1
              have HGx : Hid (∀ w', Fr (fun _ => False) wr w' → Calls Try.prog 57 #[.agg #[.int .i64 W, .int .i64 H, .slice ao n0 cap], .int .i64 x, .int .i64 y] w' fun e w'' => e = .returned (.int .i64 ((P x y).toNat : Nat)) ∧ Fr (fun _ => False) w' w'') := fun w' f => by
                obtain ⟨_, h1, h2⟩ := HSI.out w' (f.mono (fun _ _ h => h.elim))
                exact HGe.out w' x y hxW HYH.out h2
              have HPx : Hid (∀ w' (ii : Int), ii = ((base + cxJ W P t x y : Nat) : Int) → Fr (fun _ => False) wr w' → Calls Try.prog 55 #[.pointer (some ⟨br, 0, none⟩), .int .i64 ii, .int .i64 ((P x y).toNat : Nat)] w' fun e w'' => e = .returned (.int .i64 0) ∧ ∃ gb3 cb3, ReAt w'' br gt ct gs gz n gb3 cb3 (runL o (preD base t W true P y ++ pixD base t W P y (x + 1))) false ∧ RStep br gs gz gb2 gb3 w' w'') := fun w' ii hii f => by
                have hl := HLr.out
                have hcx := HCx.out x y
                have hpl : (preD base t W true P y ++ pixD base t W P y x).length < H * (W + 1) := by
                  unfold preD
                  rw [List.length_append, List.length_append, pixD_length]
                  simp
                  omega
                have := HPu.out w' gb2 cb2 (preD base t W true P y ++ pixD base t W P y x) (base + cxJ W P t x y) ii _ (P x y).toNat hpl (by omega) (by have := Bool.toNat_le (P x y); omega) hii rfl (HRi.out w' f)
                rwa [List.append_assoc] at this
              have hcl := HCx.out x y
              generalize cxJ W P t x y = K at *
              generalize (P x y).toNat = bb at *
              have hw9 : IntKind.i64.wrap ((base : Int) + (K : Int)) = (base : Int) + (K : Int) := by rw [IntKind.wrap_i64]; omega
              go_wp2_with fail
              go_region_held3 (fun w' => w'.cell? ⟨w.heap.size, 0, none⟩ = some (.int .i64 W) ∧ w'.cell? ⟨w.heap.size, 1, none⟩ = some (.int .i64 H) ∧ w'.cell? ⟨w.heap.size, 2, none⟩ = some (.slice ao n0 cap)) (exact (HSI.out _ (by repeat (first | with_reducible exact Fr.refl _ _ | with_reducible refine Fr.drew ?_ | with_reducible refine Fr.trans ?_ hs9.fr (fun _ _ hh => hh) | with_reducible refine Fr.trans ?_ hf8 (fun _ _ hh => hh.elim) | with_reducible refine Fr.trans ?_ hf7 (fun _ _ hh => hh.elim)))).1) (first | (go_at_call 56; refine (HAx.out _ (by repeat (first | with_reducible exact Fr.refl _ _ | with_reducible refine Fr.drew ?_))).mono ?_; rintro e w7 ⟨rfl, hf7⟩) | (go_at_call 57; refine (HGx.out _ (by repeat (first | with_reducible exact Fr.refl _ _ | with_reducible refine Fr.drew ?_ | with_reducible refine Fr.trans ?_ hf7 (fun _ _ hh => hh)))).mono ?_; rintro e w8 ⟨rfl, hf8⟩) | (go_at_call 55; refine (HPx.out _ _ (by omega) (by repeat (first | with_reducible exact Fr.refl _ _ | with_reducible refine Fr.drew ?_ | with_reducible refine Fr.trans ?_ hf8 (fun _ _ hh => hh) | with_reducible refine Fr.trans ?_ hf7 (fun _ _ hh => hh)))).mono ?_; rintro e w9 ⟨rfl, gb3, cb3, hr9, hs9⟩))
              have H9 : Hid (ReAt w9 br gt ct gs gz n gb3 cb3 (runL o (preD base t W true P y ++ pixD base t W P y (x + 1))) false ∧ RStep br gs gz gb gb3 w1 w9) := by
                refine ⟨hr9, HSi.out.trans (RStep.trans (RStep.of_fr ?_) hs9)⟩
                repeat (first | with_reducible exact Fr.refl _ _ | with_reducible refine Fr.drew ?_ | with_reducible refine Fr.trans ?_ hf8 (fun _ _ hh => hh.elim) | with_reducible refine Fr.trans ?_ hf7 (fun _ _ hh => hh.elim))
              clear hr9 hs9 hf7 hf8
              go_wp2_with fail
              exact ⟨⟨x + 1, gb3, cb3, by omega, by rw [Int.natCast_add]; rfl, H9.out.1, H9.out.2⟩, by simp only [intOf]; omega⟩
            · obtain rfl : x = W := by omega
              have hdx : decide ((x : Int) < (x : Int)) = false := decide_eq_false (by omega)
              go_wp2_with fail
              refine ⟨⟨y + 1, gb2, cb2, by omega, by rw [Int.natCast_add]; rfl, ?_, HSi.out⟩, by simp only [intOf]; omega⟩
              have := HRi.out wr (Fr.refl _ _)
              rwa [preD_row base t x true P y (fun _ => HSm0.out)] at this
        · subst hb0
          have hsm1 : sameR W P y = true := by
            rw [← Hbs.out]
            have := Hbn.out
            cases bs
            · simp at this
            · rfl
          go_wp2_with fail
          refine ⟨⟨y + 1, gb3, cb3, by omega, by rw [Int.natCast_add]; rfl, ?_, H4.out.2⟩, by simp only [intOf]; omega⟩
          have := H4.out.1
          rw [HZ.out] at this
          rw [rowsD, rowD, hsm1]
          simpa using this
    · obtain rfl : y = H := by omega
      have hdy : decide ((y : Int) < (y : Int)) = false := decide_eq_false (by omega)
      go_wp2_with fail
      go_ret
      refine ⟨rfl, gb', cb', HRe.out, (HL.out _ (rowsD_length base t W skip P y)).1, ?_⟩
      have hsz := HF1.out.size
      refine ⟨(HF1.out.mono (fun _ _ h => h.elim)).trans HS.out.fr (fun _ _ h => h), ?_⟩
      rcases HS.out.row with a | a
      · exact Or.inl a
      · exact Or.inr (by omega)

end Go.Proofs.Ytkggdnkmaldmlaa

/- Encode, whatever it is given: the program's and the document's own. -/
namespace Go.Proofs.Ytkggdnkmaldmlaa
open Go.RowKit

set_option maxRecDepth 100000 in
set_option maxHeartbeats 2000000 in
theorem gput_badF (bc : Nat) (base : Int) (t : Nat) (x y : Int) (v : Value) (l : List Nat) (skip : Bool) (w : World) (ht : t < 4) (hx : -9223372036854775808 ≤ x ∧ x ≤ 9223372036854775807) (hy : -9223372036854775808 ≤ y ∧ y ≤ 9223372036854775807) (hv : Seen w v l) (hlt : ∀ j : Nat, l[j]?.getD 0 < 18446744073709551616) (hvb : validB x y l = false) :
    Calls Try.prog 27 #[.pointer (some ⟨bc, 0, none⟩), .int .i64 base, .agg #[.int .i64 x, .int .i64 y, v], .int .i64 t, .bool skip] w fun e w' => e = .returned (.int .i64 62) ∧ Fr (fun _ => False) w w' := by
  have HNP : Hid (∀ w', Calls Try.prog 38 #[.int .i64 base, .int .i64 t, .bool skip] w' fun e w'' => e = .returned (.tuple #[procI base t skip, .int .i64 0]) ∧ Fr (fun _ => False) w' w'') := fun w' => newProc_ok base t skip ht w'
  have HCk : Hid (∀ w', Fr (fun _ => False) w w' → Calls Try.prog 48 #[.agg #[.int .i64 x, .int .i64 y, v]] w' fun e w'' => e = .returned (.bool false) ∧ Fr (fun _ => False) w' w'') := fun w' f => by
    have := check_any x y v l w' hx hy (hv.kept f) hlt
    rwa [hvb] at this
  obtain ⟨ao, cap, hvv, _, _⟩ := hv
  obtain ⟨n0, HN0⟩ : ∃ n0, Hid (n0 = l.length) := ⟨_, rfl⟩
  rw [← HN0.out] at hvv
  subst hvv
  unfold procI at *
  clear ht hlt hvb hx hy
  generalize sizeT t = Z at *
  generalize 2 ^ cntS t 2 - 1 = O at *
  go_enter Try.func27, Try.ntmps27
  go_wp2_with fail
  refine (HNP.out _).mono ?_
  rintro e w1 ⟨rfl, hf1⟩
  have hs1 : w.heap.size < w1.heap.size := by have := hf1.size; simp at this; omega
  have HF1 : Hid (Fr (fun _ => False) w (w1.alloc (.cells #[.int .i64 base, .int .i64 t, .int .i64 Z, .int .i64 O, .bool skip] 85))) := (((Fr.refl _ _).alloc _).trans hf1 (fun _ _ h => h)).alloc _
  have hb1 : (w1.alloc (.cells #[.int .i64 base, .int .i64 t, .int .i64 Z, .int .i64 O, .bool skip] 85)).heap[w.heap.size]? = some (.cells #[.int .i64 x, .int .i64 y, .slice ao n0 cap] 26 (0, 0)) := by
    rw [Below.heap_alloc _ _ _ hs1, hf1.block _ (by simp) (fun h => h)]; exact heap_alloc_new w _
  obtain ⟨q0, q1, q2, qf⟩ := cell_of_three hb1
  clear hf1 hb1 qf
  go_wp2_with fail
  generalize w1.alloc (.cells #[.int .i64 base, .int .i64 t, .int .i64 Z, .int .i64 O, .bool skip] 85) = wA at *
  refine (HCk.out _ HF1.out).mono ?_
  rintro e w3 ⟨rfl, hf3⟩
  have HF3 : Hid (Fr (fun _ => False) w w3) := HF1.out.trans hf3 (fun _ _ h => h)
  clear hf3 q0 q1 q2
  go_wp2_with fail
  go_ret
  exact ⟨rfl, HF3.out⟩

set_option maxRecDepth 100000 in
set_option maxHeartbeats 2000000 in
theorem gencode_badT (x y : Int) (v : Value) (l : List Nat) (ti : Int) (skip : Bool) (w : World) (ht : ti < 0 ∨ 4 ≤ ti) (hv : Seen w v l) :
    Calls Try.prog 11 #[.agg #[.int .i64 x, .int .i64 y, v], .int .i64 ti, .bool skip] w fun e w' => e = .returned (.tuple #[.slice none 0 0, .int .i64 60]) ∧ Fr (fun _ => False) w w' := by
  have HNP : Hid (∀ w', Calls Try.prog 38 #[.int .i64 0, .int .i64 ti, .bool skip] w' fun e w'' => e = .returned (.tuple #[.agg #[.int .i64 0, .int .i64 0, .int .i64 0, .int .i64 0, .bool false], .int .i64 60]) ∧ Fr (fun _ => False) w' w'') := fun w' => newProc_bad 0 ti skip ht w'
  obtain ⟨ao, cap, rfl, _, _⟩ := hv
  generalize l.length = n0 at *
  clear ht
  go_enter Try.func11, Try.ntmps11
  go_wp2_with fail
  refine (HNP.out _).mono ?_
  rintro e w1 ⟨rfl, hf1⟩
  have HF1 : Hid (Fr (fun _ => False) w (w1.alloc (.cells #[.int .i64 0, .int .i64 0, .int .i64 0, .int .i64 0, .bool false] 85))) := (((Fr.refl _ _).alloc _).trans hf1 (fun _ _ h => h)).alloc _
  clear hf1
  go_wp2_with fail
  go_ret2
  exact ⟨rfl, HF1.out⟩

set_option maxRecDepth 100000 in
set_option maxHeartbeats 2000000 in
theorem gencode_badF (x y : Int) (v : Value) (l : List Nat) (t : Nat) (skip : Bool) (w : World) (ht : t < 4) (hx : -9223372036854775808 ≤ x ∧ x ≤ 9223372036854775807) (hy : -9223372036854775808 ≤ y ∧ y ≤ 9223372036854775807) (hv : Seen w v l) (hlt : ∀ j : Nat, l[j]?.getD 0 < 18446744073709551616) (hvb : validB x y l = false) :
    Calls Try.prog 11 #[.agg #[.int .i64 x, .int .i64 y, v], .int .i64 t, .bool skip] w fun e w' => e = .returned (.tuple #[.slice none 0 0, .int .i64 62]) ∧ Fr (fun _ => False) w w' := by
  have hZ := sizeT_le t ht
  have HNP : Hid (∀ w', Calls Try.prog 38 #[.int .i64 0, .int .i64 t, .bool skip] w' fun e w'' => e = .returned (.tuple #[procI 0 t skip, .int .i64 0]) ∧ Fr (fun _ => False) w' w'') := fun w' => newProc_ok 0 t skip ht w'
  have HCn : Hid (∀ w', Calls Try.prog 39 #[procI 0 t skip] w' fun e w'' => e = .returned (.int .i64 ((sizeT t + 1 : Nat) : Int)) ∧ Fr (fun _ => False) w' w'') := fun w' => count7_any 0 t skip ht w'
  have HNw : Hid (∀ w', Calls Try.prog 25 #[.int .i64 ((sizeT t + 1 : Nat) : Int)] w' fun e w'' => ∃ bc gc gb, e = .returned (.tuple #[.pointer (some ⟨bc, 0, none⟩), .int .i64 0]) ∧ CoAt w'' bc gc (sizeT t + 1) gb 1 (newP (sizeT t + 1)) ∧ Fr (fun _ => False) w' w'' ∧ w'.heap.size ≤ bc ∧ w'.heap.size ≤ gc ∧ w'.heap.size ≤ gb) := fun w' => new_any w' (sizeT t + 1) (by omega) (by omega)
  have HPt : Hid (∀ (w' : World) (bc : Nat), Fr (fun _ => False) w w' → Calls Try.prog 27 #[.pointer (some ⟨bc, 0, none⟩), .int .i64 0, .agg #[.int .i64 x, .int .i64 y, v], .int .i64 t, .bool skip] w' fun e w'' => e = .returned (.int .i64 62) ∧ Fr (fun _ => False) w' w'') := fun w' bc f => gput_badF bc 0 t x y v l skip w' ht hx hy (hv.kept f) hlt hvb
  obtain ⟨ao, cv, rfl, _, _⟩ := hv
  generalize l.length = n0 at *
  unfold procI at *
  clear ht hlt hx hy
  generalize ((sizeT t + 1 : Nat) : Int) = C1 at *
  generalize newP (sizeT t + 1) = N0 at *
  generalize sizeT t + 1 = C at *
  generalize sizeT t = Z at *
  generalize 2 ^ cntS t 2 - 1 = O at *
  go_enter Try.func11, Try.ntmps11
  go_wp2_with fail
  refine (HNP.out _).mono ?_
  rintro e w1 ⟨rfl, hf1⟩
  have hs1 : w.heap.size < w1.heap.size := by have := hf1.size; simp at this; omega
  have HF1 : Hid (Fr (fun _ => False) w (w1.alloc (.cells #[.int .i64 0, .int .i64 t, .int .i64 Z, .int .i64 O, .bool skip] 85))) := (((Fr.refl _ _).alloc _).trans hf1 (fun _ _ h => h)).alloc _
  have HBX : Hid (∀ w', Fr (fun _ => False) (w1.alloc (.cells #[.int .i64 0, .int .i64 t, .int .i64 Z, .int .i64 O, .bool skip] 85)) w' → w'.heap[w.heap.size]? = some (.cells #[.int .i64 x, .int .i64 y, .slice ao n0 cv] 26 (0, 0)) ∧ w'.heap[w1.heap.size]? = some (.cells #[.int .i64 0, .int .i64 t, .int .i64 Z, .int .i64 O, .bool skip] 85 (0, 0))) := fun w' f => by
    refine ⟨?_, ?_⟩
    · rw [f.block _ (by simp; omega) (fun h => h), Below.heap_alloc _ _ _ hs1, hf1.block _ (by simp) (fun h => h)]; exact heap_alloc_new w _
    · rw [f.block _ (by simp) (fun h => h)]; exact heap_alloc_new w1 _
  clear hf1
  obtain ⟨p0, p1, p2, p3, p4, pf⟩ := cell_of_five (HBX.out _ (Fr.refl _ _)).2
  go_wp2_with fail
  generalize hwA : w1.alloc (.cells #[.int .i64 0, .int .i64 t, .int .i64 Z, .int .i64 O, .bool skip] 85) = wA at *
  refine (HCn.out _).mono ?_
  rintro e w2 ⟨rfl, hf2⟩
  have HF2 : Hid (Fr (fun _ => False) wA w2) := hf2
  clear hf2 p0 p1 p2 p3 p4 pf hwA
  go_wp2_with fail
  refine (HNw.out _).mono ?_
  rintro e w3 ⟨bc, gc, gb, rfl, _, hf3, _, _, _⟩
  have HF3 : Hid (Fr (fun _ => False) wA w3) := HF2.out.trans hf3 (fun _ _ h => h)
  clear hf3
  obtain ⟨q0, q1, q2, qf⟩ := cell_of_three (HBX.out _ HF3.out).1
  go_wp2_with fail
  refine (HPt.out _ bc (HF1.out.trans HF3.out (fun _ _ h => h))).mono ?_
  rintro e w4 ⟨rfl, hf4⟩
  have HF4 : Hid (Fr (fun _ => False) w w4) := (HF1.out.trans HF3.out (fun _ _ h => h)).trans hf4 (fun _ _ h => h)
  clear hf4 q0 q1 q2 qf
  go_wp2_with fail
  go_ret2
  exact ⟨rfl, HF4.out⟩

/-- What Encode tells. -/
def encE (x y : Int) (l : List Nat) (ti : Int) : Int := if ti < 0 ∨ 4 ≤ ti then 60 else if validB x y l then 0 else 62
def encB (x y : Int) (l : List Nat) (ti : Int) (sk : Bool) : List Nat := if ti < 0 ∨ 4 ≤ ti then [] else if validB x y l then codedB (sizeT ti.toNat + 1) (rowsD 0 ti.toNat x.toNat sk (pixOf x.toNat l) y.toNat) else []
theorem seenAt_nil (w : World) : SeenAt w (.slice none 0 0) [] := ⟨none, 0, rfl, by simp, fun h => absurd rfl h⟩
theorem light_valid {x y : Int} {l : List Nat} (h : lightB x y l = true) (hv : validB x y l = true) : x * y ≤ 6000 := by
  unfold lightB at h
  simp only [Bool.and_eq_true, Bool.or_eq_true, decide_eq_true_eq, hv, Bool.not_true, Bool.false_eq_true, false_or] at h
  exact h.2
/-- A bitmap that may be, by its words. -/
theorem valid_bm2 {x y : Int} {v : Value} {l : List Nat} {w : World} (h : validB x y l = true) (hv : Seen w v l) (hc : CapOK v) (hlt : ∀ j : Nat, l[j]?.getD 0 < 18446744073709551616) : ∃ (W H : Nat), x = W ∧ y = H ∧ l = render W H (pixOf W l) ∧ Bm w v W H (pixOf W l) := by
  have h' := h
  unfold validB at h
  simp only [Bool.and_eq_true, decide_eq_true_eq] at h
  obtain ⟨⟨hs, hl⟩, hr⟩ := h
  unfold sizeOK at hs
  obtain ⟨s1, s2, s3⟩ := of_decide_eq_true hs
  obtain ⟨W, rfl⟩ : ∃ W : Nat, x = W := ⟨x.toNat, by omega⟩
  obtain ⟨H, rfl⟩ : ∃ H : Nat, y = H := ⟨y.toNat, by omega⟩
  have e := valid_render W H l (by omega) hl hr hlt
  refine ⟨W, H, rfl, rfl, e, ?_, hc, by omega, by omega, ?_⟩
  · rw [← e]; exact hv
  · rw [← Int.natCast_mul] at s3; omega

theorem gencode_all (x y : Int) (v : Value) (l : List Nat) (ti : Int) (sk : Bool) (w : World) (hx : -9223372036854775808 ≤ x ∧ x ≤ 9223372036854775807) (hy : -9223372036854775808 ≤ y ∧ y ≤ 9223372036854775807) (hv : Seen w v l) (hcap : CapOK v) (hlt : ∀ j : Nat, l[j]?.getD 0 < 18446744073709551616) (hli : lightB x y l = true) :
    Calls Try.prog 11 #[.agg #[.int .i64 x, .int .i64 y, v], .int .i64 ti, .bool sk] w fun e w' => ∃ vf, e = .returned (.tuple #[vf, .int .i64 (encE x y l ti)]) ∧ SeenAt w' vf (encB x y l ti sk) ∧ (∀ k, vf.ownBlock = some k → w.heap.size ≤ k) ∧ Fr (fun _ => False) w w' := by
  unfold encE encB
  by_cases ht : ti < 0 ∨ 4 ≤ ti
  · rw [if_pos ht, if_pos ht]
    refine (gencode_badT x y v l ti sk w ht hv).mono ?_
    rintro e w' ⟨rfl, hf⟩
    exact ⟨_, rfl, seenAt_nil w', fun k hk => by simp [Value.ownBlock] at hk, hf⟩
  · rw [if_neg ht, if_neg ht]
    obtain ⟨t, rfl⟩ : ∃ t : Nat, ti = t := ⟨ti.toNat, by omega⟩
    cases hvb : validB x y l
    · refine (gencode_badF x y v l t sk w (by omega) hx hy hv hlt hvb).mono ?_
      rintro e w' ⟨rfl, hf⟩
      exact ⟨_, rfl, seenAt_nil w', fun k hk => by simp [Value.ownBlock] at hk, hf⟩
    · have h6 := light_valid hli hvb
      obtain ⟨W, H, rfl, rfl, _, hbm⟩ := valid_bm2 hvb hv hcap hlt
      rw [← Int.natCast_mul] at h6
      have hHW : H * (W + 1) ≤ 12000 := by
        have : H * 1 ≤ H * W := Nat.mul_le_mul_left _ hbm.h1
        rw [Nat.mul_add]
        rw [Nat.mul_comm] at h6
        omega
      refine (gencode_ok W H v _ t sk w hbm (by omega) (by omega)).mono ?_
      rintro e w' ⟨g, n, c, rfl, hs, hf, hg⟩
      exact ⟨_, rfl, hs, fun k hk => by simp [Value.ownBlock] at hk; omega, hf⟩

set_option maxRecDepth 100000 in
set_option maxHeartbeats 2000000 in
theorem rgencode_bad (x y : Int) (v : Value) (l : List Nat) (ti : Int) (skip : Bool) (w : World) (hx : -9223372036854775808 ≤ x ∧ x ≤ 9223372036854775807) (hy : -9223372036854775808 ≤ y ∧ y ≤ 9223372036854775807) (hv : Seen w v l) (hlt : ∀ j : Nat, l[j]?.getD 0 < 18446744073709551616) (h : (ti < 0 ∨ 4 ≤ ti) ∨ validB x y l = false) :
    Calls Try.prog 12 #[.agg #[.int .i64 x, .int .i64 y, v], .int .i64 ti, .bool skip] w fun e w' => e = .returned (.tuple #[.slice none 0 0, .int .i64 (encE x y l ti)]) ∧ Fr (fun _ => False) w w' := by
  have HMY : Hid (∀ w', Fr (fun _ => False) w w' → Calls Try.prog 22 #[.agg #[.int .i64 x, .int .i64 y, v]] w' fun e w'' => e = .returned (.bool (validB x y l)) ∧ Fr (fun _ => False) w' w'') := fun w' hf => may_any x y v l w' hx hy (hv.kept hf) hlt
  have HM6 : Hid (∀ w', Calls Try.prog 23 #[.int .i64 ti] w' fun e w'' => e = .returned (.bool (decide (0 ≤ ti ∧ ti ≤ 3))) ∧ w'' = w') := fun w' => may6_any ti w' _ rfl
  obtain ⟨ao, cv, rfl, _, _⟩ := hv
  generalize l.length = n0 at *
  clear hx hy hlt
  unfold encE
  by_cases ht : ti < 0 ∨ 4 ≤ ti
  · rw [if_pos ht]
    rw [decide_eq_false (show ¬ (0 ≤ ti ∧ ti ≤ 3) by omega)] at HM6
    clear ht h
    go_enter Try.func12, Try.ntmps12
    go_wp2_with fail
    refine (HM6.out _).mono ?_
    rintro e w1 ⟨rfl, rfl⟩
    go_wp2_with fail
    go_ret2
    exact ⟨rfl, (Fr.refl _ _).alloc _⟩
  · have hvb : validB x y l = false := by rcases h with h | h; exact absurd h ht; exact h
    rw [if_neg ht, hvb]
    rw [hvb] at HMY
    rw [decide_eq_true (show 0 ≤ ti ∧ ti ≤ 3 by omega)] at HM6
    clear ht h hvb
    go_enter Try.func12, Try.ntmps12
    go_wp2_with fail
    refine (HM6.out _).mono ?_
    rintro e w1 ⟨rfl, rfl⟩
    go_wp2_with fail
    refine (HMY.out _ ((Fr.refl _ _).alloc _)).mono ?_
    rintro e w2 ⟨rfl, hf2⟩
    have HF2 : Hid (Fr (fun _ => False) w w2) := ((Fr.refl _ _).alloc _).trans hf2 (fun _ _ h => h)
    clear hf2
    go_wp2_with fail
    go_ret2
    exact ⟨rfl, HF2.out⟩

set_option maxRecDepth 100000 in
set_option maxHeartbeats 4000000 in
theorem rgencode_ok (W H : Nat) (v : Value) (P : Pxs) (t : Nat) (skip : Bool) (w : World) (hb : Bm w v W H P) (ht : t < 4) (hm : H * (W + 1) ≤ 16777216) :
    Calls Try.prog 12 #[.agg #[.int .i64 W, .int .i64 H, v], .int .i64 t, .bool skip] w fun e w' => ∃ vf, e = .returned (.tuple #[vf, .int .i64 0]) ∧ SeenAt w' vf (codedB (sizeT t + 1) (rowsD 0 t W skip P H)) ∧ (∀ k, vf.ownBlock = some k → w.heap.size ≤ k) ∧ Fr (fun _ => False) w w' := by
  have hZ := sizeT_le t ht
  obtain ⟨f1, f2, f3⟩ := size_facts hb.h1 hb.h2 hb.h3
  have HMY : Hid (∀ w', Fr (fun _ => False) w w' → Calls Try.prog 22 #[.agg #[.int .i64 W, .int .i64 H, v]] w' fun e w'' => e = .returned (.bool true) ∧ Fr (fun _ => False) w' w'') := fun w' hf => by
    have := may_any W H v _ w' (by omega) (by omega) (hb.kept hf).seen (render_lt' W H P)
    rwa [render_valid W H P hb.h1 hb.h2 hb.h3] at this
  have HM6 : Hid (∀ w', Calls Try.prog 23 #[.int .i64 t] w' fun e w'' => e = .returned (.bool true) ∧ w'' = w') := fun w' => by
    have := may6_any t w' _ rfl
    rwa [decide_eq_true (show 0 ≤ (t : Int) ∧ (t : Int) ≤ 3 by omega)] at this
  have HNe : Hid (∀ w', Calls Try.prog 40 #[.int .i64 t] w' fun e w'' => e = .returned (.int .i64 ((sizeT t + 1 : Nat) : Int)) ∧ Fr (fun _ => False) w' w'') := fun w' => need_any t ht w'
  have HNw : Hid (∀ w', Calls Try.prog 26 #[.int .i64 ((sizeT t + 1 : Nat) : Int)] w' fun e w'' => ∃ br gt ct gs gz gb, e = .returned (.pointer (some ⟨br, 0, none⟩)) ∧ ReAt w'' br gt ct gs gz (sizeT t + 1) gb 1 (newP (sizeT t + 1)) false ∧ Fr (fun _ => False) w' w'' ∧ w'.heap.size ≤ br ∧ w'.heap.size ≤ gt ∧ w'.heap.size ≤ gs ∧ w'.heap.size ≤ gz ∧ w'.heap.size ≤ gb) := fun w' => rnew_any w' (sizeT t + 1) (by omega) (by omega)
  have HPt : Hid (∀ (w' : World) (br gt ct gs gz gb : Nat), Fr (fun _ => False) w w' → w.heap.size ≤ br → w.heap.size ≤ gs → w.heap.size ≤ gz → w.heap.size ≤ gb → ReAt w' br gt ct gs gz (sizeT t + 1) gb 1 (newP (sizeT t + 1)) false → Calls Try.prog 28 #[.pointer (some ⟨br, 0, none⟩), .int .i64 0, .agg #[.int .i64 W, .int .i64 H, v], .int .i64 t, .bool skip] w' fun e w'' => e = .returned (.int .i64 0) ∧ ∃ gb' cb', ReAt w'' br gt ct gs gz (sizeT t + 1) gb' cb' (runL (newP (sizeT t + 1)) (rowsD 0 t W skip P H)) false ∧ Ook (runL (newP (sizeT t + 1)) (rowsD 0 t W skip P H)) ∧ RStep br gs gz gb gb' w' w'') := fun w' br gt ct gs gz gb f l1 l2 l3 l4 hr =>
    rgput_ok br gt ct gs gz (sizeT t + 1) gb 1 (newP (sizeT t + 1)) 0 t W H v P skip w' hr (newP_ok (by omega) (by omega)) (fun w2 f2 => hb.kept (f.trans f2 (fun i hi e => by omega))) ht (by omega) (by show 0 + _ ≤ _; omega)
  obtain ⟨ao, cv, hv, _, _⟩ := hb.seen
  rw [length_render] at hv
  obtain ⟨n0, HN0⟩ : ∃ n0, Hid (n0 = H * stride W) := ⟨_, rfl⟩
  rw [← HN0.out] at hv
  subst hv
  unfold codedB
  clear hb hm ht f3
  generalize hRR : runL (newP (sizeT t + 1)) (rowsD 0 t W skip P H) = R at *
  clear hRR
  generalize newP (sizeT t + 1) = N0 at *
  generalize ((sizeT t + 1 : Nat) : Int) = C1 at *
  generalize sizeT t + 1 = C at *
  go_enter Try.func12, Try.ntmps12
  go_wp2_with fail
  have HA : Hid (Fr (fun _ => False) w (w.alloc (.cells #[.int .i64 W, .int .i64 H, .slice ao n0 cv] 26))) := (Fr.refl _ _).alloc _
  have HBX : Hid (∀ w', Fr (fun _ => False) (w.alloc (.cells #[.int .i64 W, .int .i64 H, .slice ao n0 cv] 26)) w' → w'.cell? ⟨w.heap.size, 0, none⟩ = some (.int .i64 W) ∧ w'.cell? ⟨w.heap.size, 1, none⟩ = some (.int .i64 H) ∧ w'.cell? ⟨w.heap.size, 2, none⟩ = some (.slice ao n0 cv)) := fun w' hf => by
    obtain ⟨c0, c1, c2, _⟩ := cell_of_three ((hf.block w.heap.size (by simp) (fun hh => hh)).trans (heap_alloc_new w _))
    exact ⟨c0, c1, c2⟩
  generalize w.alloc (.cells #[.int .i64 W, .int .i64 H, .slice ao n0 cv] 26) = w0 at *
  refine (HM6.out _).mono ?_
  rintro e w1 ⟨rfl, hw1⟩
  obtain rfl := hw1.symm
  obtain ⟨c0, c1, c2⟩ := HBX.out _ (Fr.refl _ _)
  go_wp2_with fail
  refine (HMY.out _ HA.out).mono ?_
  rintro e w2 ⟨rfl, hf2⟩
  have HF2 : Hid (Fr (fun _ => False) w0 w2) := hf2
  clear hf2 c0 c1 c2
  go_wp2_with fail
  refine (HNe.out _).mono ?_
  rintro e w3 ⟨rfl, hf3⟩
  have HF3 : Hid (Fr (fun _ => False) w0 w3) := HF2.out.trans hf3 (fun _ _ h => h)
  clear hf3
  go_wp2_with fail
  refine (HNw.out _).mono ?_
  rintro e w4 ⟨br, gt, ct, gs, gz, gb, rfl, hr4, hf4, l1, l2, l3, l4, l5⟩
  have HF4 : Hid (Fr (fun _ => False) w0 w4) := HF3.out.trans hf4 (fun _ _ h => h)
  have HR4 : Hid (ReAt w4 br gt ct gs gz C gb 1 N0 false ∧ w.heap.size ≤ br ∧ w.heap.size ≤ gs ∧ w.heap.size ≤ gz ∧ w.heap.size ≤ gb) := by
    have := (HA.out.trans HF3.out (fun _ _ h => h)).size
    exact ⟨hr4, by omega, by omega, by omega, by omega⟩
  clear hr4 hf4 l1 l2 l3 l4 l5
  obtain ⟨c0, c1, c2⟩ := HBX.out _ HF4.out
  go_wp2_with fail
  refine (HPt.out _ br gt ct gs gz gb (HA.out.trans HF4.out (fun _ _ h => h)) HR4.out.2.1 HR4.out.2.2.1 HR4.out.2.2.2.1 HR4.out.2.2.2.2 HR4.out.1).mono ?_
  rintro e w5 ⟨rfl, gb', cb', hr5, ho5, hs5⟩
  have H5 : Hid (ReAt w5 br gt ct gs gz C gb' cb' R false ∧ Ook R ∧ Fr (fun _ => False) w w5 ∧ w.heap.size ≤ gb') := by
    have hh := HR4.out
    have hsz := (HA.out.trans HF4.out (fun _ _ h => h)).size
    refine ⟨hr5, ho5, (HA.out.trans HF4.out (fun _ _ h => h)).trans hs5.fr (fun i hi e => by omega), ?_⟩
    rcases hs5.row with a | a <;> omega
  clear hr5 ho5 hs5 c0 c1 c2
  go_wp2_with fail
  refine (rflush_any _ br gt ct gs gz C gb' cb' R H5.out.1 H5.out.2.1).mono ?_
  rintro e w6 ⟨gq, N, cq, gb2, cb2, rfl, ho6, hg6, _, hs6⟩
  have H6 : Hid (SeenAt w6 (.slice (some ⟨gq, 0, none⟩) N cq) (flushP R.s) ∧ w.heap.size ≤ gq ∧ Fr (fun _ => False) w w6) := by
    have hh := HR4.out
    have h5 := H5.out
    refine ⟨?_, by have := h5.2.2.1.size; omega, h5.2.2.1.trans hs6.fr (fun i hi e => by omega)⟩
    have hlen : (flushP R.s).length = N := by have := ho6.1; rw [length_byteCells] at this; omega
    subst hlen
    refine SeenAt.of_row ho6 ?_
    have hb := h5.2.1.len
    have hm := h5.2.1.made
    have h2 := flush_two R.s
    unfold flushP
    split
    · rw [List.length_drop]; omega
    · rw [List.length_drop, List.length_append]; simp; omega
  clear ho6 hg6 hs6
  go_wp2_with fail
  go_ret2
  exact ⟨_, rfl, H6.out.1, fun k hk => by simp [Value.ownBlock] at hk; have := H6.out.2.1; omega, H6.out.2.2⟩

theorem rgencode_all (x y : Int) (v : Value) (l : List Nat) (ti : Int) (sk : Bool) (w : World) (hx : -9223372036854775808 ≤ x ∧ x ≤ 9223372036854775807) (hy : -9223372036854775808 ≤ y ∧ y ≤ 9223372036854775807) (hv : Seen w v l) (hcap : CapOK v) (hlt : ∀ j : Nat, l[j]?.getD 0 < 18446744073709551616) (hli : lightB x y l = true) :
    Calls Try.prog 12 #[.agg #[.int .i64 x, .int .i64 y, v], .int .i64 ti, .bool sk] w fun e w' => ∃ vf, e = .returned (.tuple #[vf, .int .i64 (encE x y l ti)]) ∧ SeenAt w' vf (encB x y l ti sk) ∧ (∀ k, vf.ownBlock = some k → w.heap.size ≤ k) ∧ Fr (fun _ => False) w w' := by
  by_cases hbad : (ti < 0 ∨ 4 ≤ ti) ∨ validB x y l = false
  · refine (rgencode_bad x y v l ti sk w hx hy hv hlt hbad).mono ?_
    rintro e w' ⟨rfl, hf⟩
    refine ⟨_, rfl, ?_, fun k hk => by simp [Value.ownBlock] at hk, hf⟩
    have : encB x y l ti sk = [] := by
      unfold encB
      by_cases ht : ti < 0 ∨ 4 ≤ ti
      · rw [if_pos ht]
      · rw [if_neg ht]
        rcases hbad with h | h
        · exact absurd h ht
        · rw [h]; rfl
    rw [this]
    exact seenAt_nil w'
  · have ht : ¬ (ti < 0 ∨ 4 ≤ ti) := fun h => hbad (Or.inl h)
    have hvb : validB x y l = true := by
      cases h : validB x y l
      · exact absurd (Or.inr h) hbad
      · rfl
    unfold encE encB
    rw [if_neg ht, if_neg ht, hvb]
    obtain ⟨t, rfl⟩ : ∃ t : Nat, ti = t := ⟨ti.toNat, by omega⟩
    have h6 := light_valid hli hvb
    obtain ⟨W, H, rfl, rfl, _, hbm⟩ := valid_bm2 hvb hv hcap hlt
    rw [← Int.natCast_mul] at h6
    have hHW : H * (W + 1) ≤ 12000 := by
      have : H * 1 ≤ H * W := Nat.mul_le_mul_left _ hbm.h1
      rw [Nat.mul_add]
      rw [Nat.mul_comm] at h6
      omega
    exact rgencode_ok W H v _ t sk w hbm (by omega) (by omega)

end Go.Proofs.Ytkggdnkmaldmlaa
