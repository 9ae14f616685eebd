/- The document's own answer: same, Need. -/
import Derived.Test.YtkggdnkmaldmlaaK30
import Derived.Test.YtkggdnkmaldmlaaK18
import Derived.Test.YtkggdnkmaldmlaaK28
import Derived.Test.YtkggdnkmaldmlaaK29
import Derived.Test.YtkggdnkmaldmlaaK41
namespace Go.Proofs.Ytkggdnkmaldmlaa
open Go.RowKit

set_option maxRecDepth 100000 in
set_option maxHeartbeats 1000000 in
theorem need_any (t : Nat) (ht : t < 4) (w : World) : Calls Try.prog 40 #[.int .i64 t] w fun e w' => e = .returned (.int .i64 ((sizeT t + 1 : Nat) : Int)) ∧ Fr (fun _ => False) w w' := by
  have HS : Hid (∀ w', Calls Try.prog 71 #[.int .i64 t] w' fun e w'' => e = .returned (.int .i64 (sizeT t : Nat)) ∧ Fr (fun _ => False) w' w'') := fun w' => size6_any t ht w'
  have hZ := sizeT_le t ht
  generalize sizeT t = Z at *
  clear ht
  go_enter Try.func40, Try.ntmps40
  go_wp2_with fail
  refine (HS.out _).mono ?_
  rintro e w1 ⟨rfl, hf1⟩
  have HF : Hid (Fr (fun _ => False) w w1) := hf1
  clear hf1
  go_wp2_with fail
  go_ret
  exact ⟨by rw [Int.natCast_add]; rfl, HF.out⟩

theorem pixI_up (W H : Nat) (P : Pxs) (x y : Nat) (hx : x < W) (hy : y < H) : pixI W H P x ((y : Int) - 1) = (upP P y x).toNat := by
  unfold pixI upP
  by_cases h : y = 0
  · subst h
    rw [if_neg (by omega), if_pos rfl]; rfl
  · rw [if_pos (by omega), if_neg h, Int.toNat_natCast, show ((y : Int) - 1).toNat = y - 1 by omega]
theorem pixI_in (W H : Nat) (P : Pxs) (x y : Nat) (hx : x < W) (hy : y < H) : pixI W H P x y = (P x y).toNat := by
  unfold pixI
  rw [if_pos (by omega), Int.toNat_natCast, Int.toNat_natCast]

set_option maxRecDepth 100000 in
set_option maxHeartbeats 4000000 in
theorem rsame_any (W H : Nat) (v : Value) (P : Pxs) (y : Nat) (w : World) (hb : Bm w v W H P) (hy : y < H) :
    Calls Try.prog 54 #[.agg #[.int .i64 W, .int .i64 H, v], .int .i64 y] w fun e w' => e = .returned (.int .i64 ((sameR W P y).toNat : Nat)) ∧ Fr (fun _ => False) w w' := by
  obtain ⟨f1, f2, f3⟩ := size_facts hb.h1 hb.h2 hb.h3
  have HG1 : Hid (∀ (w' : World) (x : Nat), x < W → Fr (fun _ => False) w w' → Calls Try.prog 57 #[.agg #[.int .i64 W, .int .i64 H, v], .int .i64 x, .int .i64 y] w' fun e w'' => e = .returned (.int .i64 ((P x y).toNat : Nat)) ∧ Fr (fun _ => False) w' w'') := fun w' x hx f => by
    have := zget_any W H v P x y w' (hb.kept f).seen hb.h1 hb.h2 hb.h3
    rwa [pixI_get, pixI_in W H P x y hx hy] at this
  have HG2 : Hid (∀ (w' : World) (x : Nat), x < W → Fr (fun _ => False) w w' → Calls Try.prog 57 #[.agg #[.int .i64 W, .int .i64 H, v], .int .i64 x, .int .i64 ((y : Int) - 1)] w' fun e w'' => e = .returned (.int .i64 ((upP P y x).toNat : Nat)) ∧ Fr (fun _ => False) w' w'') := fun w' x hx f => by
    have := zget_any W H v P x ((y : Int) - 1) w' (hb.kept f).seen hb.h1 hb.h2 hb.h3
    rwa [pixI_get, pixI_up W H P x y hx hy] at this
  have HBX : Hid (∀ w', Fr (fun _ => False) (w.alloc (.cells #[.int .i64 W, .int .i64 H, v] 26)) w' → w'.cell? ⟨w.heap.size, 0, none⟩ = some (.int .i64 W) ∧ w'.cell? ⟨w.heap.size, 1, none⟩ = some (.int .i64 H) ∧ w'.cell? ⟨w.heap.size, 2, none⟩ = some v) := fun w' hf => by
    obtain ⟨c0, c1, c2, _⟩ := cell_of_three ((hf.block w.heap.size (by simp) (fun hh => hh)).trans (heap_alloc_new w _))
    exact ⟨c0, c1, c2⟩
  have hy2 : y ≤ 1048576 := by omega
  have hw1 : IntKind.i64.wrap ((y : Int) - 1) = (y : Int) - 1 := by rw [IntKind.wrap_i64]; omega
  obtain ⟨ao, cap, hv, _, _⟩ := hb.seen
  rw [length_render] at hv
  obtain ⟨n0, HN0⟩ : ∃ n0, Hid (n0 = H * stride W) := ⟨_, rfl⟩
  rw [← HN0.out] at hv
  subst hv
  have HA : Hid (Fr (fun _ => False) w (w.alloc (.cells #[.int .i64 W, .int .i64 H, .slice ao n0 cap] 26))) := (Fr.refl _ _).alloc _
  clear hb hy
  go_enter Try.func54, Try.ntmps54
  go_wp2_with fail
  generalize w.alloc (.cells #[.int .i64 W, .int .i64 H, .slice ao n0 cap] 26) = w0 at *
  go_loopw [5] (fun a wr => ∃ x : Nat, x ≤ W ∧ a = .int .i64 x ∧ (∀ i, i < x → P i y = upP P y i) ∧ Fr (fun _ => False) w0 wr) (fun a _ => W - (intOf a).toNat)
  case atStart => exact ⟨0, Nat.zero_le _, rfl, fun i hi => by omega, Fr.refl _ _⟩
  case round =>
    obtain ⟨x, hx, rfl, hpre, hfr⟩ := hrel
    have HFr : Hid (Fr (fun _ => False) w0 wr) := hfr
    have HPre : Hid (∀ i, i < x → P i y = upP P y i) := hpre
    obtain ⟨c0, c1, c2⟩ := HBX.out _ hfr
    have HBI : Hid (∀ w', Fr (fun _ => False) wr w' → w'.cell? ⟨w.heap.size, 0, none⟩ = some (.int .i64 W) ∧ w'.cell? ⟨w.heap.size, 1, none⟩ = some (.int .i64 H) ∧ w'.cell? ⟨w.heap.size, 2, none⟩ = some (.slice ao n0 cap)) := fun w' f => HBX.out w' (HFr.out.trans f (fun _ _ h => h))
    clear hpre hfr
    by_cases hxW : x < W
    · have HG1x : Hid (∀ (w' : World), Fr (fun _ => False) wr w' → _) := fun w' f => HG1.out w' x hxW (HA.out.trans (HFr.out.trans f (fun _ _ h => h)) (fun _ _ h => h))
      have HG2x : Hid (∀ (w' : World), Fr (fun _ => False) wr w' → _) := fun w' f => HG2.out w' x hxW (HA.out.trans (HFr.out.trans f (fun _ _ h => h)) (fun _ _ h => h))
      obtain ⟨p, Hp⟩ : ∃ p, Hid (p = P x y) := ⟨_, rfl⟩
      obtain ⟨q, Hq⟩ : ∃ q, Hid (q = upP P y x) := ⟨_, rfl⟩
      rw [← Hp.out] at HG1x
      rw [← Hq.out] at HG2x
      have hpl := Bool.toNat_le p
      have hql := Bool.toNat_le q
      generalize hpn : p.toNat = pn at *
      generalize hqn : q.toNat = qn at *
      go_wp2_with fail
      go_region_held3 (fun w' => w'.cell? ⟨w.heap.size, 0, none⟩ = some (.int .i64 W) ∧ w'.cell? ⟨w.heap.size, 1, none⟩ = some (.int .i64 H) ∧ w'.cell? ⟨w.heap.size, 2, none⟩ = some (.slice ao n0 cap)) (exact HBI.out _ (by repeat (first | with_reducible exact Fr.refl _ _ | with_reducible refine Fr.drew ?_ | with_reducible refine Fr.trans ?_ hf8 (fun _ _ hh => hh) | with_reducible refine Fr.trans ?_ hf7 (fun _ _ hh => hh)))) (first | (go_at_call 57; first | (with_reducible refine (HG1x.out _ (by repeat (first | with_reducible exact Fr.refl _ _ | with_reducible refine Fr.drew ?_ | with_reducible refine Fr.trans ?_ hf8 (fun _ _ hh => hh)))).mono ?_; rintro e w7 ⟨rfl, hf7⟩) | (with_reducible refine (HG2x.out _ (by repeat (first | with_reducible exact Fr.refl _ _ | with_reducible refine Fr.drew ?_ | with_reducible refine Fr.trans ?_ hf7 (fun _ _ hh => hh)))).mono ?_; rintro e w8 ⟨rfl, hf8⟩)))
      have HF8 : Hid (Fr (fun _ => False) w0 w8) := HFr.out.trans (((Fr.refl _ _).drew.trans hf7 (fun _ _ h => h)).trans hf8 (fun _ _ h => h)) (fun _ _ h => h)
      have HPQ : Hid (p.toNat = pn ∧ q.toNat = qn) := ⟨hpn, hqn⟩
      clear hf7 hf8 c0 c1 c2 hpn hqn
      by_cases hpq : pn = qn
      · have hne : ((pn : Int) != (qn : Int)) = false := by rw [hpq]; simp
        have hpp : p = q := by
          have h1 := HPQ.out
          rw [hpq] at h1
          have : p.toNat = q.toNat := by omega
          cases p <;> cases q <;> first | rfl | (simp at this)
        simp only [hne]
        clear hne
        go_wp2_with fail
        refine ⟨⟨x + 1, by omega, by rw [Int.natCast_add]; rfl, fun i hi => ?_, HF8.out⟩, by simp only [intOf]; omega⟩
        by_cases h : i = x
        · rw [h, ← Hp.out, ← Hq.out, hpp]
        · exact HPre.out i (by omega)
      · have hne : ((pn : Int) != (qn : Int)) = true := by rw [bne_iff_ne]; omega
        have hsm : sameR W P y = false := decide_eq_false (fun h => by
          have h2 := h x hxW
          rw [← Hp.out, ← Hq.out] at h2
          have h1 := HPQ.out
          rw [h2] at h1
          omega)
        simp only [hne]
        clear hne
        go_wp2_with fail
        go_ret
        exact ⟨by rw [hsm]; rfl, HA.out.trans HF8.out (fun _ _ h => h)⟩
    · obtain rfl : x = W := by omega
      have hsm : sameR x P y = true := decide_eq_true HPre.out
      go_wp2_with fail
      go_ret
      exact ⟨by rw [hsm]; rfl, HA.out.trans HFr.out (fun _ _ h => h)⟩

end Go.Proofs.Ytkggdnkmaldmlaa

/- The document's own answer: Get. -/
namespace Go.Proofs.Ytkggdnkmaldmlaa
open Go.RowKit

theorem getP_made (B : List Nat) (o : De) (i : Int) : (getP B o i).made = o.made + 1 := rfl
theorem pixW_eok {B : List Nat} (base t W y : Nat) (s : De × Pxs) (h : Eok B s.1) : ∀ n, s.1.made + n ≤ 16777216 → Eok B (pixW (askD B) base t W y n s).1 ∧ (pixW (askD B) base t W y n s).1.made = s.1.made + n
  | 0, _ => ⟨h, rfl⟩
  | n + 1, hn => by
    obtain ⟨a, b⟩ := pixW_eok base t W y s h n (by omega)
    refine ⟨getP_ok a _ (by omega), ?_⟩
    show (getP B _ _).made = _
    rw [getP_made, b]; omega
theorem rowW_eok {B : List Nat} (base t W : Nat) (skip : Bool) (y : Nat) (s : De × Pxs) (h : Eok B s.1) (hm : s.1.made + (W + 1) ≤ 16777216) : Eok B (rowW (askD B) base t W skip y s).1 ∧ (rowW (askD B) base t W skip y s).1.made ≤ s.1.made + (W + 1) := by
  unfold rowW
  have hg := getP_ok h ((base + sizeT t : Nat) : Int) (by omega)
  split
  · split
    · obtain ⟨a, b⟩ := pixW_eok base t W y (getP B s.1 ((base + sizeT t : Nat) : Int), s.2) hg W (by show (getP B s.1 _).made + _ ≤ _; rw [getP_made]; omega)
      refine ⟨a, ?_⟩
      show (pixW (askD B) base t W y W (getP B s.1 ((base + sizeT t : Nat) : Int), s.2)).1.made ≤ _
      rw [b]
      show (getP B s.1 _).made + W ≤ _
      rw [getP_made]; omega
    · refine ⟨hg, ?_⟩
      show (getP B s.1 _).made ≤ _
      rw [getP_made]; omega
  · obtain ⟨a, b⟩ := pixW_eok base t W y s h W (by omega)
    exact ⟨a, by omega⟩
theorem thrW_eok {B : List Nat} (base t W : Nat) (skip : Bool) (s : De × Pxs) (h : Eok B s.1) : ∀ n, s.1.made + n * (W + 1) ≤ 16777216 → Eok B (thrW (askD B) base t W skip n s).1 ∧ (thrW (askD B) base t W skip n s).1.made ≤ s.1.made + n * (W + 1)
  | 0, _ => ⟨h, by simp [thrW]⟩
  | n + 1, hn => by
    rw [Nat.add_mul, Nat.one_mul] at hn
    obtain ⟨a, b⟩ := thrW_eok base t W skip s h n (by omega)
    obtain ⟨c, e⟩ := rowW_eok base t W skip n _ a (by omega)
    refine ⟨c, ?_⟩
    show (rowW (askD B) base t W skip n (thrW (askD B) base t W skip n s)).1.made ≤ _
    rw [Nat.add_mul, Nat.one_mul]; omega
theorem getBit_toNat {o : De} {i : Int} (h : getBit o i < 2) : (decide (getBit o i = 1)).toNat = getBit o i := by
  rcases (show getBit o i = 0 ∨ getBit o i = 1 by omega) with e | e <;> rw [e] <;> rfl
theorem copyR_zero (P : Pxs) (y : Nat) : copyR 0 P y = P := by
  funext a e; unfold copyR; rw [if_neg (by omega)]
theorem copyR_up (k : Nat) (P : Pxs) (y x : Nat) : upP (copyR k P y) y x = upP P y x := by
  unfold upP
  split
  · rfl
  · unfold copyR; rw [if_neg (by omega)]
theorem copyR_put (k : Nat) (P : Pxs) (y : Nat) : putPix (copyR k P y) k y (upP P y k) = copyR (k + 1) P y := by
  funext a e
  unfold putPix
  by_cases h : a = k ∧ e = y
  · obtain ⟨rfl, rfl⟩ := h
    rw [if_pos ⟨rfl, rfl⟩]
    unfold copyR; rw [if_pos ⟨rfl, by omega⟩]
  · rw [if_neg h]
    unfold copyR
    by_cases h2 : e = y ∧ a < k
    · rw [if_pos h2, if_pos ⟨h2.1, by omega⟩]
    · rw [if_neg h2, if_neg (by omega)]

set_option maxRecDepth 100000 in
set_option maxHeartbeats 16000000 in
theorem rgget_ok (br gt ct gs gz n : Nat) (vb : Value) (B : List Nat) (d : De) (base t W H : Nat) (skip : Bool) (w : World) (h : RdAt w br gt ct gs gz n vb B d) (hok : Eok B d) (h1 : 1 ≤ W) (h2 : 1 ≤ H) (h3 : W * H ≤ 1048576) (ht : t < 4) (hbase : base ≤ 131072) (hm : d.made + H * (W + 1) ≤ 16777216) :
    Calls Try.prog 41 #[.pointer (some ⟨br, 0, none⟩), .int .i64 base, .int .i64 W, .int .i64 H, .int .i64 t, .bool skip] w fun e w' => ∃ g cap, e = .returned (.tuple #[.agg #[.int .i64 W, .int .i64 H, .slice (some ⟨g, 0, none⟩) (H * stride W) cap], .int .i64 0]) ∧ RowAt w' g cap W H (gotW B base t W skip H d).2 ∧ w.heap.size ≤ g ∧ Fr (fun k => k = br ∨ k = gs ∨ k = gz) w w' := by
  obtain ⟨f1, f2, f3⟩ := size_facts h1 h2 h3
  have hZ := sizeT_le t ht
  have HSz : Hid (1 ≤ W ∧ 1 ≤ H ∧ W * H ≤ 1048576) := ⟨h1, h2, h3⟩
  have HGe : Hid (∀ (w' : World) (o : De) (ii : Int) (i : Nat), RdAt w' br gt ct gs gz n vb B o → Eok B o → o.made < 16777216 → i ≤ 262144 → ii = (i : Int) → Calls Try.prog 72 #[.pointer (some ⟨br, 0, none⟩), .int .i64 ii] w' fun e w'' => e = .returned (.tuple #[.int .i64 ((decide (getBit o i = 1)).toNat : Nat), .int .i64 0]) ∧ RdAt w'' br gt ct gs gz n vb B (getP B o i) ∧ Fr (fun k => k = br ∨ k = gs ∨ k = gz) w' w'') := fun w' o ii i hr ho hmm hi e => by
    subst e
    rw [getBit_toNat (decBit_lt _ _)]
    exact rget_any w' br gt ct gs gz n vb B o hr ho hmm i (by omega)
  have HAt : Hid (∀ (w' : World) (gp g : Nat) (P : Pxs) (x y : Nat), x < W → y < H → RowAt w' g (H * stride W) W H P → PlAt w' gp t → Calls Try.prog 56 #[.agg #[.int .i64 W, .int .i64 H, .slice (some ⟨g, 0, none⟩) (H * stride W) (H * stride W)], .slice (some ⟨gp, 0, none⟩) (2 * bitsK t 3) (2 * bitsK t 3), .int .i64 x, .int .i64 y] w' fun e w'' => e = .returned (.int .i64 (cxJ W P t x y : Nat)) ∧ Fr (fun _ => False) w' w'') := fun w' gp g P x y hx hy hrow hp => by
    have := rat_any W H _ P t gp (2 * bitsK t 3) x y w' (hrow.bm h1 h2 h3) ht hp (by omega) (by omega)
    rwa [cxJ_pixI W H P t x y ht hy] at this
  have HUp : Hid (∀ (w' : World) (g : Nat) (P : Pxs) (x y : Nat), x < W → y < H → RowAt w' g (H * stride W) W H P → Calls Try.prog 57 #[.agg #[.int .i64 W, .int .i64 H, .slice (some ⟨g, 0, none⟩) (H * stride W) (H * stride W)], .int .i64 x, .int .i64 ((y : Int) - 1)] w' fun e w'' => e = .returned (.int .i64 ((upP P y x).toNat : Nat)) ∧ Fr (fun _ => False) w' w'') := fun w' g P x y hx hy hrow => by
    have := zget_any W H _ P x ((y : Int) - 1) w' (hrow.bm h1 h2 h3).seen h1 h2 h3
    rwa [pixI_get, pixI_up W H P x y hx hy] at this
  have HPt : Hid (∀ (w' : World) (g : Nat) (P : Pxs) (x y : Nat) (c : Bool), x < W → y < H → RowAt w' g (H * stride W) W H P → Calls Try.prog 67 #[.agg #[.int .i64 W, .int .i64 H, .slice (some ⟨g, 0, none⟩) (H * stride W) (H * stride W)], .int .i64 x, .int .i64 y, .int .i64 (c.toNat : Nat)] w' fun e w'' => e = .returned (.tuple #[]) ∧ RowAt w'' g (H * stride W) W H (putPix P x y c) ∧ Fr (fun k => k = g) w' w'') := fun w' g P x y c hx hy hrow => zput_any W H g _ P x y c w' hrow h1 h2 h3 hx hy
  have HWt : Hid (∀ w', Calls Try.prog 35 #[.int .i64 W, .int .i64 H] w' fun e w'' => ∃ g, e = .returned (.agg #[.int .i64 W, .int .i64 H, .slice (some ⟨g, 0, none⟩) (H * stride W) (H * stride W)]) ∧ RowAt w'' g (H * stride W) W H (fun _ _ => false) ∧ Fr (fun _ => False) w' w'' ∧ w'.heap.size ≤ g) := fun w' => zwhite_any W H w' h1 h2 h3
  have HPl : Hid (∀ w', Calls Try.prog 53 #[.int .i64 t] w' fun e w'' => e = .returned (.slice (some ⟨w'.heap.size, 0, none⟩) (2 * bitsK t 3) (2 * bitsK t 3)) ∧ PlAt w'' w'.heap.size t ∧ Fr (fun _ => False) w' w'') := fun w' => places_any t ht w'
  have HNe : Hid (∀ w', Calls Try.prog 40 #[.int .i64 t] w' fun e w'' => e = .returned (.int .i64 ((sizeT t + 1 : Nat) : Int)) ∧ Fr (fun _ => False) w' w'') := fun w' => need_any t ht w'
  have HTh : Hid (∀ y, y ≤ H → Eok B (thrW (askD B) base t W skip y (d, fun _ _ => false)).1 ∧ (thrW (askD B) base t W skip y (d, fun _ _ => false)).1.made ≤ d.made + y * (W + 1)) := fun y hy => thrW_eok base t W skip (d, fun _ _ => false) hok y (by
    have := Nat.mul_le_mul_right (W + 1) hy
    show d.made + _ ≤ _
    omega)
  have HM : Hid (∀ y, y < H → d.made + y * (W + 1) + (W + 1) ≤ 16777216) := fun y hy => by
    have h4 := Nat.mul_le_mul_right (W + 1) (show y + 1 ≤ H by omega)
    rw [Nat.add_mul, Nat.one_mul] at h4
    omega
  have HCl : Hid (∀ P x y, cxJ W P t x y < 65536) := fun P x y => by have := cxJ_lt W P t x y; show _ < _; omega
  have HD0 : Hid (RdAt w br gt ct gs gz n vb B d) := h
  have HLt : Hid ((br < w.heap.size ∧ gt < w.heap.size ∧ gs < w.heap.size ∧ gz < w.heap.size) ∧ ∀ k, vb.ownBlock = some k → k < w.heap.size) := ⟨⟨h.lt, (h.tab.lt gt rfl).2, (h.st.lt gs rfl).2, (h.bt.lt gz rfl).2⟩, fun k hk => (h.bs.lt k hk).2⟩
  obtain ⟨m0, HM0⟩ : ∃ m0, Hid (m0 = H * stride W) := ⟨_, rfl⟩
  rw [← HM0.out] at HAt HUp HPt HWt ⊢
  have hpl0 : 0 < (plc t).length := by
    match t with
    | 0 => decide
    | 1 => decide
    | 2 => decide
    | _ + 3 => exact (show 0 < (plc 3).length by decide)
  clear h hok hm ht h1 h2 h3 f3
  have HA : Hid (Fr (fun _ => False) w (w.alloc (.cells #[.int .i64 0, .int .i64 0, .slice none 0 0] 26))) := (Fr.refl _ _).alloc _
  have HBX : Hid ((w.alloc (.cells #[.int .i64 0, .int .i64 0, .slice none 0 0] 26)).heap[w.heap.size]? = some (.cells #[.int .i64 0, .int .i64 0, .slice none 0 0] 26 (0, 0)) ∧ (w.alloc (.cells #[.int .i64 0, .int .i64 0, .slice none 0 0] 26)).heap.size = w.heap.size + 1) := ⟨heap_alloc_new w _, by simp only [World.size_alloc]⟩
  go_enter Try.func41, Try.ntmps41
  go_wp2_with fail
  generalize (w.alloc (.cells #[.int .i64 0, .int .i64 0, .slice none 0 0] 26)) = w0 at *
  refine (HPl.out _).mono ?_
  rintro e wp ⟨rfl, hpp, hfp⟩
  obtain ⟨gp, Hgp⟩ : ∃ gp, Hid (gp = w0.heap.size) := ⟨_, rfl⟩
  rw [← Hgp.out] at hpp ⊢
  have HPp : Hid (PlAt wp gp t ∧ gp < wp.heap.size ∧ Fr (fun _ => False) w0 wp) := ⟨hpp, seen_lt (hpp 0 hpl0), hfp⟩
  clear hpp hfp hpl0
  go_wp2_with fail
  refine (HWt.out _).mono ?_
  rintro e w1 ⟨g, rfl, hr1, hf1, hg1⟩
  have HF2 : Hid (Fr (fun _ => False) w0 (w1.alloc (.cells #[.int .i64 W, .int .i64 H, .slice (some ⟨g, 0, none⟩) m0 m0] 26))) := (HPp.out.2.2.trans hf1 (fun _ _ h => h)).alloc _
  have HR2 : Hid (RowAt (w1.alloc (.cells #[.int .i64 W, .int .i64 H, .slice (some ⟨g, 0, none⟩) m0 m0] 26)) g m0 W H (fun _ _ => false)) := hr1.kept ((Fr.refl (fun _ => False) w1).alloc _) (fun h => h)
  have HB2 : Hid ((w1.alloc (.cells #[.int .i64 W, .int .i64 H, .slice (some ⟨g, 0, none⟩) m0 m0] 26)).heap[w1.heap.size]? = some (.cells #[.int .i64 W, .int .i64 H, .slice (some ⟨g, 0, none⟩) m0 m0] 26 (0, 0)) ∧ PlAt (w1.alloc (.cells #[.int .i64 W, .int .i64 H, .slice (some ⟨g, 0, none⟩) m0 m0] 26)) gp t) := ⟨heap_alloc_new w1 _, HPp.out.1.kept (hf1.alloc _) (fun h => h)⟩
  have HG2 : Hid (w.heap.size + 1 ≤ gp ∧ gp < g ∧ g < w1.heap.size) := ⟨by have := HBX.out.2; have := Hgp.out; omega, by have := HPp.out.2.1; omega, hr1.lt⟩
  clear hr1 hf1 hg1
  go_wp2_with fail
  generalize w1.alloc (.cells #[.int .i64 W, .int .i64 H, .slice (some ⟨g, 0, none⟩) m0 m0] 26) = w2 at *
  have HSt : Hid (∀ (w' : World), Fr (fun k => k = br ∨ k = gs ∨ k = gz ∨ k = g) w2 w' → (w'.cell? ⟨w1.heap.size, 0, none⟩ = some (.int .i64 W) ∧ w'.cell? ⟨w1.heap.size, 1, none⟩ = some (.int .i64 H) ∧ w'.cell? ⟨w1.heap.size, 2, none⟩ = some (.slice (some ⟨g, 0, none⟩) m0 m0)) ∧ PlAt w' gp t ∧ w'.heap[w.heap.size]? = some (.cells #[.int .i64 0, .int .i64 0, .slice none 0 0] 26 (0, 0)) ∧ Fr (fun k => k = br ∨ k = gs ∨ k = gz) w w') := fun w' hs => by
    obtain ⟨b1, b2⟩ := HBX.out
    have hg := HG2.out
    have hl := HLt.out.1
    have hs0 : Fr (fun k => k = br ∨ k = gs ∨ k = gz ∨ k = g) w0 w' := (HF2.out.mono (fun _ _ h => h.elim)).trans hs (fun _ _ h => h)
    have e1 := (hs.block w1.heap.size (lt_of_block HB2.out.1) (by omega)).trans HB2.out.1
    have e2 := (hs0.block w.heap.size (lt_of_block b1) (by omega)).trans b1
    obtain ⟨c0, c1, c2, _⟩ := cell_of_three e1
    have hw : Fr (fun k => k = br ∨ k = gs ∨ k = gz) w w' := (HA.out.mono (fun _ _ h => h.elim)).trans hs0 (fun i hi e => by omega)
    exact ⟨⟨c0, c1, c2⟩, HB2.out.2.kept hs (by omega), e2, hw⟩
  have HD2 : Hid (RdAt w2 br gt ct gs gz n vb B d) := HD0.out.keptAll (HA.out.trans HF2.out (fun _ _ h => h))
  go_loopw [16, 17, 18, 19, 20, 21, 22] (fun a _ _ _ _ _ _ wr => ∃ (y : Nat), y ≤ H ∧ a = .int .i64 y ∧ RdAt wr br gt ct gs gz n vb B (thrW (askD B) base t W skip y (d, fun _ _ => false)).1 ∧ RowAt wr g m0 W H (thrW (askD B) base t W skip y (d, fun _ _ => false)).2 ∧ Fr (fun k => k = br ∨ k = gs ∨ k = gz ∨ k = g) w2 wr) (fun a _ _ _ _ _ _ _ => H - (intOf a).toNat)
  case atStart => exact ⟨0, Nat.zero_le _, rfl, HD2.out, HR2.out, Fr.refl _ _⟩
  case round =>
    obtain ⟨y, hy, rfl, hre, hro, hst⟩ := hrel
    have HS : Hid (Fr (fun k => k = br ∨ k = gs ∨ k = gz ∨ k = g) w2 wr) := hst
    obtain ⟨⟨c0, c1, c2⟩, -, -, -⟩ := HSt.out _ hst
    by_cases hyH : y < H
    · have hdy : decide ((y : Int) < (H : Int)) = true := decide_eq_true (by omega)
      have HYH : Hid (y < H) := hyH
      obtain ⟨S0, HS0⟩ : ∃ S0, Hid (S0 = thrW (askD B) base t W skip y (d, fun _ _ => false)) := ⟨_, rfl⟩
      have HE0 : Hid (Eok B S0.1 ∧ S0.1.made + (W + 1) ≤ 16777216) := by
        obtain ⟨a, b⟩ := HTh.out y hy
        have := HM.out y hyH
        rw [HS0.out]; exact ⟨a, by omega⟩
      rw [← HS0.out] at hre hro
      have HRe : Hid (RdAt wr br gt ct gs gz n vb B S0.1 ∧ RowAt wr g m0 W H S0.2) := ⟨hre, hro⟩
      have HNX : Hid (thrW (askD B) base t W skip (y + 1) (d, fun _ _ => false) = rowW (askD B) base t W skip y S0) := by rw [HS0.out]; rfl
      clear hre hst hro
      cases hsk : skip
      · subst hsk
        have HNY : Hid (thrW (askD B) base t W false (y + 1) (d, fun _ _ => false) = pixW (askD B) base t W y W S0) := by rw [HNX.out]; unfold rowW; rw [if_neg (by decide)]; exact rfl
        have HPi : Hid (∀ x, x < W → Eok B (pixW (askD B) base t W y x S0).1 ∧ (pixW (askD B) base t W y x S0).1.made < 16777216) := fun x hx => by
          obtain ⟨a, b⟩ := pixW_eok base t W y S0 HE0.out.1 x (by have := HE0.out.2; omega)
          exact ⟨a, by have := HE0.out.2; omega⟩
        go_wp2_with fail
        go_loopw [20, 21, 22] (fun a _ _ wi => ∃ (x : Nat), x ≤ W ∧ a = .int .i64 x ∧ RdAt wi br gt ct gs gz n vb B (pixW (askD B) base t W y x S0).1 ∧ RowAt wi g m0 W H (pixW (askD B) base t W y x S0).2 ∧ Fr (fun k => k = br ∨ k = gs ∨ k = gz ∨ k = g) w2 wi) (fun a _ _ _ => W - (intOf a).toNat)
        case atStart => exact ⟨0, Nat.zero_le _, rfl, HRe.out.1, HRe.out.2, HS.out⟩
        case round =>
          obtain ⟨x, hx, rfl, hri, hroi, hsi⟩ := hrel
          have HRi : Hid (RdAt wr br gt ct gs gz n vb B (pixW (askD B) base t W y x S0).1 ∧ RowAt wr g m0 W H (pixW (askD B) base t W y x S0).2) := ⟨hri, hroi⟩
          have HSi : Hid (Fr (fun k => k = br ∨ k = gs ∨ k = gz ∨ k = g) w2 wr) := hsi
          have HSI : Hid (∀ w', Fr (fun k => k = br ∨ k = gs ∨ k = gz ∨ k = g) wr w' → (w'.cell? ⟨w1.heap.size, 0, none⟩ = some (.int .i64 W) ∧ w'.cell? ⟨w1.heap.size, 1, none⟩ = some (.int .i64 H) ∧ w'.cell? ⟨w1.heap.size, 2, none⟩ = some (.slice (some ⟨g, 0, none⟩) m0 m0)) ∧ PlAt w' gp t) := fun w' f => by
            obtain ⟨a, b, _⟩ := HSt.out w' (HSi.out.trans f (fun _ _ h => h))
            exact ⟨a, b⟩
          clear hri hsi hroi c0 c1 c2
          obtain ⟨⟨c0, c1, c2⟩, -⟩ := HSI.out _ (Fr.refl _ _)
          by_cases hxW : x < W
          · have hdx : decide ((x : Int) < (W : Int)) = true := decide_eq_true (by omega)
            obtain ⟨s, HSs⟩ : ∃ s, Hid (s = pixW (askD B) base t W y x S0) := ⟨_, rfl⟩
            have HRs : Hid (RdAt wr br gt ct gs gz n vb B s.1 ∧ RowAt wr g m0 W H s.2) := by rw [HSs.out]; exact HRi.out
            have HEs : Hid (Eok B s.1 ∧ s.1.made < 16777216) := by rw [HSs.out]; exact HPi.out x hxW
            have HAx : Hid (∀ w', Fr (fun _ => False) wr w' → Calls Try.prog 56 #[.agg #[.int .i64 W, .int .i64 H, .slice (some ⟨g, 0, none⟩) m0 m0], .slice (some ⟨gp, 0, none⟩) (2 * bitsK t 3) (2 * bitsK t 3), .int .i64 x, .int .i64 y] w' fun e w'' => e = .returned (.int .i64 (cxJ W s.2 t x y : Nat)) ∧ Fr (fun _ => False) w' w'') := fun w' f => by
              obtain ⟨_, h1⟩ := HSI.out w' (f.mono (fun _ _ h => h.elim))
              exact HAt.out w' gp g s.2 x y hxW HYH.out (HRs.out.2.kept f (fun h => h)) h1
            have hcl := HCl.out s.2 x y
            obtain ⟨K, hK⟩ : ∃ K, K = cxJ W s.2 t x y := ⟨_, rfl⟩
            rw [← hK] at HAx hcl
            have HGx : Hid (∀ w' (ii : Int), ii = ((base + K : Nat) : Int) → Fr (fun _ => False) wr w' → Calls Try.prog 72 #[.pointer (some ⟨br, 0, none⟩), .int .i64 ii] w' fun e w'' => e = .returned (.tuple #[.int .i64 ((decide (getBit s.1 ((base + K : Nat) : Int) = 1)).toNat : Nat), .int .i64 0]) ∧ RdAt w'' br gt ct gs gz n vb B (getP B s.1 ((base + K : Nat) : Int)) ∧ Fr (fun k => k = br ∨ k = gs ∨ k = gz) w' w'') := fun w' ii hii f => HGe.out w' s.1 ii (base + K) (HRs.out.1.keptAll f) HEs.out.1 HEs.out.2 (by omega) hii
            obtain ⟨c, hc⟩ : ∃ c, c = decide (getBit s.1 ((base + K : Nat) : Int) = 1) := ⟨_, rfl⟩
            have HNx : Hid (pixW (askD B) base t W y (x + 1) S0 = (getP B s.1 ((base + K : Nat) : Int), putPix s.2 x y c)) := by
              rw [pixW, ← HSs.out, hc, hK]; rfl
            rw [← hc] at HGx
            have HPx : Hid (∀ w', Fr (fun k => k = br ∨ k = gs ∨ k = gz) wr w' → Calls Try.prog 67 #[.agg #[.int .i64 W, .int .i64 H, .slice (some ⟨g, 0, none⟩) m0 m0], .int .i64 x, .int .i64 y, .int .i64 (c.toNat : Nat)] w' fun e w'' => e = .returned (.tuple #[]) ∧ RowAt w'' g m0 W H (putPix s.2 x y c) ∧ Fr (fun k => k = g) w' w'') := fun w' f => HPt.out w' g s.2 x y c hxW HYH.out (HRs.out.2.kept f (by have := HG2.out; have := HLt.out.1; omega))
            clear hc hK
            obtain ⟨cb, hcb⟩ : ∃ cb : Nat, cb = c.toNat := ⟨_, rfl⟩
            rw [← hcb] at HGx HPx
            clear hcb
            have hw9 : IntKind.i64.wrap ((base : Int) + (K : Int)) = (base : Int) + (K : Int) := by rw [IntKind.wrap_i64]; omega
            go_wp2_with fail
            refine (HAx.out _ (Fr.refl _ _)).mono ?_
            rintro e w7 ⟨rfl, hf7⟩
            have HF7 : Hid (Fr (fun _ => False) wr w7) := hf7
            clear c0 c1 c2 hf7
            obtain ⟨⟨c0, c1, c2⟩, -⟩ := HSI.out _ (HF7.out.mono (fun _ _ h => h.elim))
            go_wp2_with fail
            refine (HGx.out _ _ (by omega) HF7.out).mono ?_
            rintro e w9 ⟨rfl, hr9, hs9⟩
            have HF9 : Hid (Fr (fun k => k = br ∨ k = gs ∨ k = gz) wr w9) := (HF7.out.mono (fun _ _ h => h.elim)).trans hs9 (fun _ _ h => h)
            have HR9 : Hid (RdAt w9 br gt ct gs gz n vb B (getP B s.1 ((base + K : Nat) : Int))) := hr9
            clear c0 c1 c2 hr9 hs9
            obtain ⟨⟨c0, c1, c2⟩, -⟩ := HSI.out _ (HF9.out.mono (fun _ _ h => by omega))
            go_wp2_with fail
            refine (HPx.out _ HF9.out).mono ?_
            rintro e w10 ⟨rfl, hr10, hs10⟩
            have H10 : Hid (RdAt w10 br gt ct gs gz n vb B (pixW (askD B) base t W y (x + 1) S0).1 ∧ RowAt w10 g m0 W H (pixW (askD B) base t W y (x + 1) S0).2 ∧ Fr (fun k => k = br ∨ k = gs ∨ k = gz ∨ k = g) w2 w10) := by
              have hg := HG2.out
              have hl := HLt.out
              rw [HNx.out]
              refine ⟨HR9.out.kept hs10 (by omega) (by omega) (by omega) (by omega) (fun k hk e => by have := hl.2 k hk; omega), hr10, ?_⟩
              exact HSi.out.trans ((HF9.out.mono (fun _ _ h => by omega)).trans hs10 (fun _ _ h => by omega)) (fun _ _ h => h)
            clear hr10 hs10 c0 c1 c2
            go_wp2_with fail
            exact ⟨⟨x + 1, by omega, by rw [Int.natCast_add]; rfl, H10.out⟩, by simp only [intOf]; omega⟩
          · obtain rfl : x = W := by omega
            have hdx : decide ((x : Int) < (x : Int)) = false := decide_eq_false (by omega)
            go_wp2_with fail
            exact ⟨⟨y + 1, by omega, by rw [Int.natCast_add]; rfl, by rw [HNY.out]; exact HRi.out.1, by rw [HNY.out]; exact HRi.out.2, HSi.out⟩, by simp only [intOf]; omega⟩
      · subst hsk
        have HRe3 : Hid (∀ w' (ii : Int), ii = ((base + sizeT t : Nat) : Int) → Fr (fun _ => False) wr w' → Calls Try.prog 72 #[.pointer (some ⟨br, 0, none⟩), .int .i64 ii] w' fun e w'' => e = .returned (.tuple #[.int .i64 ((decide (getBit S0.1 ((base + sizeT t : Nat) : Int) = 1)).toNat : Nat), .int .i64 0]) ∧ RdAt w'' br gt ct gs gz n vb B (getP B S0.1 ((base + sizeT t : Nat) : Int)) ∧ Fr (fun k => k = br ∨ k = gs ∨ k = gz) w' w'') := fun w' ii hii f => HGe.out w' S0.1 ii (base + sizeT t) (HRe.out.1.keptAll f) HE0.out.1 (by have := HE0.out.2; omega) (by omega) hii
        have HEd : Hid (Eok B (getP B S0.1 ((base + sizeT t : Nat) : Int)) ∧ (getP B S0.1 ((base + sizeT t : Nat) : Int)).made + W ≤ 16777216) := ⟨getP_ok HE0.out.1 _ (by have := HE0.out.2; omega), by rw [getP_made]; have := HE0.out.2; omega⟩
        have HRow : Hid (∀ bs : Bool, bs = decide (getBit S0.1 ((base + sizeT t : Nat) : Int) = 1) → rowW (askD B) base t W true y S0 = if bs then (getP B S0.1 ((base + sizeT t : Nat) : Int), copyR W S0.2 y) else pixW (askD B) base t W y W (getP B S0.1 ((base + sizeT t : Nat) : Int), S0.2)) := fun bs hbs => by
          have h2 : getBit S0.1 ((base + sizeT t : Nat) : Int) < 2 := decBit_lt _ _
          show (if (true : Bool) = true then (if getBit S0.1 ((base + sizeT t : Nat) : Int) = 0 then pixW (askD B) base t W y W (getP B S0.1 ((base + sizeT t : Nat) : Int), S0.2) else (getP B S0.1 ((base + sizeT t : Nat) : Int), copyR W S0.2 y)) else _) = _
          rw [if_pos rfl]
          rcases (show getBit S0.1 ((base + sizeT t : Nat) : Int) = 0 ∨ getBit S0.1 ((base + sizeT t : Nat) : Int) = 1 by omega) with e | e
          · rw [hbs, e]; rfl
          · rw [hbs, e]; rfl
        go_wp2_with fail
        refine (HNe.out _).mono ?_
        rintro e w3 ⟨rfl, hf3⟩
        have HF3 : Hid (Fr (fun _ => False) wr w3) := hf3
        clear hf3 c0 c1 c2
        have hne1 : ((sizeT t + 1 : Nat) : Int) = (sizeT t : Int) + 1 := by omega
        rw [hne1]
        obtain ⟨bs, Hbs⟩ : ∃ bs, Hid (bs = decide (getBit S0.1 ((base + sizeT t : Nat) : Int) = 1)) := ⟨_, rfl⟩
        rw [← Hbs.out] at HRe3
        have HRow2 := (show Hid _ from HRow.out bs Hbs.out)
        obtain ⟨D1, HD1⟩ : ∃ D1, Hid (D1 = getP B S0.1 ((base + sizeT t : Nat) : Int)) := ⟨_, rfl⟩
        rw [← HD1.out] at HRe3 HEd HRow2
        obtain ⟨Z, HZ⟩ : ∃ Z, Hid (Z = sizeT t) := ⟨_, rfl⟩
        rw [← HZ.out] at hZ HRe3 ⊢
        clear hne1
        have hbl := Bool.toNat_le bs
        obtain ⟨bn, Hbn⟩ : ∃ bn, Hid (bn = bs.toNat) := ⟨_, rfl⟩
        rw [← Hbn.out] at hbl HRe3
        go_wp2_with fail
        refine (HRe3.out _ _ (by omega) HF3.out).mono ?_
        rintro e w4 ⟨rfl, hr4, hs4⟩
        have HF4 : Hid (Fr (fun k => k = br ∨ k = gs ∨ k = gz ∨ k = g) w2 w4) := HS.out.trans ((HF3.out.mono (fun _ _ h => h.elim)).trans (hs4.mono (fun _ _ h => by omega)) (fun _ _ h => h)) (fun _ _ h => h)
        have HD4 : Hid (RdAt w4 br gt ct gs gz n vb B D1 ∧ RowAt w4 g m0 W H S0.2) := ⟨hr4, (HRe.out.2.kept HF3.out (fun h => h)).kept hs4 (by have := HG2.out; have := HLt.out.1; omega)⟩
        clear hr4 hs4
        obtain ⟨⟨c0, c1, c2⟩, -, -, -⟩ := HSt.out _ HF4.out
        rcases (show bn = 0 ∨ bn = 1 by omega) with hb0 | hb0
        · subst hb0
          have hbf : bs = false := by
            have := Hbn.out
            cases bs
            · rfl
            · simp at this
          obtain ⟨S1, HS1⟩ : ∃ S1 : De × Pxs, Hid (S1 = (D1, S0.2)) := ⟨_, rfl⟩
          have HNY : Hid (thrW (askD B) base t W true (y + 1) (d, fun _ _ => false) = pixW (askD B) base t W y W S1) := by
            have := HRow2.out
            rw [hbf, if_neg (by decide)] at this
            rw [HNX.out, this, HS1.out]; exact rfl
          have HPi : Hid (∀ x, x < W → Eok B (pixW (askD B) base t W y x S1).1 ∧ (pixW (askD B) base t W y x S1).1.made < 16777216) := fun x hx => by
            have hS : S1.1 = D1 := by rw [HS1.out]
            have he := HEd.out
            rw [← hS] at he
            obtain ⟨a, b⟩ := pixW_eok base t W y S1 he.1 x (by omega)
            exact ⟨a, by omega⟩
          have HRe1 : Hid (RdAt w4 br gt ct gs gz n vb B S1.1 ∧ RowAt w4 g m0 W H S1.2) := by rw [HS1.out]; exact HD4.out
          clear hbf
          go_wp2_with fail
          go_loopw [20, 21, 22] (fun a _ _ wi => ∃ (x : Nat), x ≤ W ∧ a = .int .i64 x ∧ RdAt wi br gt ct gs gz n vb B (pixW (askD B) base t W y x S1).1 ∧ RowAt wi g m0 W H (pixW (askD B) base t W y x S1).2 ∧ Fr (fun k => k = br ∨ k = gs ∨ k = gz ∨ k = g) w2 wi) (fun a _ _ _ => W - (intOf a).toNat)
          case atStart => exact ⟨0, Nat.zero_le _, rfl, HRe1.out.1, HRe1.out.2, HF4.out⟩
          case round =>
            obtain ⟨x, hx, rfl, hri, hroi, hsi⟩ := hrel
            have HRi : Hid (RdAt wr br gt ct gs gz n vb B (pixW (askD B) base t W y x S1).1 ∧ RowAt wr g m0 W H (pixW (askD B) base t W y x S1).2) := ⟨hri, hroi⟩
            have HSi : Hid (Fr (fun k => k = br ∨ k = gs ∨ k = gz ∨ k = g) w2 wr) := hsi
            have HSI : Hid (∀ w', Fr (fun k => k = br ∨ k = gs ∨ k = gz ∨ k = g) wr w' → (w'.cell? ⟨w1.heap.size, 0, none⟩ = some (.int .i64 W) ∧ w'.cell? ⟨w1.heap.size, 1, none⟩ = some (.int .i64 H) ∧ w'.cell? ⟨w1.heap.size, 2, none⟩ = some (.slice (some ⟨g, 0, none⟩) m0 m0)) ∧ PlAt w' gp t) := fun w' f => by
              obtain ⟨a, b, _⟩ := HSt.out w' (HSi.out.trans f (fun _ _ h => h))
              exact ⟨a, b⟩
            clear hri hsi hroi c0 c1 c2
            obtain ⟨⟨c0, c1, c2⟩, -⟩ := HSI.out _ (Fr.refl _ _)
            by_cases hxW : x < W
            · have hdx : decide ((x : Int) < (W : Int)) = true := decide_eq_true (by omega)
              obtain ⟨s, HSs⟩ : ∃ s, Hid (s = pixW (askD B) base t W y x S1) := ⟨_, rfl⟩
              have HRs : Hid (RdAt wr br gt ct gs gz n vb B s.1 ∧ RowAt wr g m0 W H s.2) := by rw [HSs.out]; exact HRi.out
              have HEs : Hid (Eok B s.1 ∧ s.1.made < 16777216) := by rw [HSs.out]; exact HPi.out x hxW
              have HAx : Hid (∀ w', Fr (fun _ => False) wr w' → Calls Try.prog 56 #[.agg #[.int .i64 W, .int .i64 H, .slice (some ⟨g, 0, none⟩) m0 m0], .slice (some ⟨gp, 0, none⟩) (2 * bitsK t 3) (2 * bitsK t 3), .int .i64 x, .int .i64 y] w' fun e w'' => e = .returned (.int .i64 (cxJ W s.2 t x y : Nat)) ∧ Fr (fun _ => False) w' w'') := fun w' f => by
                obtain ⟨_, h1⟩ := HSI.out w' (f.mono (fun _ _ h => h.elim))
                exact HAt.out w' gp g s.2 x y hxW HYH.out (HRs.out.2.kept f (fun h => h)) h1
              have hcl := HCl.out s.2 x y
              obtain ⟨K, hK⟩ : ∃ K, K = cxJ W s.2 t x y := ⟨_, rfl⟩
              rw [← hK] at HAx hcl
              have HGx : Hid (∀ w' (ii : Int), ii = ((base + K : Nat) : Int) → Fr (fun _ => False) wr w' → Calls Try.prog 72 #[.pointer (some ⟨br, 0, none⟩), .int .i64 ii] w' fun e w'' => e = .returned (.tuple #[.int .i64 ((decide (getBit s.1 ((base + K : Nat) : Int) = 1)).toNat : Nat), .int .i64 0]) ∧ RdAt w'' br gt ct gs gz n vb B (getP B s.1 ((base + K : Nat) : Int)) ∧ Fr (fun k => k = br ∨ k = gs ∨ k = gz) w' w'') := fun w' ii hii f => HGe.out w' s.1 ii (base + K) (HRs.out.1.keptAll f) HEs.out.1 HEs.out.2 (by omega) hii
              obtain ⟨c, hc⟩ : ∃ c, c = decide (getBit s.1 ((base + K : Nat) : Int) = 1) := ⟨_, rfl⟩
              have HNx : Hid (pixW (askD B) base t W y (x + 1) S1 = (getP B s.1 ((base + K : Nat) : Int), putPix s.2 x y c)) := by
                rw [pixW, ← HSs.out, hc, hK]; rfl
              rw [← hc] at HGx
              have HPx : Hid (∀ w', Fr (fun k => k = br ∨ k = gs ∨ k = gz) wr w' → Calls Try.prog 67 #[.agg #[.int .i64 W, .int .i64 H, .slice (some ⟨g, 0, none⟩) m0 m0], .int .i64 x, .int .i64 y, .int .i64 (c.toNat : Nat)] w' fun e w'' => e = .returned (.tuple #[]) ∧ RowAt w'' g m0 W H (putPix s.2 x y c) ∧ Fr (fun k => k = g) w' w'') := fun w' f => HPt.out w' g s.2 x y c hxW HYH.out (HRs.out.2.kept f (by have := HG2.out; have := HLt.out.1; omega))
              clear hc hK
              obtain ⟨cb, hcb⟩ : ∃ cb : Nat, cb = c.toNat := ⟨_, rfl⟩
              rw [← hcb] at HGx HPx
              clear hcb
              have hw9 : IntKind.i64.wrap ((base : Int) + (K : Int)) = (base : Int) + (K : Int) := by rw [IntKind.wrap_i64]; omega
              go_wp2_with fail
              refine (HAx.out _ (Fr.refl _ _)).mono ?_
              rintro e w7 ⟨rfl, hf7⟩
              have HF7 : Hid (Fr (fun _ => False) wr w7) := hf7
              clear c0 c1 c2 hf7
              obtain ⟨⟨c0, c1, c2⟩, -⟩ := HSI.out _ (HF7.out.mono (fun _ _ h => h.elim))
              go_wp2_with fail
              refine (HGx.out _ _ (by omega) HF7.out).mono ?_
              rintro e w9 ⟨rfl, hr9, hs9⟩
              have HF9 : Hid (Fr (fun k => k = br ∨ k = gs ∨ k = gz) wr w9) := (HF7.out.mono (fun _ _ h => h.elim)).trans hs9 (fun _ _ h => h)
              have HR9 : Hid (RdAt w9 br gt ct gs gz n vb B (getP B s.1 ((base + K : Nat) : Int))) := hr9
              clear c0 c1 c2 hr9 hs9
              obtain ⟨⟨c0, c1, c2⟩, -⟩ := HSI.out _ (HF9.out.mono (fun _ _ h => by omega))
              go_wp2_with fail
              refine (HPx.out _ HF9.out).mono ?_
              rintro e w10 ⟨rfl, hr10, hs10⟩
              have H10 : Hid (RdAt w10 br gt ct gs gz n vb B (pixW (askD B) base t W y (x + 1) S1).1 ∧ RowAt w10 g m0 W H (pixW (askD B) base t W y (x + 1) S1).2 ∧ Fr (fun k => k = br ∨ k = gs ∨ k = gz ∨ k = g) w2 w10) := by
                have hg := HG2.out
                have hl := HLt.out
                rw [HNx.out]
                refine ⟨HR9.out.kept hs10 (by omega) (by omega) (by omega) (by omega) (fun k hk e => by have := hl.2 k hk; omega), hr10, ?_⟩
                exact HSi.out.trans ((HF9.out.mono (fun _ _ h => by omega)).trans hs10 (fun _ _ h => by omega)) (fun _ _ h => h)
              clear hr10 hs10 c0 c1 c2
              go_wp2_with fail
              exact ⟨⟨x + 1, by omega, by rw [Int.natCast_add]; rfl, H10.out⟩, by simp only [intOf]; omega⟩
            · obtain rfl : x = W := by omega
              have hdx : decide ((x : Int) < (x : Int)) = false := decide_eq_false (by omega)
              go_wp2_with fail
              exact ⟨⟨y + 1, by omega, by rw [Int.natCast_add]; rfl, by rw [HNY.out]; exact HRi.out.1, by rw [HNY.out]; exact HRi.out.2, HSi.out⟩, by simp only [intOf]; omega⟩
        · subst hb0
          have hbt : bs = true := by
            have := Hbn.out
            cases bs
            · simp at this
            · rfl
          have HNY : Hid (thrW (askD B) base t W true (y + 1) (d, fun _ _ => false) = (D1, copyR W S0.2 y)) := by
            have := HRow2.out
            rw [hbt, if_pos rfl] at this
            rw [HNX.out, this]; exact rfl
          clear hbt
          go_wp2_with fail
          go_loopw [19] (fun a wi => ∃ (x : Nat), x ≤ W ∧ a = .int .i64 x ∧ RdAt wi br gt ct gs gz n vb B D1 ∧ RowAt wi g m0 W H (copyR x S0.2 y) ∧ Fr (fun k => k = br ∨ k = gs ∨ k = gz ∨ k = g) w2 wi) (fun a _ => W - (intOf a).toNat)
          case atStart => exact ⟨0, Nat.zero_le _, rfl, HD4.out.1, by rw [copyR_zero]; exact HD4.out.2, HF4.out⟩
          case round =>
            obtain ⟨x, hx, rfl, hri, hroi, hsi⟩ := hrel
            have HRi : Hid (RdAt wr br gt ct gs gz n vb B D1 ∧ RowAt wr g m0 W H (copyR x S0.2 y)) := ⟨hri, hroi⟩
            have HSi : Hid (Fr (fun k => k = br ∨ k = gs ∨ k = gz ∨ k = g) w2 wr) := hsi
            have HSI : Hid (∀ w', Fr (fun k => k = br ∨ k = gs ∨ k = gz ∨ k = g) wr w' → (w'.cell? ⟨w1.heap.size, 0, none⟩ = some (.int .i64 W) ∧ w'.cell? ⟨w1.heap.size, 1, none⟩ = some (.int .i64 H) ∧ w'.cell? ⟨w1.heap.size, 2, none⟩ = some (.slice (some ⟨g, 0, none⟩) m0 m0))) := fun w' f => (HSt.out w' (HSi.out.trans f (fun _ _ h => h))).1
            clear hri hsi hroi c0 c1 c2
            obtain ⟨c0, c1, c2⟩ := HSI.out _ (Fr.refl _ _)
            by_cases hxW : x < W
            · have hdx : decide ((x : Int) < (W : Int)) = true := decide_eq_true (by omega)
              have HUx : Hid (∀ w', Fr (fun _ => False) wr w' → Calls Try.prog 57 #[.agg #[.int .i64 W, .int .i64 H, .slice (some ⟨g, 0, none⟩) m0 m0], .int .i64 x, .int .i64 ((y : Int) - 1)] w' fun e w'' => e = .returned (.int .i64 ((upP S0.2 y x).toNat : Nat)) ∧ Fr (fun _ => False) w' w'') := fun w' f => by
                have := HUp.out w' g (copyR x S0.2 y) x y hxW HYH.out (HRi.out.2.kept f (fun h => h))
                rwa [copyR_up] at this
              have HPx : Hid (∀ w', Fr (fun _ => False) wr w' → Calls Try.prog 67 #[.agg #[.int .i64 W, .int .i64 H, .slice (some ⟨g, 0, none⟩) m0 m0], .int .i64 x, .int .i64 y, .int .i64 ((upP S0.2 y x).toNat : Nat)] w' fun e w'' => e = .returned (.tuple #[]) ∧ RowAt w'' g m0 W H (copyR (x + 1) S0.2 y) ∧ Fr (fun k => k = g) w' w'') := fun w' f => by
                have := HPt.out w' g (copyR x S0.2 y) x y (upP S0.2 y x) hxW HYH.out (HRi.out.2.kept f (fun h => h))
                rwa [copyR_put] at this
              generalize (upP S0.2 y x).toNat = u at *
              have hw8 : IntKind.i64.wrap ((y : Int) - 1) = (y : Int) - 1 := by rw [IntKind.wrap_i64]; omega
              go_wp2_with fail
              go_region_held3 (fun w' => w'.cell? ⟨w1.heap.size, 0, none⟩ = some (.int .i64 W) ∧ w'.cell? ⟨w1.heap.size, 1, none⟩ = some (.int .i64 H) ∧ w'.cell? ⟨w1.heap.size, 2, none⟩ = some (.slice (some ⟨g, 0, none⟩) m0 m0)) (exact HSI.out _ (by repeat (first | with_reducible exact Fr.refl _ _ | with_reducible refine Fr.drew ?_ | with_reducible refine Fr.trans ?_ hs9 (fun _ _ hh => by omega) | with_reducible refine Fr.trans ?_ hf7 (fun _ _ hh => hh.elim)))) (first | (go_at_call 57; refine (HUx.out _ (by repeat (first | with_reducible exact Fr.refl _ _ | with_reducible refine Fr.drew ?_))).mono ?_; rintro e w7 ⟨rfl, hf7⟩) | (go_at_call 67; refine (HPx.out _ (by repeat (first | with_reducible exact Fr.refl _ _ | with_reducible refine Fr.drew ?_ | with_reducible refine Fr.trans ?_ hf7 (fun _ _ hh => hh)))).mono ?_; rintro e w9 ⟨rfl, hr9, hs9⟩))
              have H9 : Hid (RdAt w9 br gt ct gs gz n vb B D1 ∧ RowAt w9 g m0 W H (copyR (x + 1) S0.2 y) ∧ Fr (fun k => k = br ∨ k = gs ∨ k = gz ∨ k = g) w2 w9) := by
                have hg := HG2.out
                have hl := HLt.out
                have f9 : Fr (fun k => k = g) wr w9 := by
                  refine Fr.trans ?_ hs9 (fun _ _ h => h)
                  repeat (first | with_reducible exact Fr.refl _ _ | with_reducible refine Fr.drew ?_ | with_reducible refine Fr.trans ?_ hf7 (fun _ _ hh => hh.elim))
                exact ⟨HRi.out.1.kept f9 (by omega) (by omega) (by omega) (by omega) (fun k hk e => by have := hl.2 k hk; omega), hr9, HSi.out.trans (f9.mono (fun _ _ h => by omega)) (fun _ _ h => h)⟩
              clear hr9 hs9 hf7
              go_wp2_with fail
              exact ⟨⟨x + 1, by omega, by rw [Int.natCast_add]; rfl, H9.out⟩, by simp only [intOf]; omega⟩
            · obtain rfl : x = W := by omega
              have hdx : decide ((x : Int) < (x : Int)) = false := decide_eq_false (by omega)
              go_wp2_with fail
              exact ⟨⟨y + 1, by omega, by rw [Int.natCast_add]; rfl, by rw [HNY.out]; exact HRi.out.1, by rw [HNY.out]; exact HRi.out.2, HSi.out⟩, by simp only [intOf]; omega⟩
    · obtain rfl : y = H := by omega
      have HRe : Hid (RdAt wr br gt ct gs gz n vb B (thrW (askD B) base t W skip y (d, fun _ _ => false)).1 ∧ RowAt wr g m0 W y (thrW (askD B) base t W skip y (d, fun _ _ => false)).2) := ⟨hre, hro⟩
      clear hre hro hst
      have hdy : decide ((y : Int) < (y : Int)) = false := decide_eq_false (by omega)
      obtain ⟨-, -, hb9, hfw⟩ := HSt.out _ HS.out
      have hset := set3_cells hb9 (.int .i64 W) (.int .i64 y) (.slice (some ⟨g, 0, none⟩) m0 m0)
      have hf9 : Fr (fun k => k = w.heap.size) wr (((wr.setCell ⟨w.heap.size, 0, none⟩ (.int .i64 W)).setCell ⟨w.heap.size, 1, none⟩ (.int .i64 y)).setCell ⟨w.heap.size, 2, none⟩ (.slice (some ⟨g, 0, none⟩) m0 m0)) := (((Fr.refl (fun k => k = w.heap.size) wr).setCell (p := ⟨w.heap.size, 0, none⟩) (fun _ => rfl) _).setCell (p := ⟨w.heap.size, 1, none⟩) (fun _ => rfl) _).setCell (p := ⟨w.heap.size, 2, none⟩) (fun _ => rfl) _
      obtain ⟨w9, hw9⟩ : ∃ w9, w9 = ((wr.setCell ⟨w.heap.size, 0, none⟩ (.int .i64 W)).setCell ⟨w.heap.size, 1, none⟩ (.int .i64 y)).setCell ⟨w.heap.size, 2, none⟩ (.slice (some ⟨g, 0, none⟩) m0 m0) := ⟨_, rfl⟩
      rw [← hw9] at hset hf9
      obtain ⟨x0, x1, x2, xf⟩ := cell_of_three hset
      have HW9 := (show Hid (w9 = ((wr.setCell ⟨w.heap.size, 0, none⟩ (.int .i64 W)).setCell ⟨w.heap.size, 1, none⟩ (.int .i64 y)).setCell ⟨w.heap.size, 2, none⟩ (.slice (some ⟨g, 0, none⟩) m0 m0)) from hw9)
      have HE : Hid (RowAt w9 g m0 W y (gotW B base t W skip y d).2 ∧ w.heap.size ≤ g ∧ Fr (fun k => k = br ∨ k = gs ∨ k = gz) w w9) := by
        have hg := HG2.out
        exact ⟨HRe.out.2.kept hf9 (by omega), by omega, hfw.trans hf9 (fun i hi e => by omega)⟩
      obtain ⟨u0, u1, u2, uf⟩ := cell_of_three hb9
      clear hset hf9 xf hb9 hw9 hfw
      go_wp2_with fail
      rw [← HW9.out]
      refine bodyPost_ret (v := .tuple #[.agg #[.int .i64 W, .int .i64 y, .slice (some ⟨g, 0, none⟩) m0 m0], .int .i64 0]) (by simp [results, Try.results41, go_sem, x0, x1, x2]) rfl ?_
      exact ⟨g, m0, rfl, HE.out⟩

end Go.Proofs.Ytkggdnkmaldmlaa
