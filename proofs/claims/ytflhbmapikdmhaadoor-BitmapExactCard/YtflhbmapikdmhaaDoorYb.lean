/- What both sides answer to each operation: one answer, and the same pixels. -/
import Derived.Test.YtflhbmapikdmhaaDoorXi
import Derived.Test.YtflhbmapikdmhaaDoorXf
import Derived.Test.YtflhbmapikdmhaaDoorXq
import Derived.Test.YtflhbmapikdmhaaDoorXc
import Derived.Test.YtflhbmapikdmhaaDoorXb
import Derived.Test.YtflhbmapikdmhaaDoorInvert
namespace Go.Proofs.YtflhbmapikdmhaaDoor
set_option maxRecDepth 100000
open Go.RowKit

def I64 (x : Int) : Prop := -9223372036854775808 ≤ x ∧ x ≤ 9223372036854775807

set_option maxHeartbeats 1000000 in
theorem set_bit (b g cap W H : Nat) (P : Nat → Nat → Bool) (x y : Nat) (bit : Int) (w : World) (h : MapAt w b g cap W H P) (hx : x < W) (hy : y < H) (hbit : ¬ (bit = 0 ∨ bit = 1)) :
    Calls Tryd.prog 6 #[.pointer (some ⟨b, 0, none⟩), .int .i64 x, .int .i64 y, .int .i64 bit] w fun e w' => e = .returned (.int .i64 23) ∧ w' = w := by
  have HA : Hid (MapAt w b g cap W H P) := h
  clear h
  go_enter Tryd.func6, Tryd.ntmps6
  go_wp2_with fail
  refine (inside_any b g cap W H P x y _ HA.out).mono ?_
  rintro e w1 ⟨rfl, rfl⟩
  rw [decide_eq_true (by omega)]
  go_wp2_with fail
  refine (isBit_any bit _).mono ?_
  rintro e w1 ⟨rfl, rfl⟩
  rw [decide_eq_false hbit]
  go_wp2_with fail
  go_ret
  exact ⟨rfl, rfl⟩

theorem laidAll_put (P : Nat → Nat → Bool) (x y : Nat) (c : Bool) : laidAll P y x 1 (fun _ => c) = putPix P x y c := by
  funext a e
  unfold laidAll putPix
  by_cases h : a = x ∧ e = y
  · rw [if_pos h, if_pos (by omega)]
  · rw [if_neg h, if_neg (by omega)]

/-- What the program's side does to a map. -/
def PDoes (W H : Nat) (P P' : Nat → Nat → Bool) (fn : Nat) (args : List Value) (er : Int) : Prop :=
  ∀ w b g cap, MapAt w b g cap W H P → Calls Tryd.prog fn (Value.pointer (some ⟨b, 0, none⟩) :: args).toArray w fun e w' => e = .returned (.int .i64 er) ∧ MapAt w' b g cap W H P' ∧ Fr (fun k => k = g) w w'
/-- What the reference does to a bitmap. -/
def RDoes (W H : Nat) (P P' : Nat → Nat → Bool) (fn : Nat) (args : List Value) (er : Int) : Prop :=
  ∀ w g cap, RowAt w g cap W H P → Calls Tryd.prog fn (Value.agg #[.int .i64 (W : Int), .int .i64 (H : Int), .slice (some ⟨g, 0, none⟩) (H * stride W) cap] :: args).toArray w fun e w' => e = .returned (.int .i64 er) ∧ RowAt w' g cap W H P' ∧ Fr (fun k => k = g) w w'

theorem set_both (W H : Nat) (P : Nat → Nat → Bool) (x y bit : Int) (h1 : 1 ≤ W) (h2 : 1 ≤ H) (h3 : W * H ≤ 1048576) :
    ∃ er P', PDoes W H P P' 6 [.int .i64 x, .int .i64 y, .int .i64 bit] er ∧ RDoes W H P P' 7 [.int .i64 x, .int .i64 y, .int .i64 bit] er := by
  by_cases hp : 0 ≤ x ∧ x < W ∧ 0 ≤ y ∧ y < H
  · obtain ⟨a, rfl⟩ : ∃ a : Nat, x = a := ⟨x.toNat, by omega⟩
    obtain ⟨e, rfl⟩ : ∃ e : Nat, y = e := ⟨y.toNat, by omega⟩
    by_cases hb : bit = 0 ∨ bit = 1
    · obtain ⟨c, rfl⟩ : ∃ c : Bool, bit = ((c.toNat : Nat) : Int) := by
        rcases hb with rfl | rfl
        · exact ⟨false, rfl⟩
        · exact ⟨true, rfl⟩
      refine ⟨0, putPix P a e c, fun w b g cap hm => ?_, fun w g cap hr => ?_⟩
      · refine (set_in b g cap W H P a e c.toNat w hm (by omega) (by omega) (by cases c <;> simp)).mono ?_
        rintro e' w' ⟨rfl, hm', hf⟩
        refine ⟨rfl, ?_, hf⟩
        rw [← laidAll_put]
        have : (fun _ : Nat => decide (c.toNat = 1)) = fun _ => c := by funext _; cases c <;> rfl
        rw [this] at hm'
        exact hm'
      · exact rset_in W H g cap P a e c w hr h1 h2 h3 (by omega) (by omega)
    · refine ⟨23, P, fun w b g cap hm => ?_, fun w g cap hr => ?_⟩
      · refine (set_bit b g cap W H P a e bit w hm (by omega) (by omega) hb).mono ?_
        rintro e' w' ⟨rfl, rfl⟩
        exact ⟨rfl, hm, Fr.refl _ _⟩
      · refine (rset_bit W H _ a e bit w ⟨_, _, _, rfl⟩ (by omega) (by omega) (by omega)).mono ?_
        rintro e' w' ⟨rfl, hf⟩
        exact ⟨rfl, hr.kept hf (fun h => h), hf.mono (fun _ _ h => h.elim)⟩
  · refine ⟨22, P, fun w b g cap hm => ?_, fun w g cap hr => ?_⟩
    · refine (set_out b g cap W H P x y bit w hm hp).mono ?_
      rintro e' w' ⟨rfl, rfl⟩
      exact ⟨rfl, hm, Fr.refl _ _⟩
    · refine (rset_out W H _ x y bit w ⟨_, _, _, rfl⟩ hp).mono ?_
      rintro e' w' ⟨rfl, hf⟩
      exact ⟨rfl, hr.kept hf (fun h => h), hf.mono (fun _ _ h => h.elim)⟩

theorem fill_both (W H : Nat) (P : Nat → Nat → Bool) (x y ww hh bit : Int) (h1 : 1 ≤ W) (h2 : 1 ≤ H) (h3 : W * H ≤ 1048576) (b1 : I64 x) (b2 : I64 y) (b3 : I64 ww) (b4 : I64 hh) :
    ∃ er P', PDoes W H P P' 8 [.int .i64 x, .int .i64 y, .int .i64 ww, .int .i64 hh, .int .i64 bit] er ∧ RDoes W H P P' 9 [.int .i64 x, .int .i64 y, .int .i64 ww, .int .i64 hh, .int .i64 bit] er := by
  unfold I64 at *
  by_cases hr : ww < 0 ∨ hh < 0
  · refine ⟨24, P, fun w b g cap hm => ?_, fun w g cap hw => ?_⟩
    · refine (fill_rect b x y ww hh bit w hr).mono ?_
      rintro e' w' ⟨rfl, rfl⟩
      exact ⟨rfl, hm, Fr.refl _ _⟩
    · refine (rfill_rect W H _ x y ww hh bit w ⟨_, _, _, rfl⟩ hr).mono ?_
      rintro e' w' ⟨rfl, hf⟩
      exact ⟨rfl, hw.kept hf (fun h => h), hf.mono (fun _ _ h => h.elim)⟩
  by_cases hb : bit = 0 ∨ bit = 1
  · obtain ⟨c, rfl⟩ : ∃ c : Bool, bit = ((c.toNat : Nat) : Int) := by
      rcases hb with rfl | rfl
      · exact ⟨false, rfl⟩
      · exact ⟨true, rfl⟩
    refine ⟨0, fillPix P x y ww hh c, fun w b g cap hm => ?_, fun w g cap hw => ?_⟩
    · have h := fill_any b g cap W H c.toNat P x y ww hh w hm (by cases c <;> simp) b1 b2 (by omega) (by omega)
      rw [show decide (c.toNat = 1) = c by cases c <;> rfl] at h
      exact h
    · exact rfill_ok W H g cap P x y ww hh c.toNat c w hw h1 h2 h3 rfl b1 b2 (by omega) (by omega)
  · refine ⟨23, P, fun w b g cap hm => ?_, fun w g cap hw => ?_⟩
    · refine (fill_bit b x y ww hh bit w (by omega) (by omega) hb).mono ?_
      rintro e' w' ⟨rfl, rfl⟩
      exact ⟨rfl, hm, Fr.refl _ _⟩
    · refine (rfill_bit W H _ x y ww hh bit w ⟨_, _, _, rfl⟩ (by omega) (by omega) hb).mono ?_
      rintro e' w' ⟨rfl, hf⟩
      exact ⟨rfl, hw.kept hf (fun h => h), hf.mono (fun _ _ h => h.elim)⟩

theorem RowAt.bm {w : World} {g cap W H : Nat} {P : Nat → Nat → Bool} (h : RowAt w g cap W H P) (h1 : 1 ≤ W) (h2 : 1 ≤ H) (h3 : W * H ≤ 1048576) : Bm w (.slice (some ⟨g, 0, none⟩) (H * stride W) cap) W H P := by
  refine ⟨h.seen (size_facts h1 h2 h3).2.2, ?_, h1, h2, h3⟩
  rcases h.2 with ⟨e, _⟩ | ⟨g', c, cur, e, _, _, hc, hm, _⟩
  · cases e
  · intro ao n c' e2
    cases e
    cases e2
    exact ⟨hc, hm⟩

/-- A blit from another map, or from the map itself. -/
theorem blit_both (W H : Nat) (P : Nat → Nat → Bool) (V U : Nat) (Ps : Nat → Nat → Bool) (sx sy ww hh dx dy op : Int) (h1 : 1 ≤ W) (h2 : 1 ≤ H) (h3 : W * H ≤ 1048576) (h4 : 1 ≤ V) (h5 : 1 ≤ U) (h6 : V * U ≤ 1048576) (b1 : I64 sx) (b2 : I64 sy) (b3 : I64 ww) (b4 : I64 hh) (b5 : I64 dx) (b6 : I64 dy) :
    ∃ er P', (∀ w b g cap bs gs caps, MapAt w b g cap W H P → MapAt w bs gs caps V U Ps → ((bs = b ∧ gs = g ∧ caps = cap ∧ V = W ∧ U = H ∧ Ps = P) ∨ (bs ≠ b ∧ bs ≠ g ∧ gs ≠ g)) → Calls Tryd.prog 10 #[.pointer (some ⟨b, 0, none⟩), .pointer (some ⟨bs, 0, none⟩), .int .i64 sx, .int .i64 sy, .int .i64 ww, .int .i64 hh, .int .i64 dx, .int .i64 dy, .int .i64 op] w fun e w' => e = .returned (.int .i64 er) ∧ MapAt w' b g cap W H P' ∧ Fr (fun k => k = g) w w') ∧
      (∀ w g cap gs caps, RowAt w g cap W H P → RowAt w gs caps V U Ps → Calls Tryd.prog 11 #[.agg #[.int .i64 (W : Int), .int .i64 (H : Int), .slice (some ⟨g, 0, none⟩) (H * stride W) cap], .agg #[.int .i64 (V : Int), .int .i64 (U : Int), .slice (some ⟨gs, 0, none⟩) (U * stride V) caps], .int .i64 sx, .int .i64 sy, .int .i64 ww, .int .i64 hh, .int .i64 dx, .int .i64 dy, .int .i64 op] w fun e w' => e = .returned (.int .i64 er) ∧ RowAt w' g cap W H P' ∧ Fr (fun k => k = g) w w') := by
  unfold I64 at *
  by_cases hr : ww < 0 ∨ hh < 0
  · refine ⟨24, P, fun w b g cap bs gs caps hm _ _ => ?_, fun w g cap gs caps hw _ => ?_⟩
    · refine (blit_rect b bs sx sy ww hh dx dy op w hr).mono ?_
      rintro e' w' ⟨rfl, rfl⟩
      exact ⟨rfl, hm, Fr.refl _ _⟩
    · refine (rblit_rect W H V U _ _ sx sy ww hh dx dy op w ⟨_, _, _, rfl⟩ ⟨_, _, _, rfl⟩ hr).mono ?_
      rintro e' w' ⟨rfl, hf⟩
      exact ⟨rfl, hw.kept hf (fun h => h), hf.mono (fun _ _ h => h.elim)⟩
  by_cases ho : op < 0 ∨ 4 < op
  · refine ⟨25, P, fun w b g cap bs gs caps hm _ _ => ?_, fun w g cap gs caps hw _ => ?_⟩
    · refine (blit_op b bs sx sy ww hh dx dy op w (by omega) (by omega) ho).mono ?_
      rintro e' w' ⟨rfl, hf⟩
      exact ⟨rfl, hm.kept hf (fun h => h) (fun h => h), hf.mono (fun _ _ h => h.elim)⟩
    · refine (rblit_op W H V U _ _ sx sy ww hh dx dy op w ⟨_, _, _, rfl⟩ ⟨_, _, _, rfl⟩ (by omega) (by omega) ho).mono ?_
      rintro e' w' ⟨rfl, hf⟩
      exact ⟨rfl, hw.kept hf (fun h => h), hf.mono (fun _ _ h => h.elim)⟩
  obtain ⟨o, rfl⟩ : ∃ o : Nat, op = o := ⟨op.toNat, by omega⟩
  refine ⟨0, blitPix (opB o) P Ps V U sx sy ww hh dx dy, fun w b g cap bs gs caps hm hs hd => ?_, fun w g cap gs caps hw hs => ?_⟩
  · rcases hd with ⟨rfl, rfl, rfl, rfl, rfl, rfl⟩ | ⟨n1, n2, n3⟩
    · exact blit_self o bs gs caps V U Ps sx sy ww hh dx dy w hm (by omega) b1 b2 (by omega) (by omega) b5 b6
    · exact blit_other o b g cap W H bs gs caps V U P Ps sx sy ww hh dx dy w hm hs (by omega) n1 n2 n3 b1 b2 (by omega) (by omega) b5 b6
  · exact rblit_ok o (by omega) W H g cap P V U _ Ps sx sy ww hh dx dy w hw (hs.bm h4 h5 h6) h1 h2 h3 b1 b2 (by omega) (by omega) b5 b6

set_option maxHeartbeats 1000000 in
theorem crop_no (b : Nat) (x y ww hh : Int) (w : World) (hw : -9223372036854775808 ≤ ww ∧ ww ≤ 9223372036854775807) (hhh : -9223372036854775808 ≤ hh ∧ hh ≤ 9223372036854775807) (hs : sizeOK ww hh = false) :
    Calls Tryd.prog 51 #[.pointer (some ⟨b, 0, none⟩), .int .i64 x, .int .i64 y, .int .i64 ww, .int .i64 hh] w fun e w' => e = .returned (.tuple #[.pointer none, .int .i64 20]) ∧ Fr (fun _ => False) w w' := by
  have HN : Hid (∀ w' : World, Calls Tryd.prog 59 #[.int .i64 ww, .int .i64 hh] w' fun e w'' => e = .returned (.tuple #[.pointer none, .int .i64 20]) ∧ w'' = w') := fun w' => new_no ww hh w' hw hhh hs
  clear hw hhh hs
  go_enter Tryd.func51, Tryd.ntmps51
  go_wp2_with fail
  refine (HN.out _).mono ?_
  rintro e w1 ⟨rfl, rfl⟩
  go_wp2_with fail
  go_ret2
  exact ⟨rfl, Fr.refl _ _⟩

/-- A crop: both refuse, or both tell the same pixels. -/
theorem crop_both (W H : Nat) (P : Nat → Nat → Bool) (x y ww hh : Int) (h1 : 1 ≤ W) (h2 : 1 ≤ H) (h3 : W * H ≤ 1048576) (b1 : I64 x) (b2 : I64 y) (b3 : I64 ww) (b4 : I64 hh) :
    (sizeOK ww hh = false ∧ (∀ w b g cap, MapAt w b g cap W H P → Calls Tryd.prog 51 #[.pointer (some ⟨b, 0, none⟩), .int .i64 x, .int .i64 y, .int .i64 ww, .int .i64 hh] w fun e w' => e = .returned (.tuple #[.pointer none, .int .i64 20]) ∧ Fr (fun _ => False) w w') ∧
      (∀ w g cap, RowAt w g cap W H P → Calls Tryd.prog 52 #[.agg #[.int .i64 (W : Int), .int .i64 (H : Int), .slice (some ⟨g, 0, none⟩) (H * stride W) cap], .int .i64 x, .int .i64 y, .int .i64 ww, .int .i64 hh] w fun e w' => e = .returned (.tuple #[.agg #[.int .i64 0, .int .i64 0, .slice none 0 0], .int .i64 20]) ∧ Fr (fun _ => False) w w')) ∨
    (∃ V U : Nat, ww = V ∧ hh = U ∧ 1 ≤ V ∧ 1 ≤ U ∧ V * U ≤ 1048576 ∧
      (∀ w b g cap, MapAt w b g cap W H P → Calls Tryd.prog 51 #[.pointer (some ⟨b, 0, none⟩), .int .i64 x, .int .i64 y, .int .i64 ww, .int .i64 hh] w fun e w' => ∃ b g, e = .returned (.tuple #[.pointer (some ⟨b, 0, none⟩), .int .i64 0]) ∧ NewMap w w' b g (U * stride V) V U (cropPix W H P x y)) ∧
      (∀ w g cap, RowAt w g cap W H P → Calls Tryd.prog 52 #[.agg #[.int .i64 (W : Int), .int .i64 (H : Int), .slice (some ⟨g, 0, none⟩) (H * stride W) cap], .int .i64 x, .int .i64 y, .int .i64 ww, .int .i64 hh] w fun e w' => ∃ g, e = .returned (.tuple #[.agg #[.int .i64 (V : Int), .int .i64 (U : Int), .slice (some ⟨g, 0, none⟩) (U * stride V) (U * stride V)], .int .i64 0]) ∧ RowAt w' g (U * stride V) V U (cropPix W H P x y) ∧ Fr (fun _ => False) w w' ∧ w.heap.size ≤ g)) := by
  unfold I64 at *
  cases hs : sizeOK ww hh
  · exact Or.inl ⟨rfl, fun w b g cap _ => crop_no b x y ww hh w b3 b4 hs, fun w g cap hr => rcrop_no W H _ x y ww hh w ⟨_, _, _, rfl⟩ b3 b4 hs⟩
  · have hq : 1 ≤ ww ∧ 1 ≤ hh ∧ ww * hh ≤ 1048576 := by unfold sizeOK at hs; exact of_decide_eq_true hs
    obtain ⟨V, rfl⟩ : ∃ V : Nat, ww = V := ⟨ww.toNat, by omega⟩
    obtain ⟨U, rfl⟩ : ∃ U : Nat, hh = U := ⟨hh.toNat, by omega⟩
    have hv : V * U ≤ 1048576 := by
      have h := hq.2.2
      have e : ((V * U : Nat) : Int) = (V : Int) * (U : Int) := Int.natCast_mul V U
      rw [← e] at h
      omega
    refine Or.inr ⟨V, U, rfl, rfl, by omega, by omega, hv, fun w b g cap hm => crop_any b g cap W H P x y V U w hm (by omega) (by omega) hv b1 b2, fun w g cap hr => rcrop_ok W H _ P x y V U w (hr.seen (size_facts h1 h2 h3).2.2) h1 h2 h3 (by omega) (by omega) hv b1 b2⟩
end Go.Proofs.YtflhbmapikdmhaaDoor
