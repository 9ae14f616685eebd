/- 'Blit', by what 'move' does. -/
import Derived.Test.YtpblenebmjmijaaMove
namespace Go.Proofs.Ytpblenebmjmijaa
open Go.RowKit

/-- The function of an operation. -/
def opFn (k : Nat) : Nat := if k = 0 then 58 else if k = 1 then 59 else if k = 2 then 60 else if k = 3 then 61 else 62
def opsRow : Array Value := #[.int .i64 0, .func (.func 58) #[] #[], .int .i64 1, .func (.func 59) #[] #[], .int .i64 2, .func (.func 60) #[] #[], .int .i64 3, .func (.func 61) #[] #[], .int .i64 4, .func (.func 62) #[] #[]]
theorem opsRow_cells (w : World) (O : Nat) (h : w.heap[O]? = some (.cells opsRow 98 (0, 0))) (k : Nat) (hk : k ≤ 4) : w.cell? ⟨O, k * 2, none⟩ = some (.int .i64 k) ∧ w.cell? ⟨O, k * 2 + 1, none⟩ = some (.func (.func (opFn k)) #[] #[]) := by
  unfold World.cell?
  rw [h]
  rcases (show k = 0 ∨ k = 1 ∨ k = 2 ∨ k = 3 ∨ k = 4 from by omega) with rfl | rfl | rfl | rfl | rfl <;> exact ⟨rfl, rfl⟩

set_option maxRecDepth 100000 in
set_option maxHeartbeats 2000000 in
theorem blit_core (b g cap W H bs gs caps Ws Hs op : Nat) (P Ps : Nat → Nat → Bool) (sx sy ww hh dx dy : Int) (Post : World → Prop) (w : World) (h : MapAt w b g cap W H P) (hs : MapAt w bs gs caps Ws Hs Ps) (hop : op ≤ 4) (hbg : bs ≠ g)
    (b1 : -9223372036854775808 ≤ sx ∧ sx ≤ 9223372036854775807) (b2 : -9223372036854775808 ≤ sy ∧ sy ≤ 9223372036854775807) (b3 : 0 ≤ ww ∧ ww ≤ 9223372036854775807) (b4 : 0 ≤ hh ∧ hh ≤ 9223372036854775807) (b5 : -9223372036854775808 ≤ dx ∧ dx ≤ 9223372036854775807) (b6 : -9223372036854775808 ≤ dy ∧ dy ≤ 9223372036854775807)
    (hmv : ∀ (w' : World) (p1 q1 n1 p2 q2 n2 : Nat), Fr (fun _ => False) w w' → Clip sx Ws dx W ww p1 q1 n1 → Clip sy Hs dy H hh p2 q2 n2 → Calls Try.prog 51 #[.pointer (some ⟨b, 0, none⟩), .pointer (some ⟨bs, 0, none⟩), .agg #[.int .i64 p1, .int .i64 q1, .int .i64 n1], .agg #[.int .i64 p2, .int .i64 q2, .int .i64 n2], .agg #[.int .i64 op, .func (.func (opFn op)) #[] #[]]] w' fun e w'' => e = .returned (.tuple #[]) ∧ Post w'' ∧ Fr (fun k => k = g) w' w'') :
    Calls Try.prog 31 #[.pointer (some ⟨b, 0, none⟩), .pointer (some ⟨bs, 0, none⟩), .int .i64 sx, .int .i64 sy, .int .i64 ww, .int .i64 hh, .int .i64 dx, .int .i64 dy, .int .i64 op] w fun e w' => e = .returned (.int .i64 0) ∧ Post w' ∧ Fr (fun k => k = g) w w' := by
  have HMV : Hid (∀ (w' : World) (p1 q1 n1 p2 q2 n2 : Nat), Fr (fun _ => False) w w' → Clip sx Ws dx W ww p1 q1 n1 → Clip sy Hs dy H hh p2 q2 n2 → Calls Try.prog 51 #[.pointer (some ⟨b, 0, none⟩), .pointer (some ⟨bs, 0, none⟩), .agg #[.int .i64 p1, .int .i64 q1, .int .i64 n1], .agg #[.int .i64 p2, .int .i64 q2, .int .i64 n2], .agg #[.int .i64 op, .func (.func (opFn op)) #[] #[]]] w' fun e w'' => e = .returned (.tuple #[]) ∧ Post w'' ∧ Fr (fun k => k = g) w' w'') := hmv
  obtain ⟨s1, s2, s3⟩ := size_facts h.wpos h.hpos h.area
  obtain ⟨t1, t2, t3⟩ := size_facts hs.wpos hs.hpos hs.area
  have HC1 : Hid (∀ w', Calls Try.prog 49 #[.int .i64 sx, .int .i64 Ws, .int .i64 dx, .int .i64 W, .int .i64 ww] w' fun e w'' => ∃ a b c, e = .returned (.agg #[.int .i64 (a : Nat), .int .i64 (b : Nat), .int .i64 (c : Nat)]) ∧ Clip sx Ws dx W ww a b c ∧ Fr (fun _ => False) w' w'') := fun w' => clip_any sx dx ww Ws W w' b1 b5 b3 t1 s1
  have HC2 : Hid (∀ w', Calls Try.prog 49 #[.int .i64 sy, .int .i64 Hs, .int .i64 dy, .int .i64 H, .int .i64 hh] w' fun e w'' => ∃ a b c, e = .returned (.agg #[.int .i64 (a : Nat), .int .i64 (b : Nat), .int .i64 (c : Nat)]) ∧ Clip sy Hs dy H hh a b c ∧ Fr (fun _ => False) w' w'') := fun w' => clip_any sy dy hh Hs H w' b2 b6 b4 t2 s2
  have HCD : Hid (∀ w', Fr (fun k => k = g) w w' → w'.cell? ⟨b, 0, none⟩ = some (.int .i64 W) ∧ w'.cell? ⟨b, 1, none⟩ = some (.int .i64 H) ∧ w'.cell? ⟨bs, 0, none⟩ = some (.int .i64 Ws) ∧ w'.cell? ⟨bs, 1, none⟩ = some (.int .i64 Hs)) := fun w' hf => by
    obtain ⟨c0, c1, _⟩ := cell_of_four h.blk
    obtain ⟨d0, d1, _⟩ := cell_of_four hs.blk
    have hn := h.ne
    refine ⟨?_, ?_, ?_, ?_⟩
    · rw [hf.cell h.lt (fun e => hn e.symm)]; exact c0
    · rw [hf.cell h.lt (fun e => hn e.symm)]; exact c1
    · rw [hf.cell hs.lt hbg]; exact d0
    · rw [hf.cell hs.lt hbg]; exact d1
  have hsf : ∀ (w : World) (a : Addr) (m : Mode) (fn : Fn) (x y : Array Value), (store a (.func fn x y) m).run Try.prog w = stored Try.prog w a (.func fn x y) m := fun w a m fn x y => run_store _ w a _ m rfl
  have hgl := h.glt
  clear h hs hmv s1 s2 s3 t1 t2 t3 b1 b2 b5 b6
  go_enter Try.func31, Try.ntmps31
  go_wp2_with fail
  refine (operations_any _).mono ?_
  rintro e w1 ⟨rfl, hw1⟩
  have HO : Hid (w1.heap[w.heap.size]? = some (.cells opsRow 98 (0, 0))) := by show _ = _; rw [hw1]; exact heap_alloc_new _ _
  have HF1 : Hid (Fr (fun _ => False) w w1) := by rw [hw1]; exact (Fr.refl _ _).alloc _
  have hsz : w.heap.size < w1.heap.size := by rw [hw1]; simp
  clear hw1
  go_wp2_with fail
  go_loopw [31] (fun i wr => ∃ k : Nat, k ≤ op ∧ i = .int .i64 k ∧ Fr (fun _ => False) w1 wr) (fun i _ => op + 1 - (intOf i).toNat)
  case atStart => exact ⟨0, Nat.zero_le _, rfl, Fr.refl _ _⟩
  case round =>
    obtain ⟨k, hk, rfl, hfr⟩ := hrel
    have HF : Hid (Fr (fun _ => False) w1 wr) := hfr
    obtain ⟨c0, c1⟩ := opsRow_cells wr w.heap.size (by rw [hfr.block _ hsz (fun x => x)]; exact HO.out) k (by omega)
    clear hfr
    by_cases hko : k = op
    · have hkq : ((k : Int) == (op : Int)) = true := by simp [hko]
      have HKO : Hid (k = op) := hko
      clear hko
      obtain ⟨wx, hwx⟩ : ∃ wx, wx = wr.alloc (.cells #[.int .i64 k, .func (.func (opFn k)) #[] #[]] 98) := ⟨_, rfl⟩
      have HFX : Hid (Fr (fun _ => False) w wx) := by rw [hwx]; exact (HF1.out.trans HF.out (fun _ _ hh => hh)).alloc _
      have HKX : Hid (∀ w', Fr (fun k => k = g) (wr.alloc (.cells #[.int .i64 k, .func (.func (opFn k)) #[] #[]] 98)) w' → w'.cell? ⟨bs, 0, none⟩ = some (.int .i64 Ws) ∧ w'.cell? ⟨b, 0, none⟩ = some (.int .i64 W) ∧ w'.cell? ⟨bs, 1, none⟩ = some (.int .i64 Hs) ∧ w'.cell? ⟨b, 1, none⟩ = some (.int .i64 H) ∧ w'.cell? ⟨wr.heap.size, 0, none⟩ = some (.int .i64 k) ∧ w'.cell? ⟨wr.heap.size, 1, none⟩ = some (.func (.func (opFn k)) #[] #[])) := fun w' hf => by
        obtain ⟨a1, a2, a3, a4⟩ := HCD.out w' ((HFX.out.mono (fun _ _ hh => hh.elim)).trans (hwx ▸ hf) (fun _ _ hh => hh))
        have hbk : w'.heap[wr.heap.size]? = some (.cells #[.int .i64 k, .func (.func (opFn k)) #[] #[]] 98 (0, 0)) := by
          rw [hf.block _ (by simp) (by have := HF.out.size; omega)]; exact heap_alloc_new _ _
        refine ⟨a3, a1, a4, a2, ?_, ?_⟩ <;> (unfold World.cell?; rw [hbk]; rfl)
      have HMV2 : Hid (∀ (w' : World) (p1 q1 n1 p2 q2 n2 : Nat), Fr (fun _ => False) (wr.alloc (.cells #[.int .i64 k, .func (.func (opFn k)) #[] #[]] 98)) w' → Clip sx Ws dx W ww p1 q1 n1 → Clip sy Hs dy H hh p2 q2 n2 → Calls Try.prog 51 #[.pointer (some ⟨b, 0, none⟩), .pointer (some ⟨bs, 0, none⟩), .agg #[.int .i64 p1, .int .i64 q1, .int .i64 n1], .agg #[.int .i64 p2, .int .i64 q2, .int .i64 n2], .agg #[.int .i64 k, .func (.func (opFn k)) #[] #[]]] w' fun e w'' => e = .returned (.tuple #[]) ∧ Post w'' ∧ Fr (fun k => k = g) w' w'') := fun w' p1 q1 n1 p2 q2 n2 hf c1 c2 => by
        rw [HKO.out]
        exact HMV.out w' p1 q1 n1 p2 q2 n2 (HFX.out.trans (hwx ▸ hf) (fun _ _ hh => hh)) c1 c2
      clear hwx HMV HCD HFX
      go_wp2_with fail
      clear c0 c1 hsf
      go_region_held3 (fun w' => w'.cell? ⟨bs, 0, none⟩ = some (.int .i64 Ws) ∧ w'.cell? ⟨b, 0, none⟩ = some (.int .i64 W) ∧ w'.cell? ⟨bs, 1, none⟩ = some (.int .i64 Hs) ∧ w'.cell? ⟨b, 1, none⟩ = some (.int .i64 H) ∧ w'.cell? ⟨wr.heap.size, 0, none⟩ = some (.int .i64 k) ∧ w'.cell? ⟨wr.heap.size, 1, none⟩ = some (.func (.func (opFn k)) #[] #[])) (first | exact HKX.out _ ((Fr.refl _ _).drew) | exact HKX.out _ (((Fr.refl _ _).drew).trans hf4 (fun _ _ hh => hh.elim)) | exact HKX.out _ ((((Fr.refl _ _).drew).trans hf4 (fun _ _ hh => hh.elim)).trans hf5 (fun _ _ hh => hh.elim)) | exact HKX.out _ (((((Fr.refl _ _).drew).trans hf4 (fun _ _ hh => hh.elim)).trans hf5 (fun _ _ hh => hh.elim)).trans hf6 (fun _ _ hh => hh))) (first | (go_at_call 49; (have _ := hf4); refine (HC2.out _).mono ?_; rintro e w5 ⟨p2, q2, n2, rfl, hc2, hf5⟩) | (go_at_call 49; refine (HC1.out _).mono ?_; rintro e w4 ⟨p1, q1, n1, rfl, hc1, hf4⟩) | (go_at_call 51; refine (HMV2.out _ p1 q1 n1 p2 q2 n2 ?_ hc1 hc2).mono ?_; (exact (((Fr.refl _ _).drew).trans hf4 (fun _ _ hh => hh)).trans hf5 (fun _ _ hh => hh)); rintro e w6 ⟨rfl, hpost, hf6⟩))
      have HPO : Hid (Post w6) := hpost
      have HFZ : Hid (Fr (fun k => k = g) w w6) := ((((((HF1.out.trans HF.out (fun _ _ hh => hh)).alloc _).drew).trans hf4 (fun _ _ hh => hh)).trans hf5 (fun _ _ hh => hh)).mono (fun _ _ hh => hh.elim)).trans hf6 (fun _ _ hh => hh)
      clear hpost hf6 hf5 hf4
      go_wp2_with fail
      go_ret
      exact ⟨rfl, HPO.out, HFZ.out⟩
    · have hkq : ((k : Int) == (op : Int)) = false := by simp; omega
      go_wp2_with fail
      go_roundw
      case rel => exact ⟨k + 1, by omega, congrArg (Value.int .i64) (by omega), HF.out.alloc _⟩
      case measure => simp [intOf]; omega

end Go.Proofs.Ytpblenebmjmijaa
