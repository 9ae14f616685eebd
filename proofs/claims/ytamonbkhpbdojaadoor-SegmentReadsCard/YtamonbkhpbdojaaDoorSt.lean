/- Segments' headers: what Check takes; Encode. -/
import Derived.Test.YtamonbkhpbdojaaDoorSq
import Derived.Test.YtamonbkhpbdojaaDoorSs
namespace Go.Proofs.YtamonbkhpbdojaaDoor
set_option maxRecDepth 100000
open Go.RowKit

def toSeg (s : SgX) : Seg := ⟨s.num.toNat, s.kind.toNat, s.page.toNat, s.refs.map Int.toNat, s.keep, s.stay⟩

theorem risB_nat (last : Int) (hl : -1 ≤ last) : ∀ (l : List Int) (m : Nat), risB last l m = true → (l.map Int.toNat).map (fun (n : Nat) => (n : Int)) = l ∧ risN last.toNat (l.map Int.toNat) m = true
  | [], _, _ => ⟨rfl, rfl⟩
  | r :: t, m, h => by
    simp only [risB, Bool.and_eq_true, decide_eq_true_eq] at h
    obtain ⟨⟨h1, h2⟩, h3⟩ := h
    have e : ((r.toNat : Nat) : Int) = r := by omega
    obtain ⟨i1, i2⟩ := risB_nat last hl t (r.toNat + 1) (by rw [show ((r.toNat + 1 : Nat) : Int) = r + 1 by omega]; exact h3)
    refine ⟨by simp only [List.map_cons, i1, e], ?_⟩
    simp only [List.map_cons, risN, Bool.and_eq_true, decide_eq_true_eq]
    exact ⟨⟨by omega, by omega⟩, i2⟩
theorem risN_int (last : Nat) : ∀ (l : List Nat) (m : Nat), risN last l m = true → risB (last : Int) (l.map fun (n : Nat) => (n : Int)) m = true
  | [], _, _ => rfl
  | r :: t, m, h => by
    simp only [risN, Bool.and_eq_true, decide_eq_true_eq] at h
    obtain ⟨⟨h1, h2⟩, h3⟩ := h
    have := risN_int last t (r + 1) h3
    simp only [List.map_cons, risB, Bool.and_eq_true, decide_eq_true_eq]
    exact ⟨⟨by omega, by omega⟩, by rw [show ((r : Int) + 1) = ((r + 1 : Nat) : Int) by omega]; exact this⟩
theorem mostR_nat (r : Bool) (n : Nat) : mostR r (n : Int) = (mostN r n : Nat) := by unfold mostR mostN; split <;> rfl

theorem chk_seg {s : SgX} (h : chk s = true) : ofSeg (toSeg s) s.data = s ∧ OkS (toSeg s) s.data.length := by
  simp only [chk, chkA, chkB, chk1, chk2, chk3, chk4, chk5, chk6, Bool.and_eq_true, decide_eq_true_eq, beq_iff_eq] at h
  obtain ⟨⟨a1, a2⟩, ⟨b1, b2⟩, ⟨c1, c2⟩, d, e, f, g, i⟩ := h
  obtain ⟨r1, r2⟩ := risB_nat (s.num - 1) (by omega) s.refs 0 e
  obtain ⟨N, K, P, Rs, Ks, st, D⟩ := s
  simp only at *
  have hN : ((N.toNat : Nat) : Int) = N := by omega
  have hK : ((K.toNat : Nat) : Int) = K := by omega
  have hP : ((P.toNat : Nat) : Int) = P := by omega
  refine ⟨by simp only [ofSeg, toSeg, hN, hK, hP, r1], ?_⟩
  rw [← hN, mostR_nat] at d
  refine ⟨by simp only [toSeg]; omega, by simp only [toSeg]; omega, by simp only [toSeg]; omega, by simp only [toSeg]; omega, by simp only [toSeg]; omega, ?_, ?_, ?_, g, by simp only [toSeg]; omega⟩
  · simp only [toSeg, List.length_map]; omega
  · simp only [toSeg]
    rw [show N.toNat - 1 = (N - 1).toNat by omega]; exact r2
  · simp only [toSeg, List.length_map]; exact f
theorem ok_chk {s : Seg} {D : List Nat} (h : OkS s D.length) : chk (ofSeg s D) = true := by
  have b1 := h.num
  have b2 := h.k1
  have b3 := h.k2
  have b4 := h.p1
  have b5 := h.p2
  have b6 := h.many
  have b7 := h.rise
  have b8 := h.keep
  have b9 := h.stay
  have b10 := h.data
  obtain ⟨N, K, P, Rs, Ks, st⟩ := s
  simp only [ofSeg] at *
  simp only [chk, chkA, chkB, chk1, chk2, chk3, chk4, chk5, chk6, Bool.and_eq_true, decide_eq_true_eq, beq_iff_eq, Int.toNat_natCast, List.length_map]
  refine ⟨⟨by omega, by omega⟩, ⟨by omega, by omega⟩, ⟨by omega, by omega⟩, ?_, ?_, b8, b9, by omega⟩
  · rw [mostR_nat]; omega
  · rcases Nat.eq_zero_or_pos N with e | e
    · have hz : Rs = [] := by
        have : mostN (rRef K) N ≤ N := mostN_le _ _
        exact List.eq_nil_of_length_eq_zero (by omega)
      subst hz; rfl
    · have := risN_int (N - 1) Rs 0 b7
      rw [show ((N - 1 : Nat) : Int) = (N : Int) - 1 by omega] at this
      exact this

/-- What Encode answers: a header, or the refusal. -/
def EncP (w : World) (s : SgX) (e : Ending) (w' : World) : Prop :=
  Fr (fun _ => False) w w' ∧ ((chk s = true ∧ ∃ rv, e = .returned (.tuple #[rv, .int .i64 0]) ∧ BytesAt w' w.heap.size rv (hdrB (toSeg s) s.data.length)) ∨ (chk s = false ∧ e = .returned (.tuple #[.slice none 0 0, .int .i64 161])))

set_option maxHeartbeats 2000000 in
theorem encode_any (s : SgX) (vr vk vd : Value) (w : World) (h : SgAt w s vr vk vd) (hr : RulesAt w) :
    Calls Tryd.prog 8 #[sgV s vr vk vd] w (EncP w s) := by
  have HCK : Hid (∀ w', Fr (fun _ => False) w w' → Calls Tryd.prog 10 #[sgV s vr vk vd] w' fun e w'' => e = .returned (.bool (chk s)) ∧ Fr (fun _ => False) w' w'') := fun w' f => check_any s vr vk vd w' (h.kept f) (hr.kept f (fun h => h))
  have HHD : Hid (chk s = true → ∀ w', Fr (fun _ => False) w w' → Calls Tryd.prog 21 #[sgV s vr vk vd] w' (HdrP w' (toSeg s) s.data.length)) := fun hc w' f => by
    obtain ⟨e1, ok⟩ := chk_seg hc
    have := header_any (toSeg s) s.data vr vk vd w' (by rw [e1]; exact h.kept f) ok
    rwa [e1] at this
  obtain ⟨ao1, c1, rfl⟩ := h.refs.slice
  obtain ⟨ao2, c2, rfl⟩ := h.keep.slice
  obtain ⟨ao3, c3, rfl⟩ := h.data.slice
  obtain ⟨N, K, P, Rs, Ks, st, D⟩ := s
  clear h hr
  rw [length_iCells, length_boolCells, length_byteCells] at *
  unfold EncP
  generalize chk ⟨N, K, P, Rs, Ks, st, D⟩ = b at *
  generalize toSeg ⟨N, K, P, Rs, Ks, st, D⟩ = sg at *
  simp only [sgV] at *
  generalize Rs.length = nr at *
  generalize Ks.length = nk at *
  generalize D.length = nd at *
  cases b
  · clear HHD
    go_enter Tryd.func8, Tryd.ntmps8
    go_wp2_with fail
    refine (HCK.out _ ((Fr.refl _ _).alloc _)).mono ?_
    rintro e w1 ⟨rfl, hf1⟩
    have HF1 : Hid (Fr (fun _ => False) w w1) := ((Fr.refl _ _).alloc _).trans hf1 (fun _ _ h => h)
    clear hf1
    go_wp2_with fail
    go_ret2
    exact ⟨HF1.out, Or.inr ⟨(by first | rfl | trivial), rfl⟩⟩
  · have HN : Hid ((w.alloc (.cells #[.int .i64 N, .int .i64 K, .int .i64 P, .slice ao1 nr c1, .slice ao2 nk c2, .bool st, .slice ao3 nd c3] 27)).heap[w.heap.size]? = some (.cells #[.int .i64 N, .int .i64 K, .int .i64 P, .slice ao1 nr c1, .slice ao2 nk c2, .bool st, .slice ao3 nd c3] 27 (0, 0))) := heap_alloc_new w _
    go_enter Tryd.func8, Tryd.ntmps8
    go_wp2_with fail
    refine (HCK.out _ ((Fr.refl _ _).alloc _)).mono ?_
    rintro e w1 ⟨rfl, hf1⟩
    have HF1 : Hid (Fr (fun _ => False) w w1) := ((Fr.refl _ _).alloc _).trans hf1 (fun _ _ h => h)
    have y := (hf1.block w.heap.size (lt_of_block HN.out) (fun h => h)).trans HN.out
    have q0 : w1.cell? ⟨w.heap.size, 0, none⟩ = some (.int .i64 N) := by simp [World.cell?, y]
    have q1 : w1.cell? ⟨w.heap.size, 1, none⟩ = some (.int .i64 K) := by simp [World.cell?, y]
    have q2 : w1.cell? ⟨w.heap.size, 2, none⟩ = some (.int .i64 P) := by simp [World.cell?, y]
    have q3 : w1.cell? ⟨w.heap.size, 3, none⟩ = some (.slice ao1 nr c1) := by simp [World.cell?, y]
    have q4 : w1.cell? ⟨w.heap.size, 4, none⟩ = some (.slice ao2 nk c2) := by simp [World.cell?, y]
    have q5 : w1.cell? ⟨w.heap.size, 5, none⟩ = some (.bool st) := by simp [World.cell?, y]
    have q6 : w1.cell? ⟨w.heap.size, 6, none⟩ = some (.slice ao3 nd c3) := by simp [World.cell?, y]
    clear hf1 y
    go_wp2_with fail
    refine (HHD.out (by first | rfl | trivial) _ HF1.out).mono ?_
    rintro e w2 ⟨rv, rfl, hby, hf2⟩
    have HBY : Hid (BytesAt w2 w1.heap.size rv (hdrB sg nd)) := hby
    have HF2 : Hid (Fr (fun _ => False) w w2) := HF1.out.trans hf2 (fun _ _ h => h)
    clear hby hf2 q0 q1 q2 q3 q4 q5 q6
    go_wp2_with fail
    go_ret2
    exact ⟨HF2.out, Or.inl ⟨(by first | rfl | trivial), rv, rfl, ownsRow_base HBY.out (fun k e => by have := (HBY.out.lt k e).1; have := HF1.out.size; omega)⟩⟩
end Go.Proofs.YtamonbkhpbdojaaDoor
