/- The reader of a pbm file: what is no number; the mark. -/
import Derived.Test.YtpfajkkjnobdlaaDoorRb
import Derived.Test.YtpfajkkjnobdlaaDoorLs
namespace Go.Proofs.YtpfajkkjnobdlaaDoor
set_option maxRecDepth 100000
open Go.RowKit

set_option maxHeartbeats 3000000 in
theorem number_no (bs : Nat) (ao : Option Addr) (cap : Nat) (l : List Nat) (a : Nat) (w : World) (h : SR w bs ao cap l a) (hn : numberS (l.drop a) = none) :
    Calls Tryd.prog 45 #[.pointer (some ⟨bs, 0, none⟩)] w (Pan 30 (fun k => k = bs) w) := by
  have HS : Hid (SR w bs ao cap l a) := h
  have HN : Hid (numberS (l.drop a) = none) := hn
  obtain ⟨c0, c1, cf⟩ := cell_of_two h.blk
  have hle := h.le
  have hlim := h.lim
  clear h hn
  go_enter Tryd.func45, Tryd.ntmps45
  go_wp2_with fail
  go_step3
  go_wp2_with fail
  go_quiet (fail)
  go_wp2_with fail
  refine (gap_any bs ao cap l a _ (HS.out.drewN _)).mono ?_
  rintro e v ⟨rfl, a1, hs1, hd1, hf1⟩
  have HS1 : Hid (SR v bs ao cap l a1) := hs1
  have HF1 : Hid (Fr (fun k => k = bs) w v) := ((Fr.refl (fun k => k = bs) w).drewN _).trans hf1 (fun _ _ h => h)
  have hq : a1 = a ∨ (a1 ≠ a ∧ digitI (lookV l a1) = false) := by
    by_cases e : a1 = a
    · exact Or.inl e
    · refine Or.inr ⟨e, ?_⟩
      have h1 := HN.out
      unfold numberS at h1
      rw [← hd1, if_neg (by rw [drop_same hs1.le hle]; exact e), first_look] at h1
      split at h1
      · cases h1
      · rename_i h2; simpa using h2
  clear c0 c1 cf hs1 hf1
  obtain ⟨c0, c1, cf⟩ := cell_of_two HS1.out.blk
  rcases hq with rfl | ⟨hne, hdg⟩
  · go_wp2_with fail
    exact ⟨rfl, rfl, HF1.out⟩
  · have hnb : ((a1 : Int) == (a : Int)) = false := by simp; omega
    go_wp2_with fail
    refine (look_any bs ao cap l a1 v HS1.out).mono ?_
    rintro e v1 ⟨rfl, q, rfl⟩
    have HF2 : Hid (Fr (fun k => k = bs) w (v.drewN q)) := HF1.out.drewN q
    generalize v.drewN q = v2 at *
    go_wp2_with fail
    refine (isDigit_any _ _).mono ?_
    rintro e v1 ⟨rfl, rfl⟩
    rw [hdg]
    go_wp2_with fail
    exact ⟨rfl, rfl, HF2.out⟩

theorem bytesIn_of {w : World} {ao : Option Addr} {l : List Nat} (h : l ≠ [] → ∃ b off, ao = some ⟨b, off, none⟩ ∧ ∀ j, j < l.length → w.cell? ⟨b, off + j, none⟩ = some (.int .u8 (l[j]?.getD 0 : Nat))) :
    Lib.BytesIn w ao l.length (l.map fun (x : Nat) => (x : Int)) := by
  intro hn
  obtain ⟨b, off, e, hc⟩ := h (List.length_pos_iff.1 hn)
  refine ⟨b, off, e, fun i hi => ?_⟩
  rw [hc i hi, List.getD_eq_getElem?_getD, List.getElem?_map, List.getElem?_eq_getElem hi]
  rfl
def pref2 (x y : Nat) (l : List Nat) : Bool := match l with
  | a :: b :: _ => decide (a = x) && decide (b = y)
  | _ => false
theorem u8_ofNat {a b : Nat} (ha : a < 256) (hb : b < 256) : (UInt8.ofNat a == UInt8.ofNat b) = decide (a = b) := by
  rw [Bool.eq_iff_iff]
  simp only [beq_iff_eq, decide_eq_true_eq]
  constructor
  · intro h
    have := congrArg UInt8.toNat h
    simp at this
    omega
  · rintro rfl; rfl
theorem pref2_lib {l : List Nat} (hb : ∀ x ∈ l, x < 256) {x y : Nat} (hx : x < 256) (hy : y < 256) : Lib.hasPrefix (Lib.bytesOf (l.map fun (x : Nat) => (x : Int))) (Lib.bytesOf [(x : Int), (y : Int)]) = pref2 x y l := by
  unfold Lib.hasPrefix Lib.bytesOf pref2
  match l with
  | [] => rfl
  | [a] => simp [List.isPrefixOf]
  | a :: b :: r =>
    have ha := hb a (by simp)
    have hb' := hb b (by simp)
    have e1 := u8_ofNat hx ha
    have e2 := u8_ofNat hy hb'
    simp only [List.map_cons, List.map_nil, List.isPrefixOf, Int.toNat_natCast, Bool.and_true]
    rw [e1, e2]
    rw [Bool.eq_iff_iff]; simp; omega
theorem pref_any (ao : Option Addr) (cap : Nat) (l : List Nat) (w : World) (g d x y : Nat) (hx : x < 256) (hy : y < 256) (hb : ∀ x ∈ l, x < 256) (hcap : l.length ≤ cap)
    (hs : l ≠ [] → ∃ b off, ao = some ⟨b, off, none⟩ ∧ ∀ j, j < l.length → w.cell? ⟨b, off + j, none⟩ = some (.int .u8 (l[j]?.getD 0 : Nat)))
    (h0 : w.cell? ⟨g, 0, none⟩ = some (.int .u8 x)) (h1 : w.cell? ⟨g, 1, none⟩ = some (.int .u8 y)) :
    Calls Tryd.prog 60 #[.slice ao l.length cap, .slice (some ⟨g, 0, none⟩) 2 d] w fun e w' => e = .returned (.bool (pref2 x y l)) ∧ w' = w := by
  rw [← pref2_lib hb hx hy]
  refine Any.bytes_HasPrefix_all Tryd.prefL ao _ l.length cap 2 d _ [(x : Int), (y : Int)] w (by simp) rfl hcap (bytesIn_of hs) (fun _ => ⟨g, 0, rfl, fun i hi => ?_⟩)
  rcases (by omega : i = 0 ∨ i = 1) with rfl | rfl
  · simpa using h0
  · simpa using h1

theorem pref2_true {x y : Nat} {l : List Nat} (h : pref2 x y l = true) : ∃ r, l = x :: y :: r := by
  unfold pref2 at h
  split at h
  · simp at h
    obtain ⟨rfl, rfl⟩ := h
    exact ⟨_, rfl⟩
  · cases h
theorem pref_new (ao : Option Addr) (cap : Nat) (l : List Nat) (w : World) (c d : Nat) (m : Nat × Nat) (x y : UInt8) (hb : ∀ x ∈ l, x < 256) (hcap : l.length ≤ cap)
    (hs : l ≠ [] → ∃ b off, ao = some ⟨b, off, none⟩ ∧ ∀ j, j < l.length → w.cell? ⟨b, off + j, none⟩ = some (.int .u8 (l[j]?.getD 0 : Nat))) :
    Calls Tryd.prog 60 #[.slice ao l.length cap, .slice (some ⟨w.heap.size, 0, none⟩) 2 d] ((w.alloc (.cells (bytesRow { data := #[x, y] } c) 5 m)).drew) fun e w' => e = .returned (.bool (pref2 x.toNat y.toNat l)) ∧ Fr (fun _ => False) w w' := by
  have hf : Fr (fun _ => False) w ((w.alloc (.cells (bytesRow { data := #[x, y] } c) 5 m)).drew) := ((Fr.refl _ w).alloc _).drew
  have hB : ((w.alloc (.cells (bytesRow { data := #[x, y] } c) 5 m)).drew).heap[w.heap.size]? = some (.cells (bytesRow { data := #[x, y] } c) 5 m) := heap_alloc_new _ _
  refine (pref_any ao cap l _ w.heap.size d x.toNat y.toNat x.toNat_lt y.toNat_lt hb hcap (fun hn => ?_) ?_ ?_).mono ?_
  · obtain ⟨b, off, e, hc⟩ := hs hn
    exact ⟨b, off, e, fun j hj => hf.cellv (hc j hj) (fun h => h)⟩
  · rw [World.cell?, hB]; simp only [bytesRow, List.map_toArray, List.map_cons, List.map_nil]; rw [Array.getElem?_append_left (by simp)]; rfl
  · rw [World.cell?, hB]; simp only [bytesRow, List.map_toArray, List.map_cons, List.map_nil]; rw [Array.getElem?_append_left (by simp)]; rfl
  · rintro e w' ⟨rfl, rfl⟩
    exact ⟨rfl, hf⟩

set_option maxHeartbeats 3000000 in
theorem mark_any (bs : Nat) (ao : Option Addr) (cap : Nat) (l : List Nat) (w : World) (h : SR w bs ao cap l 0) (hcap : l.length ≤ cap) :
    Calls Tryd.prog 44 #[.pointer (some ⟨bs, 0, none⟩)] w fun e w' => Fr (fun k => k = bs) w w' ∧
      ((∃ r, l = 80 :: 49 :: r ∧ e = .returned (.string { data := #[80, 49] }) ∧ SR w' bs ao cap l 2) ∨
       (∃ r, l = 80 :: 52 :: r ∧ e = .returned (.string { data := #[80, 52] }) ∧ SR w' bs ao cap l 2) ∨
       ((∀ r, l ≠ 80 :: 49 :: r) ∧ (∀ r, l ≠ 80 :: 52 :: r) ∧ e = .panicked [{ v := .iface 28 (.int .i64 30), recovered := false }])) := by
  have HS : Hid (SR w bs ao cap l 0) := h
  have HC : Hid (l.length ≤ cap) := hcap
  clear h hcap
  go_enter Tryd.func44, Tryd.ntmps44
  go_wp2_with fail
  have HF1 : Hid (Fr (fun k => k = bs) w (w.alloc (.cells #[.string { data := #[80, 49] }, .string { data := #[80, 52] }] 9))) := (Fr.refl _ w).alloc _
  have HS1 : Hid (SR (w.alloc (.cells #[.string { data := #[80, 49] }, .string { data := #[80, 52] }] 9)) bs ao cap l 0) := HS.out.kept ((Fr.refl (fun _ => False) w).alloc _) (fun h => h) (fun _ _ _ _ h => h)
  have hB : (w.alloc (.cells #[.string { data := #[80, 49] }, .string { data := #[80, 52] }] 9)).heap[w.heap.size]? = some (.cells #[.string { data := #[80, 49] }, .string { data := #[80, 52] }] 9 (0, 0)) := heap_alloc_new _ _
  generalize (w.alloc (.cells #[.string { data := #[80, 49] }, .string { data := #[80, 52] }] 9)) = w1 at *
  obtain ⟨s0, s1, _⟩ := cell_of_two hB
  obtain ⟨c0, c1, cf⟩ := cell_of_two HS1.out.blk
  clear hB
  generalize w.heap.size = B at *
  have kc := fun (w : World) (s : ByteArray) => run_bytes_of_string (P := Tryd.prog) w 9 27 5 s Tryd.underlying9 Tryd.underlying27 Tryd.underlying5
  refine wp_loop_rounds 3 ?_
  rw [rounds_succ]
  go_wp2_with fail
  refine (pref_new ao cap l w1 _ _ _ 80 49 HS1.out.byt HC.out HS1.out.seen).mono ?_
  rintro e w2 ⟨rfl, hf2⟩
  have HS2 : Hid (SR w2 bs ao cap l 0) := HS1.out.kept hf2 (fun h => h) (fun _ _ _ _ h => h)
  have HF2 : Hid (Fr (fun k => k = bs) w w2) := HF1.out.trans hf2 (fun _ _ h => h.elim)
  have t1 : w2.cell? ⟨B, 1, none⟩ = some (.string { data := #[80, 52] }) := hf2.cellv s1 (fun h => h)
  clear s0 s1 c0 c1 cf HS1 HF1 hf2
  obtain ⟨c0, c1, cf⟩ := cell_of_two HS2.out.blk
  cases hp : pref2 (UInt8.toNat 80) (UInt8.toNat 49) l
  · go_wp2_with fail
    rw [rounds_succ]
    go_wp2_with fail
    refine (pref_new ao cap l w2 _ _ _ 80 52 HS2.out.byt HC.out HS2.out.seen).mono ?_
    rintro e w3 ⟨rfl, hf3⟩
    have HS3 : Hid (SR w3 bs ao cap l 0) := HS2.out.kept hf3 (fun h => h) (fun _ _ _ _ h => h)
    have HF3 : Hid (Fr (fun k => k = bs) w w3) := HF2.out.trans hf3 (fun _ _ h => h.elim)
    clear t1 c0 c1 cf HS2 HF2 hf3
    obtain ⟨c0, c1, cf⟩ := cell_of_two HS3.out.blk
    cases hp2 : pref2 (UInt8.toNat 80) (UInt8.toNat 52) l
    · go_wp2_with fail
      rw [rounds_succ]
      go_wp2_with fail
      refine ⟨rfl, HF3.out, Or.inr (Or.inr ⟨?_, ?_, rfl⟩)⟩
      · rintro r rfl; cases hp
      · rintro r rfl; cases hp2
    · have HM : Hid (∃ r, l = 80 :: 52 :: r) := pref2_true hp2
      have HLN : Hid (2 ≤ l.length) := by obtain ⟨r, hr⟩ := HM.out; show _ ≤ _; rw [hr]; simp
      go_wp2_with fail
      go_ret
      obtain ⟨r, hr⟩ := HM.out
      exact ⟨HF3.out.setCell (fun _ => rfl) _, Or.inr (Or.inl ⟨r, hr, rfl, HS3.out.moved rfl HLN.out⟩)⟩
  · have HM : Hid (∃ r, l = 80 :: 49 :: r) := pref2_true hp
    have HLN : Hid (2 ≤ l.length) := by obtain ⟨r, hr⟩ := HM.out; show _ ≤ _; rw [hr]; simp
    go_wp2_with fail
    go_ret
    obtain ⟨r, hr⟩ := HM.out
    exact ⟨HF2.out.setCell (fun _ => rfl) _, Or.inl ⟨r, hr, rfl, HS2.out.moved rfl HLN.out⟩⟩
end Go.Proofs.YtpfajkkjnobdlaaDoor
