/- Segments' headers: what may be; the header is written. -/
import Derived.Test.YtamonbkhpbdojaaDoorSp
import Derived.Test.YtamonbkhpbdojaaDoorWakes
namespace Go.Proofs.YtamonbkhpbdojaaDoor
set_option maxRecDepth 100000
open Go.RowKit

theorem byteAt_shift (a b : List Bool) (h : a.length % 8 = 0) (j : Nat) : byteAt (a ++ b) (a.length / 8 + j) = byteAt b j := by
  unfold byteAt
  refine byteF_congr _ _ (fun k hk => ?_)
  rw [bit_append, if_neg (by omega)]; congr 1; omega
theorem pack_app8 (a b : List Bool) (h : a.length % 8 = 0) : pack (a ++ b) = pack a ++ pack b := by
  unfold pack
  rw [List.length_append, show (a.length + b.length + 7) / 8 = a.length / 8 + (b.length + 7) / 8 by omega, List.range_add, List.map_append, List.map_map, show (a.length + 7) / 8 = a.length / 8 by omega]
  congr 1
  · exact List.map_congr_left fun j hj => byte_keep a b j (by have := List.mem_range.1 hj; omega)
  · exact List.map_congr_left fun j _ => byteAt_shift a b h j
theorem len_flat8 (X : List Nat) : (flat X).length % 8 = 0 := by rw [flat_length]; omega

def vAll (L : List Nat) : List Bool := L.flatMap varBits
theorem vAll_flat (L : List Nat) : vAll L = flat (gAll L) := by
  induction L with
  | nil => rfl
  | cons a t ih => rw [gAll_cons, flat_append, ← ih, ← varBits_flat]; simp [vAll]
theorem vAll_snoc (L : List Nat) (k : Nat) (h : k < L.length) : vAll (L.take (k + 1)) = vAll (L.take k) ++ varBits (L[k]?.getD 0) := by
  unfold vAll
  rw [List.take_succ_eq_append_getElem h, List.getElem?_eq_getElem h, List.flatMap_append]; simp only [List.flatMap_cons, List.flatMap_nil, List.append_nil, Option.getD_some]
theorem byte_flat (k : Nat) : bitsOf k 8 = flat [k] := by simp [flat]

/-- The bits up to the references; with the references; with the flags. -/
def hb0 (s : Seg) : List Bool := varBits s.num ++ bitsOf s.kind 8 ++ varBits s.page ++ varBits s.refs.length
def hb1 (s : Seg) (k : Nat) : List Bool := hb0 s ++ vAll (s.refs.take k)
def hb2 (s : Seg) (k : Nat) : List Bool := hb1 s s.refs.length ++ s.keep.take k
def hbA (s : Seg) : List Bool := hb2 s s.keep.length ++ [s.stay]
def hbE (s : Seg) (d : Nat) : List Bool := padded (hbA s) ++ varBits d
theorem hb1_zero (s : Seg) : hb1 s 0 = hb0 s := by simp [hb1, vAll]
theorem hb1_snoc (s : Seg) (k : Nat) (h : k < s.refs.length) : hb1 s (k + 1) = hb1 s k ++ varBits (s.refs[k]?.getD 0) := by
  unfold hb1; rw [vAll_snoc _ _ h, List.append_assoc]
theorem hb2_zero (s : Seg) : hb2 s 0 = hb1 s s.refs.length := by simp [hb2]
theorem hb2_snoc (s : Seg) (k : Nat) (h : k < s.keep.length) : hb2 s (k + 1) = hb2 s k ++ [s.keep[k]?.getD false] := by
  unfold hb2; rw [List.take_succ_eq_append_getElem h, List.getElem?_eq_getElem h, List.append_assoc]; rfl
theorem bit_of (b : Bool) : bitsOf b.toNat 1 = [b] := by cases b <;> decide

theorem hbE_pack {s : Seg} {d : Nat} (h : OkS s d) : pack (hbE s d) = hdrB s d := by
  have b1 := h.num
  have b2 := Nat.le_trans h.p2 (rHi_le _)
  have b3 := Nat.le_trans h.many (mostN_le _ _)
  have b4 := Nat.le_trans h.data (rData_le _)
  have b5 := h.k2
  have g1 : Byts (groups s.num) := groups_lt_u64 _ (by omega)
  have g2 : Byts [s.kind] := fun x hx => by simp at hx; omega
  have g3 : Byts (groups s.page) := groups_lt_u64 _ (by omega)
  have g4 : Byts (groups s.refs.length) := groups_lt_u64 _ (by omega)
  have g5 : Byts (gAll s.refs) := gAll_lt h.rise (by omega)
  have g7 : Byts (groups d) := groups_lt_u64 _ (by omega)
  have e1 : hbA s = flat (groups s.num ++ ([s.kind] ++ (groups s.page ++ (groups s.refs.length ++ gAll s.refs)))) ++ (s.keep ++ [s.stay]) := by
    unfold hbA hb2 hb1 hb0
    rw [List.take_length, List.take_length, varBits_flat, varBits_flat, varBits_flat, vAll_flat, byte_flat]
    simp only [flat_append, List.append_assoc]
  have e2 : (padded (hbA s)).length % 8 = 0 := by rw [length_padded]; omega
  unfold hbE hdrB
  rw [pack_app8 _ _ e2, pack_padded, e1, pack_app8 _ _ (len_flat8 _), pack_flat _ (g1.app (g2.app (g3.app (g4.app g5)))), varBits_flat, pack_flat _ g7]
  simp only [List.append_assoc]

theorem lenVar_le (n : Nat) (h : n < 2097152) : (varBits n).length ≤ 24 := by
  rw [length_varBits]
  have := length_groups_le 2 n (by omega)
  omega
theorem lenVar4_le (n : Nat) (h : n < 268435456) : (varBits n).length ≤ 32 := by
  rw [length_varBits]
  have := length_groups_le 3 n (by omega)
  omega
theorem vAll_le (L : List Nat) (h : ∀ r ∈ L, r < 2097152) : (vAll L).length ≤ 24 * L.length := by
  induction L with
  | nil => simp [vAll]
  | cons a t ih =>
    have h1 := lenVar_le a (h a (by simp))
    have h2 := ih (fun r hr => h r (by simp [hr]))
    have e : vAll (a :: t) = varBits a ++ vAll t := by simp [vAll]
    rw [e, List.length_append, List.length_cons]; omega
theorem hb_room {s : Seg} {d : Nat} (h : OkS s d) : (hb0 s).length ≤ 80 ∧ (∀ k, k ≤ s.refs.length → (hb1 s k).length ≤ 80 + 24 * 32767) ∧ (∀ k, k ≤ s.keep.length → (hb2 s k).length ≤ 80 + 25 * 32767) ∧ (hbA s).length ≤ 81 + 25 * 32767 ∧ (padded (hbA s)).length ≤ 89 + 25 * 32767 ∧ (hbE s d).length ≤ 121 + 25 * 32767 := by
  have b1 := h.num
  have b2 := Nat.le_trans h.p2 (rHi_le _)
  have b3 := Nat.le_trans h.many (mostN_le _ _)
  have b4 := Nat.le_trans h.data (rData_le _)
  have b5 := h.keep
  have r0 : (hb0 s).length ≤ 80 := by
    have a1 := lenVar_le s.num (by omega)
    have a2 := lenVar_le s.page (by omega)
    have a3 := lenVar_le s.refs.length (by omega)
    unfold hb0; simp only [List.length_append, length_bitsOf]; omega
  have r1 : ∀ k, k ≤ s.refs.length → (hb1 s k).length ≤ 80 + 24 * k := fun k hk => by
    have := vAll_le (s.refs.take k) (fun r hr => by have := ris_le _ _ _ h.rise r (List.mem_of_mem_take hr); omega)
    unfold hb1; rw [List.length_append]
    rw [List.length_take] at this
    omega
  have r2 : ∀ k, k ≤ s.keep.length → (hb2 s k).length ≤ 80 + 24 * s.refs.length + k := fun k hk => by
    have := r1 s.refs.length (Nat.le_refl _)
    unfold hb2; rw [List.length_append, List.length_take]; omega
  have r3 : (hbA s).length ≤ 81 + 25 * 32767 := by
    have := r2 s.keep.length (Nat.le_refl _)
    unfold hbA; rw [List.length_append, List.length_singleton]; omega
  have r4 : (padded (hbA s)).length ≤ 89 + 25 * 32767 := by rw [length_padded]; omega
  refine ⟨r0, fun k hk => ?_, fun k hk => ?_, r3, r4, ?_⟩
  · have := r1 k hk; omega
  · have := r2 k hk; omega
  · have := lenVar4_le d (by omega)
    unfold hbE; rw [List.length_append]; omega

/-- A segment that may be, as it is handed in. -/
def ofSeg (s : Seg) (D : List Nat) : SgX := ⟨s.num, s.kind, s.page, s.refs.map fun (n : Nat) => (n : Int), s.keep, s.stay, D⟩

set_option maxHeartbeats 1000000 in
theorem putFlag_fits (bw : Nat) (v : Value) (most : Nat) (bs : List Bool) (b : Bool) (w : World) (h : WAt w bw v most bs) (hf : bs.length + 1 ≤ 8 * most) :
    Calls Tryd.prog 41 #[.pointer (some ⟨bw, 0, none⟩), .bool b] w fun e w' => e = .returned (.tuple #[]) ∧ ∃ v', WAt w' bw v' most (bs ++ [b]) ∧ WStep bw v v' w w' := by
  have HW : Hid (WAt w bw v most bs) := h
  have HF : Hid (bs.length + 1 ≤ 8 * most) := hf
  clear h hf
  cases b
  · go_enter Tryd.func41, Tryd.ntmps41
    go_wp2_with fail
    refine (put_fits' bw v most bs 0 1 0 1 _ rfl rfl HW.out (by omega) (by omega) HF.out).mono ?_
    rintro e w1 ⟨rfl, v', hat, hst⟩
    go_wp2_with fail
    go_end0
    exact ⟨rfl, v', hat, hst⟩
  · go_enter Tryd.func41, Tryd.ntmps41
    go_wp2_with fail
    refine (put_fits' bw v most bs 1 1 1 1 _ rfl rfl HW.out (by omega) (by omega) HF.out).mono ?_
    rintro e w1 ⟨rfl, v', hat, hst⟩
    go_wp2_with fail
    go_end0
    exact ⟨rfl, v', hat, hst⟩
end Go.Proofs.YtamonbkhpbdojaaDoor
