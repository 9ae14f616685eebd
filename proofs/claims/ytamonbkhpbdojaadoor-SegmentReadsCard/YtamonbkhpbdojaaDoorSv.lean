/- Segments' headers: places that are handed in; what Decode tells, and Encode makes of it again. -/
import Derived.Test.YtamonbkhpbdojaaDoorSu
import Derived.Test.YtamonbkhpbdojaaDoorSn
namespace Go.Proofs.YtamonbkhpbdojaaDoor
set_option maxRecDepth 100000
open Go.RowKit

def erOK (n : Nat) : Prop := n = 0 ∨ n = 163 ∨ n = 161
theorem bindE_er {α β : Type} [Inhabited β] {r : Nat × α} {f : α → Nat × β} (h : erOK r.1) (hf : ∀ x, erOK (f x).1) : erOK (bindE r f).1 := by
  unfold bindE; split
  · exact hf _
  · exact h
theorem risS_er (l : List Nat) (last : Nat) : ∀ (c a least : Nat), erOK (risS l last c a least).1 := by
  intro c
  induction c with
  | zero => intro a least; exact Or.inl rfl
  | succ c ih =>
    intro a least
    unfold risS
    split
    · exact ih _ _
    · exact numS_er _ _ _ _
theorem segS_er (l : List Nat) (a : Nat) : erOK (segS l a).1 := by
  unfold segS
  refine bindE_er (numS_er _ _ _ _) fun x1 => bindE_er ?_ fun x2 => bindE_er (numS_er _ _ _ _) fun x3 => bindE_er (numS_er _ _ _ _) fun x4 => bindE_er (risS_er _ _ _ _ _) fun x5 => bindE_er ?_ fun x6 => bindE_er ?_ fun _ => bindE_er (numS_er _ _ _ _) fun x7 => Or.inl rfl
  · unfold kindS; split
    · exact Or.inr (Or.inl rfl)
    · split
      · exact Or.inl rfl
      · exact Or.inr (Or.inr rfl)
  · unfold flgS; split
    · exact Or.inr (Or.inl rfl)
    · split
      · exact Or.inl rfl
      · exact Or.inr (Or.inr rfl)
  · unfold stayS; split
    · exact Or.inl rfl
    · exact Or.inr (Or.inr rfl)
theorem decS_er (l : List Nat) (x : Int) : erOK (decS l x).1 := by
  unfold decS; split
  · exact segS_er _ _
  · exact Or.inr (Or.inl rfl)

theorem toSeg_of (s : Seg) (D : List Nat) : toSeg (ofSeg s D) = s := by
  obtain ⟨N, K, P, Rs, Ks, st⟩ := s
  simp only [toSeg, ofSeg, Int.toNat_natCast, List.map_map]
  congr 1
  induction Rs with
  | nil => rfl
  | cons a t ih => simp only [List.map_cons, ih]; rfl
theorem hdr_pos (s : Seg) (d : Nat) : 0 < (hdrB s d).length := by
  have := groups_pos s.num
  unfold hdrB; rw [List.length_append]; omega

/-- What Decode tells where it tells no error. -/
theorem decS_inv {l : List Nat} {x : Int} {s : Seg} {d e : Nat} (hb : Byts l) (h : decS l x = (0, s, d, e)) : OkS s d ∧ 0 ≤ x ∧ x < (e : Int) ∧ e ≤ l.length ∧ (l.drop x.toNat).take (e - x.toNat) = hdrB s d := by
  unfold decS at h
  split at h
  · rename_i hx
    obtain ⟨h1, h2, h3, h4⟩ := segS_inv hb h
    have h5 := hdr_pos s d
    rw [← h4] at h5
    unfold seg at h5 h4
    rw [List.length_take] at h5
    exact ⟨h1, hx.1, by omega, h3, h4⟩
  · simp at h

/-- A place: bytes, a number. -/
structure Plc where
  ao : Option Addr
  cap : Nat
  l : List Nat
  x : Int
/-- Bytes that are handed in, of whatever length. -/
structure DB0 (w : World) (ao : Option Addr) (cap : Nat) (l : List Nat) : Prop where
  seen : l ≠ [] → ∃ b off, ao = some ⟨b, off, none⟩ ∧ ∀ j, j < l.length → w.cell? ⟨b, off + j, none⟩ = some (.int .u8 (l[j]?.getD 0))
  byt : Byts l
  nil : ao = none → cap = 0
  cp : l.length ≤ cap
  cl : cap ≤ maxLen
  sp : ∀ ad, ao = some ad → 0 < cap → ∃ b off, ad = ⟨b, off, none⟩
theorem DB0.db {w : World} {ao : Option Addr} {cap : Nat} {l : List Nat} (h : DB0 w ao cap l) (hl : l.length ≤ 140737488351232) : DB w ao cap l := ⟨h.seen, hl, h.byt, h.nil, h.cp, h.cl, h.sp⟩
theorem DB0.kept {w w' : World} {ao : Option Addr} {cap : Nat} {l : List Nat} (h : DB0 w ao cap l) (f : Fr (fun _ => False) w w') : DB0 w' ao cap l := by
  refine ⟨fun hl => ?_, h.byt, h.nil, h.cp, h.cl, h.sp⟩
  obtain ⟨b, off, e, hc⟩ := h.seen hl
  exact ⟨b, off, e, fun j hj => f.cell (hc j hj) (fun h => h)⟩
/-- A row of places. -/
structure PlcsAt (w : World) (ao : Option Addr) (n : Nat) (A : Nat → Plc) : Prop where
  len : n ≤ 9223372036854775807
  cells : 0 < n → ∃ b off, ao = some ⟨b, off, none⟩ ∧ ∀ j, j < n → w.cell? ⟨b, off + j * 2, none⟩ = some (.slice (A j).ao (A j).l.length (A j).cap) ∧ w.cell? ⟨b, off + j * 2 + 1, none⟩ = some (.int .i64 (A j).x)
  ok : ∀ j, j < n → DB0 w (A j).ao (A j).cap (A j).l

/-- Decode, as the laws call it: what is told lies in new memory. -/
theorem decode_law (ao : Option Addr) (cap : Nat) (l : List Nat) (x : Int) (w : World) (h : DB w ao cap l) (hr : RulesAt w) (er : Nat) (s : Seg) (d e : Nat) (hR : decS l x = (er, s, d, e)) :
    Calls Tryd.prog 16 #[.slice ao l.length cap, .int .i64 x] w fun en w' => Fr (fun _ => False) w w' ∧ ∃ a1 c1 a2 c2, en = .returned (.tuple #[.agg #[.int .i64 (s.num : Int), .int .i64 (s.kind : Int), .int .i64 (s.page : Int), .slice a1 s.refs.length c1, .slice a2 s.keep.length c2, .bool s.stay, .slice none 0 0], .int .i64 (d : Int), .int .i64 (e : Int), .int .i64 (er : Int)]) ∧ w'.ownsRow w.heap.size 3 1 (.slice a1 s.refs.length c1) s.refs.length (intCells s.refs) ∧ w'.ownsRow w.heap.size 4 1 (.slice a2 s.keep.length c2) s.keep.length (boolCells s.keep) := by
  refine (decode_any ao cap l x w h hr).mono ?_
  rw [hR]
  rintro en w' ⟨hf, vr, vk, rfl, hvr, hvk⟩
  obtain ⟨a1, c1, rfl⟩ := own_slice hvr
  obtain ⟨a2, c2, rfl⟩ := own_slice hvk
  exact ⟨hf, a1, c1, a2, c2, rfl, hvr, hvk⟩

/-- Rows that are told, seen in whatever world comes later. -/
theorem RowS.of_ints {w : World} {b : Nat} {v : Value} {l : List Nat} (h : w.ownsRow b 3 1 v l.length (intCells l)) (hl : l.length ≤ 9223372036854775807) : RowS w v (iCells (l.map fun (n : Nat) => (n : Int))) := by
  rw [← intCells_i]
  exact RowS.of_own (by rw [length_intCells]; exact h) (by rw [length_intCells]; exact hl)
theorem RowS.of_bools {w : World} {b : Nat} {v : Value} {l : List Bool} (h : w.ownsRow b 4 1 v l.length (boolCells l)) (hl : l.length ≤ 9223372036854775807) : RowS w v (boolCells l) :=
  RowS.of_own (by rw [length_boolCells]; exact h) (by rw [length_boolCells]; exact hl)

/-- Encode of a segment that may be: its header. -/
theorem encode_ok (s : Seg) (D : List Nat) (vr vk vd : Value) (w : World) (h : SgAt w (ofSeg s D) vr vk vd) (ok : OkS s D.length) (hr : RulesAt w) :
    Calls Tryd.prog 8 #[.agg #[.int .i64 (s.num : Int), .int .i64 (s.kind : Int), .int .i64 (s.page : Int), vr, vk, .bool s.stay, vd]] w fun e w' => Fr (fun _ => False) w w' ∧ ∃ ao cap, e = .returned (.tuple #[.slice ao (hdrB s D.length).length cap, .int .i64 0]) ∧ BytesAt w' w.heap.size (.slice ao (hdrB s D.length).length cap) (hdrB s D.length) := by
  refine (encode_any (ofSeg s D) vr vk vd w h hr).mono ?_
  rintro e w' ⟨hf, ⟨_, rv, rfl, hby⟩ | ⟨hc, _⟩⟩
  · rw [toSeg_of] at hby
    obtain ⟨ao, cap, rfl⟩ := own_slice hby
    exact ⟨hf, ao, cap, rfl, hby⟩
  · rw [ok_chk ok] at hc; cases hc
end Go.Proofs.YtamonbkhpbdojaaDoor
