/- A writer's 'Align' and 'Bytes'; a clone of bytes. -/
import Derived.Test.YtamonbkhpbdojaaDoorWriter
import Derived.Lib.SliceRun
namespace Go.Proofs.YtamonbkhpbdojaaDoor
set_option maxRecDepth 100000
open Go.RowKit

def padded (bs : List Bool) : List Bool := bs ++ List.replicate ((8 - bs.length % 8) % 8) false

theorem bit_replicate (p k : Nat) : bit (List.replicate p false) k = false := by
  unfold bit
  simp [List.getElem?_replicate]
  split <;> rfl
theorem length_padded (bs : List Bool) : (padded bs).length = 8 * ((bs.length + 7) / 8) := by
  unfold padded; simp; omega
theorem bit_padded (bs : List Bool) (k : Nat) : bit (padded bs) k = bit bs k := by
  unfold padded
  rw [bit_append]
  split
  · rfl
  · rw [bit_replicate, bit_past _ _ (by omega)]
theorem pack_padded (bs : List Bool) : pack (padded bs) = pack bs := by
  unfold pack
  rw [length_padded, show (8 * ((bs.length + 7) / 8) + 7) / 8 = (bs.length + 7) / 8 from by omega]
  apply List.map_congr_left
  intro j _
  unfold byteAt
  have : (fun k => bit (padded bs) (8 * j + k)) = fun k => bit bs (8 * j + k) := by funext k; rw [bit_padded]
  rw [this]

theorem WAt.aligned {w : World} {bw : Nat} {v : Value} {most : Nat} {bs : List Bool} {S : Int} (h : WAt w bw v most bs) (hS : S = ((8 * ((bs.length + 7) / 8) : Nat) : Int)) :
    WAt (w.setCell ⟨bw, 1, none⟩ (.int .i64 S)) bw v most (padded bs) ∧ WStep bw v v w (w.setCell ⟨bw, 1, none⟩ (.int .i64 S)) := by
  subst hS
  have hle := h.le
  refine ⟨⟨?_, ?_, by rw [length_padded]; omega, h.lim⟩, ⟨(Fr.refl _ _).setCell (fun _ => Or.inl rfl) _, Or.inl rfl⟩⟩
  · rw [length_padded]
    exact three_set1 h.blk
  · rw [length_padded, pack_padded, show (8 * ((bs.length + 7) / 8) + 7) / 8 = (bs.length + 7) / 8 from by omega]
    exact ownsRow_setCell_other h.own (fun e => h.rowne e) _

set_option maxRecDepth 100000 in
set_option maxHeartbeats 1000000 in
theorem align_any (bw : Nat) (v : Value) (most : Nat) (bs : List Bool) (w : World) (h : WAt w bw v most bs) :
    Calls Tryd.prog 42 #[.pointer (some ⟨bw, 0, none⟩)] w fun e w' => e = .returned (.tuple #[]) ∧ WAt w' bw v most (padded bs) ∧ WStep bw v v w w' := by
  obtain ⟨c0, c1, c2, cf⟩ := cell_of_three h.blk
  have hle := h.le
  have hlim := h.lim
  have HA : Hid (WAt w bw v most bs) := h
  rcases h.own.2 with ⟨rfl, e⟩ | ⟨g, cap, cur, rfl, _, _, hc, hm, _⟩
  · have R := HA.out.aligned (S := 0) (by omega)
    have HR : Hid (_ ∧ _) := R
    clear R h e
    go_enter Tryd.func42, Tryd.ntmps42
    go_wp2
    go_end0
    exact ⟨rfl, HR.out⟩
  · have R := HA.out.aligned (S := 8 * (((bs.length + 7) / 8 : Nat) : Int)) (by push_cast; rfl)
    have HR : Hid (_ ∧ _) := R
    clear R h
    go_enter Tryd.func42, Tryd.ntmps42
    go_wp2
    go_end0
    exact ⟨rfl, HR.out⟩

set_option maxRecDepth 100000 in
set_option maxHeartbeats 1000000 in
theorem clone_nil (w : World) : Calls Tryd.prog 54 #[.slice none 0 0] w fun e w' => e = .returned (.slice none 0 0) ∧ w' = w := by
  have q39 : ∀ (w : World) (a : Option Addr) (n c n' c' : Nat), (binOp .eql 25 (.slice a n c) (.slice none n' c')).run Tryd.prog w = .ok (.bool a.isNone) w := fun w a n c n' c' => Lib.run_eql_slice_nil w 25 5 a n c n' c' Tryd.underlying25
  go_enter Tryd.func54, Tryd.ntmps54
  go_wp2
  go_ret
  exact ⟨rfl, rfl⟩

set_option maxRecDepth 100000 in
set_option maxHeartbeats 1000000 in
theorem clone_some (a : Addr) (n cap : Nat) (l : List Nat) (w : World) (hl : l.length = n) (hn : n ≤ 140737488355328) (hc : ∀ (j : Nat) (u : Value), (byteCells l)[j]? = some u → w.cell? (a.add j) = some u) :
    Calls Tryd.prog 54 #[.slice (some a) n cap] w fun e w' => ∃ rv, e = .returned rv ∧ w'.ownsRow w.heap.size 5 1 rv n (byteCells l) ∧ Below w.heap.size w w' ∧ rv ≠ .slice none 0 0 := by
  have q39 : ∀ (w : World) (a : Option Addr) (n c n' c' : Nat), (binOp .eql 25 (.slice a n c) (.slice none n' c')).run Tryd.prog w = .ok (.bool a.isNone) w := fun w a n c n' c' => Lib.run_eql_slice_nil w 25 5 a n c n' c' Tryd.underlying25
  obtain ⟨i0, hi, hz0, hz1, hz2⟩ := info_parts Tryd.info5
  have HC : Hid (∀ (j : Nat) (u : Value), (byteCells l)[j]? = some u → w.cell? (a.add j) = some u) := hc
  clear hc
  have hown : (w.alloc (.cells #[] 5)).ownsRow w.heap.size 5 1 (.slice (some ⟨w.heap.size, 0, none⟩) 0 0) 0 [] := World.ownsRow_made w #[] 0 (Nat.le_refl _) (by decide) rfl
  go_enter Tryd.func54, Tryd.ntmps54
  go_wp2_with (first | (at_builtin; refine wpList_append_own _ rfl _ _ 25 rfl w.heap.size 5 i0 (.int .u8 0) 1 1 Tryd.underlying25 hi hz0 hz1 hz2 rfl (by decide) _ _ _ rfl hown a n cap (byteCells l) rfl ?c0 ?c1 ?c2 ?c3 ?c4 ?c5 ?_))
  case c0 => rw [length_byteCells]; omega
  case c1 => exact fun j u hu => cell_later ((Below.refl _ _).alloc (Nat.le_refl _) _) (HC.out j u hu)
  case c2 => exact byteCells_one l
  case c3 => unfold maxLen; omega
  case c4 => omega
  case c5 => simp
  intro v' w1 hown' hgrow hnn
  have HO : Hid (w1.ownsRow w.heap.size 5 1 v' n (byteCells l)) := hown'
  have HB : Hid (Below w.heap.size w w1) := ((Below.refl _ _).alloc (Nat.le_refl _) _).grown hgrow (by simp) (fun k hk => by simp [Value.ownBlock] at hk; omega)
  have HV : Hid (v' ≠ .slice none 0 0) := hnn
  clear hown' hgrow hnn hown
  go_wp2
  go_ret
  exact ⟨v', rfl, HO.out, HB.out, HV.out⟩

/-- A reader's or a caller's own bytes: a row that was made, with numbers l. -/
def BytesAt (w : World) (base : Nat) (v : Value) (l : List Nat) : Prop := w.ownsRow base 5 1 v l.length (byteCells l)

set_option maxRecDepth 100000 in
set_option maxHeartbeats 1000000 in
theorem bytes_any (bw : Nat) (v : Value) (most : Nat) (bs : List Bool) (w : World) (h : WAt w bw v most bs) :
    Calls Tryd.prog 43 #[.pointer (some ⟨bw, 0, none⟩)] w fun e w' => ∃ rv, e = .returned rv ∧ BytesAt w' w.heap.size rv (pack bs) ∧ Below w.heap.size w w' := by
  obtain ⟨c0, c1, c2, cf⟩ := cell_of_three h.blk
  have hle := h.le
  have hlim := h.lim
  have HA : Hid (WAt w bw v most bs) := h
  rcases h.own.2 with ⟨rfl, e⟩ | ⟨g, cap, cur, rfl, _, _, hc, hm, _⟩
  · have hb : bs = [] := List.eq_nil_of_length_eq_zero (by omega)
    subst hb
    clear h e
    go_enter Tryd.func43, Tryd.ntmps43
    go_wp2_with fail
    refine (clone_nil _).mono ?_
    rintro e w1 ⟨rfl, hw1⟩
    subst hw1
    go_wp2_with fail
    go_ret
    exact ⟨_, rfl, World.ownsRow_nil _ _ _ _, Below.refl _ _⟩
  · clear h
    go_enter Tryd.func43, Tryd.ntmps43
    go_wp2_with fail
    refine (clone_some ⟨g, 0, none⟩ _ cap (pack bs) _ (length_pack bs) (by omega) (fun j u hu => HA.out.own.cells rfl j u hu)).mono ?_
    rintro e w1 ⟨rv, rfl, ho, hb, hn⟩
    go_wp2_with fail
    go_ret
    refine ⟨rv, rfl, ?_, hb⟩
    unfold BytesAt
    rw [length_pack]
    exact ho

end Go.Proofs.YtamonbkhpbdojaaDoor
