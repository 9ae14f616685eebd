/- Lists of bytes handed in, opened; what both readers answer. -/
import Derived.Test.YtpfajkkjnobdlaaDoorOq
import Derived.Test.YtpfajkkjnobdlaaDoorLe
import Derived.Test.YtpfajkkjnobdlaaDoorBy
import Derived.Test.YtpfajkkjnobdlaaDoorRg
import Derived.Test.YtpfajkkjnobdlaaDoorQa
namespace Go.Proofs.YtpfajkkjnobdlaaDoor
open Go.ChangeShapes Go.WideShapes Go.ChangeAt Go.RowKit
set_option maxRecDepth 100000

/-- A list of bytes that is handed in. -/
structure Yq where
  o : Option Addr
  c : Nat
  l : List Nat
structure YqOK (w : World) (y : Yq) : Prop where
  len : y.l.length ≤ 9223372036854775807
  byt : ∀ x ∈ y.l, x < 256
  nil : y.o = none → y.l = [] ∧ y.c = 0
  cell : y.l ≠ [] → ∃ b off, y.o = some ⟨b, off, none⟩ ∧ ∀ j, j < y.l.length → w.cell? ⟨b, off + j, none⟩ = some (.int .u8 (y.l[j]?.getD 0 : Nat))
structure YsAt (w : World) (ao : Option Addr) (n : Nat) (A : Nat → Yq) : Prop where
  len : n ≤ 9223372036854775807
  cells : 0 < n → ∃ b off, ao = some ⟨b, off, none⟩ ∧ ∀ j, j < n → w.cell? ⟨b, off + j, none⟩ = some (.slice (A j).o (A j).l.length (A j).c)
  ok : ∀ j, j < n → YqOK w (A j)

theorem open_bytes {H : Type} {enc : TypeId × Value → H} {W : World} {fuel : Nat} {sp : Nat → Bool} {hd : Bool} {v : Value} {x : DataW H × List MemPlace} (h : DataW.trod enc Tryd.prog W 0 sp hd fuel 27 [v] = some x) :
    ∃ y : Yq, v = .slice y.o y.l.length y.c ∧ YqOK W y := by
  rcases open_ints Tryd.underlying27 Tryd.underlying5 (by kernel_rfl) h with ⟨hcs, _⟩ | ⟨a, len, c, zs, hcs, _, hl, hm, hz, hx, hcell, hwz⟩
  · simp at hcs
    exact ⟨⟨none, 0, []⟩, by simpa using hcs, ⟨by simp, (fun y hy => by cases hy), fun _ => ⟨rfl, rfl⟩, fun hn => absurd rfl hn⟩⟩
  · simp at hcs
    subst hcs
    have hlz : len ≤ zs.length := by
      have := hz
      split at this <;> omega
    have hb : ∀ z ∈ zs, 0 ≤ z ∧ z ≤ 255 := fun z hzm => bounds_u8 (hwz _ hzm)
    have hlen : ((zs.take len).map Int.toNat).length = len := by simp; omega
    refine ⟨⟨some a, c, (zs.take len).map Int.toNat⟩, by rw [hlen], ⟨?_, ?_, (fun e => by cases e), fun hne => ?_⟩⟩
    · show ((zs.take len).map Int.toNat).length ≤ _
      rw [hlen]; unfold maxLen at hm; omega
    · intro y hy
      obtain ⟨z, hz1, rfl⟩ := List.mem_map.1 hy
      have := hb z (List.mem_of_mem_take hz1)
      omega
    · have hpos : 0 < len := by rw [← hlen]; exact List.length_pos_iff.2 hne
      obtain ⟨b, off, spot⟩ := a
      have hspot : spot = none := by
        have := World.cell?_spot (hcell 0 (by omega))
        simpa [Addr.add] using this
      subst hspot
      refine ⟨b, off, rfl, fun j hj => ?_⟩
      have hj' : j < len := by rw [← hlen]; exact hj
      have h1 := hcell j (by omega)
      rw [addr_add] at h1
      rw [h1]
      have hjz : j < zs.length := by omega
      have hmem : zs[j] ∈ zs := List.getElem_mem _
      have := hb _ hmem
      simp [hj', hjz]
      omega

theorem open_ys {H : Type} {enc : TypeId × Value → H} {W : World} {base : Nat} {v0 : Value} {d0 : DataW H} {p0 : List MemPlace} (hv : Value.okWide Tryd.prog W .any base 35 v0) (h0 : DataW.Trod enc Tryd.prog W 0 (fun _ => true) true 35 v0 d0 p0) :
    ∃ ao n cap A, v0 = .slice ao n cap ∧ YsAt W ao n A := by
  obtain ⟨a0, len0, cap0, rfl⟩ := okWide_slice Tryd.underlying35 hv
  obtain ⟨fuel, h⟩ := h0
  rcases Deep.open_slice Tryd.underlying35 h with ⟨hcs, _⟩ | ⟨a, len, cap, m, f, D, Pl, hcs, _, hlc, hmx, hm, _, hel⟩
  · simp [Value.cells] at hcs
    obtain ⟨rfl, rfl, rfl⟩ := hcs
    exact ⟨none, 0, 0, fun _ => ⟨none, 0, []⟩, rfl, by omega, by omega, by omega⟩
  · simp [Value.cells] at hcs
    obtain ⟨rfl, rfl, rfl⟩ := hcs
    have hlm : len0 ≤ m := by rw [hm]; split <;> omega
    have hex : ∀ i, i < len0 → ∃ y : Yq, W.cell? ((a.add (i * 1)).add 0) = some (.slice y.o y.l.length y.c) ∧ YqOK W y := by
      intro i hi
      obtain ⟨cs', hc, ht⟩ := hel i (by omega)
      rw [Tryd.cells27] at hc
      have hl1 := (World.cells?_some hc).2.1
      have hcc := (World.cells?_some hc).2.2
      obtain ⟨v, rfl⟩ : ∃ v, cs' = [v] := by
        match cs', hl1 with
        | [v], _ => exact ⟨v, rfl⟩
      obtain ⟨y, rfl, hy⟩ := open_bytes ht
      exact ⟨y, hcc 0 (by omega), hy⟩
    have hinh : Inhabited Yq := ⟨⟨none, 0, []⟩⟩
    obtain ⟨f, hf⟩ := Deep.choose_lt hex
    refine ⟨some a, len0, cap0, f, rfl, by unfold maxLen at hmx; omega, fun hn => ?_, fun i hi => (hf i hi).2⟩
    obtain ⟨b, off, spot⟩ := a
    have hspot : spot = none := by
      have := World.cell?_spot (hf 0 hn).1
      simpa [Addr.add] using this
    subst hspot
    refine ⟨b, off, rfl, fun j hj => ?_⟩
    have := (hf j hj).1
    simp only [addr_add, Nat.mul_one, Nat.add_zero] at this
    exact this

/-- What a reader answers, and where its words lie. -/
def RowB (w0 : World) (ws : List Nat) (a : Value) (w' : World) : Prop := (a = .slice none 0 0 ∧ ws = []) ∨ ∃ g cap, a = .slice (some ⟨g, 0, none⟩) ws.length cap ∧ ws.length ≤ 1048576 ∧ w'.ownsRow 0 50 1 a ws.length (wordCells ws) ∧ w0.heap.size ≤ g
theorem RowB.seen {S : Nat → Prop} {w0 w1 w2 : World} {ws : List Nat} {a : Value} (h : RowB w0 ws a w1) (f : Fr S w1 w2) (hs : ∀ k, S k → k < w0.heap.size) : Seen w2 a ws := by
  rcases h with ⟨rfl, rfl⟩ | ⟨g, cap, rfl, hl, ho, hg⟩
  · exact ⟨none, 0, rfl, by simp, fun h => absurd rfl h⟩
  · exact Seen.of_row (row_kept ho f (fun k hk e => by simp [Value.ownBlock] at hk; have := hs _ e; omega)) (by omega)
theorem RowB.form {w0 w' : World} {ws : List Nat} {a : Value} (h : RowB w0 ws a w') : ∃ o k p, a = .slice o k p := by
  rcases h with ⟨rfl, _⟩ | ⟨g, cap, rfl, _⟩
  · exact ⟨_, _, _, rfl⟩
  · exact ⟨_, _, _, rfl⟩
theorem readq_ans (R : Except Nat Bmp) : ∃ (X Y : Int) (ws : List Nat) (er : Int), ∀ w0 e w', ReadQ w0 R e w' → Fr (fun _ => False) w0 w' ∧ ∃ a, e = .returned (.tuple #[.agg #[.int .i64 X, .int .i64 Y, a], .int .i64 er]) ∧ RowB w0 ws a w' := by
  rcases R with er | ⟨W, H, P⟩
  · exact ⟨0, 0, [], er, fun w0 e w' ⟨f, h⟩ => ⟨f, _, h, Or.inl ⟨rfl, rfl⟩⟩⟩
  · refine ⟨W, H, render W H P, 0, fun w0 e w' ⟨f, v, he, g, cap, hv, ho, hg, z1, z2, z3⟩ => ?_⟩
    simp only at hv ho z1 z2 z3
    subst hv
    obtain ⟨_, _, f3⟩ := size_facts z1 z2 z3
    refine ⟨f, _, he, Or.inr ⟨g, cap, by rw [length_render], by rw [length_render]; exact f3, by rw [length_render]; exact ho, hg⟩⟩
end Go.Proofs.YtpfajkkjnobdlaaDoor
