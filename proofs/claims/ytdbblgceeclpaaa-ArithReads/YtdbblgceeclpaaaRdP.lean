/- Both decoders over the same plain decoder; what is handed in. -/
import Derived.Test.YtdbblgceeclpaaaRdE
import Derived.Test.YtdbblgceeclpaaaRdT
import Derived.Test.YtdbblgceeclpaaaLb
import Derived.Test.YtdbblgceeclpaaaNoD
import Derived.Test.YtdbblgceeclpaaaStates
namespace Go.Proofs.Ytdbblgceeclpaaa
open Go.RowKit

/-- The decoder behind k questions. -/
def runG (n : Nat) (B : List Nat) (K : Nat → Int) : Nat → De
  | 0 => newD B n
  | k + 1 => getP B (runG n B K k) (K k)
theorem runG_ok {n : Nat} {B : List Nat} (h1 : 1 ≤ n) (h2 : n ≤ 131072) (hB : ∀ y ∈ B, y < 256) (K : Nat → Int) : ∀ k, k ≤ 16777215 → Eok B (runG n B K k) ∧ (runG n B K k).made = k
  | 0, _ => ⟨newD_ok (by omega) h2 hB, rfl⟩
  | k + 1, hk => by
    obtain ⟨a, b⟩ := runG_ok h1 h2 hB K k (by omega)
    refine ⟨getP_ok a _ (by omega), ?_⟩
    show (getP B _ _).made = _
    show (runG n B K k).made + 1 = _
    omega
/-- Numbers that are handed in. -/
structure IntsAt (w : World) (ao : Option Addr) (n : Nat) (K : Nat → Int) : Prop where
  len : n ≤ 9223372036854775807
  cells : 0 < n → ∃ b off, ao = some ⟨b, off, none⟩ ∧ ∀ j, j < n → w.cell? ⟨b, off + j, none⟩ = some (.int .i64 (K j))
  bd : ∀ j, j < n → -9223372036854775808 ≤ K j ∧ K j ≤ 9223372036854775807
theorem IntsAt.kept {w w' : World} {ao : Option Addr} {n : Nat} {K : Nat → Int} (h : IntsAt w ao n K) (f : Fr (fun _ => False) w w') : IntsAt w' ao n K := by
  refine ⟨h.len, fun hn => ?_, h.bd⟩
  obtain ⟨b, off, e, hc⟩ := h.cells hn
  exact ⟨b, off, e, fun j hj => f.cell (hc j hj) (fun h => h)⟩
/-- Bytes that are handed in. -/
structure BytesOK (w : World) (v : Value) (B : List Nat) : Prop where
  hf : SeenAt w v B
  hn : NilOK v
  hnil : v = .slice none 0 0 ∨ ∃ a n c, v = .slice (some a) n c
  hB : ∀ y ∈ B, y < 256
  hl : B.length ≤ 140737488351232
theorem SeenAt.keptF {w w' : World} {v : Value} {B : List Nat} (h : SeenAt w v B) (f : Fr (fun _ => False) w w') : SeenAt w' v B := by
  obtain ⟨ao, cap, e, h1, h2⟩ := h
  refine ⟨ao, cap, e, h1, fun hn => ?_⟩
  obtain ⟨b, off, e2, h3⟩ := h2 hn
  exact ⟨b, off, e2, fun j hj => f.cell (h3 j hj) (fun h => h)⟩
theorem BytesOK.kept {w w' : World} {v : Value} {B : List Nat} (h : BytesOK w v B) (f : Fr (fun _ => False) w w') : BytesOK w' v B := ⟨h.hf.keptF f, h.hn, h.hnil, h.hB, h.hl⟩
theorem seen_ofD {w : World} {v : Value} {x : List Nat} {n : Nat} (hx : x.length = n) (h : w.ownsRow 0 5 1 v n (byteCells x)) (hl : n ≤ 140737488355328) : SeenAt w v x := by subst hx; exact SeenAt.of_row h hl
/-- Both decoders. -/
structure Pd (w0 w : World) (bd gc : Nat) (vb : Value) (br gt ct gs gz n : Nat) (vr : Value) (B : List Nat) (o : De) : Prop where
  de : DeAt w bd gc n vb B o
  re : RdAt w br gt ct gs gz n vr B o
  fr : Fr (fun _ => False) w0 w
theorem Pd.kept {w0 w w' : World} {bd gc : Nat} {vb : Value} {br gt ct gs gz n : Nat} {vr : Value} {B : List Nat} {o : De} (h : Pd w0 w bd gc vb br gt ct gs gz n vr B o) (f : Fr (fun _ => False) w w') : Pd w0 w' bd gc vb br gt ct gs gz n vr B o := ⟨h.de.keptAll f, h.re.keptAll f, h.fr.trans f (fun _ _ h => h)⟩
/-- Where they lie. -/
structure Sep (w0 : World) (bd gc : Nat) (vb : Value) (br gt gs gz : Nat) (vr : Value) : Prop where
  b1 : w0.heap.size ≤ bd
  b2 : w0.heap.size ≤ gc
  b3 : w0.heap.size ≤ br
  b4 : w0.heap.size ≤ gs
  b5 : w0.heap.size ≤ gz
  d1 : bd ≠ br ∧ bd ≠ gs ∧ bd ≠ gz ∧ bd ≠ gt
  d2 : gc ≠ br ∧ gc ≠ gs ∧ gc ≠ gz ∧ gc ≠ gt
  d3 : ∀ k, vb.ownBlock = some k → k ≠ br ∧ k ≠ gs ∧ k ≠ gz
  d4 : ∀ k, vr.ownBlock = some k → k ≠ bd ∧ k ≠ gc
theorem Pd.step {w0 w w5 : World} {bd gc : Nat} {vb : Value} {br gt ct gs gz n : Nat} {vr : Value} {B : List Nat} {o : De} (h : Pd w0 w bd gc vb br gt ct gs gz n vr B o) (s : Sep w0 bd gc vb br gt gs gz vr) (f : Fr (fun k => k = bd ∨ k = gc) w w5) : RdAt w5 br gt ct gs gz n vr B o ∧ Fr (fun _ => False) w0 w5 := by
  have h1 := s.d1
  have h2 := s.d2
  refine ⟨h.re.kept f (by omega) (by omega) (by omega) (by omega) (fun k hk e => by have := s.d4 k hk; omega), h.fr.trans f (fun i hi e => by have := s.b1; have := s.b2; omega)⟩
theorem Pd.step2 {w0 w5 w6 : World} {bd gc : Nat} {vb : Value} {br gt ct gs gz n : Nat} {vr : Value} {B : List Nat} {o : De} (hd : DeAt w5 bd gc n vb B o) (f0 : Fr (fun _ => False) w0 w5) (hr : RdAt w6 br gt ct gs gz n vr B o) (s : Sep w0 bd gc vb br gt gs gz vr) (f : Fr (fun k => k = br ∨ k = gs ∨ k = gz) w5 w6) : Pd w0 w6 bd gc vb br gt ct gs gz n vr B o := by
  have h1 := s.d1
  have h2 := s.d2
  exact ⟨hd.kept f (by omega) (by omega) (fun k hk e => by have := s.d3 k hk; omega), hr, f0.trans f (fun i hi e => by have := s.b3; have := s.b4; have := s.b5; omega)⟩
/-- Their states. -/
theorem Pd.states1 {w0 w : World} {bd gc : Nat} {vb : Value} {br gt ct gs gz n : Nat} {vr : Value} {B : List Nat} {o : De} (h : Pd w0 w bd gc vb br gt ct gs gz n vr B o) (h1 : 1 ≤ n) (h2 : n ≤ 131072) :
    Calls Try.prog 16 #[.pointer (some ⟨bd, 0, none⟩)] w fun e w' => ∃ g, e = .returned (.slice (some ⟨g, 0, none⟩) n n) ∧ SeenAt w' (.slice (some ⟨g, 0, none⟩) n n) o.x ∧ Fr (fun _ => False) w w' := by
  have hl := h.re.len
  have h3 := states_at w bd gc n o.x (by rw [hl]; exact h1) (by rw [hl]; exact h2) (cell_of_seven h.de.blk).1 h.de.xs
  rw [hl] at h3
  refine h3.mono ?_
  rintro e w' ⟨g, rfl, ho, hf, _⟩
  exact ⟨g, rfl, seen_ofD hl ho (by omega), hf⟩
theorem Pd.states2 {w0 w : World} {bd gc : Nat} {vb : Value} {br gt ct gs gz n : Nat} {vr : Value} {B : List Nat} {o : De} (h : Pd w0 w bd gc vb br gt ct gs gz n vr B o) (hok : Eok B o) (h1 : 1 ≤ n) (h2 : n ≤ 131072) :
    Calls Try.prog 21 #[.pointer (some ⟨br, 0, none⟩)] w fun e w' => ∃ g c, e = .returned (.slice (some ⟨g, 0, none⟩) n c) ∧ SeenAt w' (.slice (some ⟨g, 0, none⟩) n c) o.x ∧ Fr (fun _ => False) w w' := by
  refine (rstatesD_at w br gt ct gs gz n vr B o h.re h1 h2 hok.cells).mono ?_
  rintro e w' ⟨rv, rfl, ho, hf, _⟩
  obtain ⟨g, c, rfl, _⟩ := ho.form h1
  exact ⟨g, c, rfl, seen_ofD h.re.len ho (by omega), hf⟩

end Go.Proofs.Ytdbblgceeclpaaa
