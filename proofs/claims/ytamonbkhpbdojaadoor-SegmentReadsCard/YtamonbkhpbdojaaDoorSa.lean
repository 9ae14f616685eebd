/- Segments' headers: small functions; the reader of a header in memory. -/
import Derived.Test.YtamonbkhpbdojaaDoorTwo
import Derived.Deep.RegionHeld3
namespace Go.Proofs.YtamonbkhpbdojaaDoor
set_option maxRecDepth 100000
open Go.RowKit

theorem demand_yes (n : Int) (w : World) : Calls Tryd.prog 55 #[.bool true, .int .i64 n] w fun e w' => e = .returned (.tuple #[]) ∧ w' = w := by
  go_enter Tryd.func55, Tryd.ntmps55
  go_wp2_with fail
  go_end0
  exact ⟨rfl, rfl⟩
theorem demand_no (n : Int) (w : World) : Calls Tryd.prog 55 #[.bool false, .int .i64 n] w fun e w' => e = .panicked [{ v := .iface 29 (.int .i64 n), recovered := false }] ∧ w' = w := by
  go_enter Tryd.func55, Tryd.ntmps55
  go_wp2_with fail
  exact ⟨rfl, rfl, rfl⟩
theorem demandBits_ok (w : World) : Calls Tryd.prog 67 #[.int .i64 0] w fun e w' => e = .returned (.tuple #[]) ∧ w' = w := by
  go_enter Tryd.func67, Tryd.ntmps67
  go_wp2_with fail
  refine (demand_yes _ _).mono ?_
  rintro e w1 ⟨rfl, rfl⟩
  go_wp2_with fail
  refine (demand_yes _ _).mono ?_
  rintro e w1 ⟨rfl, rfl⟩
  go_wp2_with fail
  go_end0
  exact ⟨rfl, rfl⟩
theorem demandBits_end (w : World) : Calls Tryd.prog 67 #[.int .i64 14] w fun e w' => e = .panicked [{ v := .iface 29 (.int .i64 163), recovered := false }] ∧ w' = w := by
  go_enter Tryd.func67, Tryd.ntmps67
  go_wp2_with fail
  refine (demand_no _ _).mono ?_
  rintro e w1 ⟨rfl, rfl⟩
  exact ⟨rfl, rfl, rfl⟩
theorem demandBits_15 (w : World) : Calls Tryd.prog 67 #[.int .i64 15] w fun e w' => e = .panicked [{ v := .iface 29 (.int .i64 161), recovered := false }] ∧ w' = w := by
  go_enter Tryd.func67, Tryd.ntmps67
  go_wp2_with fail
  refine (demand_yes _ _).mono ?_
  rintro e w1 ⟨rfl, rfl⟩
  go_wp2_with fail
  refine (demand_no _ _).mono ?_
  rintro e w1 ⟨rfl, rfl⟩
  exact ⟨rfl, rfl, rfl⟩
theorem demandBits_16 (w : World) : Calls Tryd.prog 67 #[.int .i64 16] w fun e w' => e = .panicked [{ v := .iface 29 (.int .i64 161), recovered := false }] ∧ w' = w := by
  go_enter Tryd.func67, Tryd.ntmps67
  go_wp2_with fail
  refine (demand_yes _ _).mono ?_
  rintro e w1 ⟨rfl, rfl⟩
  go_wp2_with fail
  refine (demand_no _ _).mono ?_
  rintro e w1 ⟨rfl, rfl⟩
  exact ⟨rfl, rfl, rfl⟩

theorem between_any (n a b : Int) (w : World) : Calls Tryd.prog 26 #[.int .i64 n, .int .i64 a, .int .i64 b] w fun e w' => e = .returned (.bool (decide (a ≤ n) && decide (n ≤ b))) ∧ w' = w := by
  by_cases h1 : a ≤ n
  · go_enter Tryd.func26, Tryd.ntmps26
    go_wp2_with fail
    go_ret
    exact ⟨by simp [h1], rfl⟩
  · go_enter Tryd.func26, Tryd.ntmps26
    go_wp2_with fail
    go_ret
    exact ⟨by simp; omega, rfl⟩
theorem between64_any (n a b : Int) (w : World) : Calls Tryd.prog 68 #[.int .u64 n, .int .u64 a, .int .u64 b] w fun e w' => e = .returned (.bool (decide (a ≤ n) && decide (n ≤ b))) ∧ w' = w := by
  by_cases h1 : a ≤ n
  · go_enter Tryd.func68, Tryd.ntmps68
    go_wp2_with fail
    go_ret
    exact ⟨by simp [h1], rfl⟩
  · go_enter Tryd.func68, Tryd.ntmps68
    go_wp2_with fail
    go_ret
    exact ⟨by simp; omega, rfl⟩
def mostR (r : Bool) (n : Int) : Int := if r then n else 0
theorem mostRefs_any (a b d n : Int) (r s : Bool) (w : World) : Calls Tryd.prog 27 #[.agg #[.int .i64 a, .int .i64 b, .bool r, .bool s, .int .i64 d], .int .i64 n] w fun e w' => e = .returned (.int .i64 (mostR r n)) ∧ Fr (fun _ => False) w w' := by
  cases r
  · go_enter Tryd.func27, Tryd.ntmps27
    go_wp2_with fail
    go_ret
    exact ⟨rfl, (Fr.refl _ _).alloc _⟩
  · go_enter Tryd.func27, Tryd.ntmps27
    go_wp2_with fail
    go_ret
    exact ⟨rfl, (Fr.refl _ _).alloc _⟩

/-- A header's reader: its block bs, the bytes that it reads, the byte that comes next. -/
structure SR (w : World) (bs : Nat) (ao : Option Addr) (cap : Nat) (l : List Nat) (a : Nat) : Prop where
  blk : w.heap[bs]? = some (.cells #[.slice ao l.length cap, .int .i64 (a : Int)] 88 (0, 0))
  seen : l ≠ [] → ∃ b off, ao = some ⟨b, off, none⟩ ∧ ∀ j, j < l.length → w.cell? ⟨b, off + j, none⟩ = some (.int .u8 (l[j]?.getD 0))
  le : a ≤ l.length
  lim : l.length ≤ 140737488351232
  byt : ∀ x ∈ l, x < 256
  nil : ao = none → cap = 0
  cp : l.length ≤ cap
  cl : cap ≤ maxLen
  sp : ∀ ad, ao = some ad → 0 < cap → ∃ b off, ad = ⟨b, off, none⟩

theorem SR.lt {w : World} {bs : Nat} {ao : Option Addr} {cap : Nat} {l : List Nat} {a : Nat} (h : SR w bs ao cap l a) : bs < w.heap.size := lt_of_block h.blk
theorem SR.apart {w : World} {bs : Nat} {ao : Option Addr} {cap : Nat} {l : List Nat} {a b off : Nat} (h : SR w bs ao cap l a) (hl : l ≠ []) (e : ao = some ⟨b, off, none⟩) : b ≠ bs := by
  intro hb
  obtain ⟨b', off', e', hc⟩ := h.seen hl
  rw [e] at e'
  simp at e'
  obtain ⟨rfl, rfl⟩ := e'
  have h0 := hc 0 (List.length_pos_iff.2 hl)
  rw [hb] at h0
  simp only [World.cell?, h.blk] at h0
  rcases Nat.lt_or_ge (off + 0) 2 with h2 | h2
  · have : off + 0 = 0 ∨ off + 0 = 1 := by omega
    rcases this with e | e <;> (rw [e] at h0; simp at h0)
  · rw [Array.getElem?_eq_none (by simpa using h2)] at h0; simp at h0
theorem SR.kept {w w' : World} {bs : Nat} {ao : Option Addr} {cap : Nat} {l : List Nat} {a : Nat} {S : Nat → Prop} (h : SR w bs ao cap l a) (f : Fr S w w') (h1 : ¬ S bs) (h2 : l ≠ [] → ∀ b off, ao = some ⟨b, off, none⟩ → ¬ S b) : SR w' bs ao cap l a := by
  refine ⟨by rw [f.block bs h.lt h1]; exact h.blk, fun hl => ?_, h.le, h.lim, h.byt, h.nil, h.cp, h.cl, h.sp⟩
  obtain ⟨b, off, e, hc⟩ := h.seen hl
  exact ⟨b, off, e, fun j hj => f.cell (hc j hj) (h2 hl b off e)⟩
theorem SR.keptF {w w' : World} {bs : Nat} {ao : Option Addr} {cap : Nat} {l : List Nat} {a : Nat} (h : SR w bs ao cap l a) (f : Fr (fun _ => False) w w') : SR w' bs ao cap l a := h.kept f (fun h => h) (fun _ _ _ _ h => h)
theorem SR.moved {w : World} {bs : Nat} {ao : Option Addr} {cap : Nat} {l : List Nat} {a a' : Nat} {P : Int} (h : SR w bs ao cap l a) (hP : P = (a' : Int)) (hle : a' ≤ l.length) : SR (w.setCell ⟨bs, 1, none⟩ (.int .i64 P)) bs ao cap l a' := by
  subst hP
  refine ⟨two_set1 h.blk, fun hl => ?_, hle, h.lim, h.byt, h.nil, h.cp, h.cl, h.sp⟩
  obtain ⟨b, off, e, hc⟩ := h.seen hl
  exact ⟨b, off, e, fun j hj => (Fr.one w bs 1 _).cell (hc j hj) (h.apart hl e)⟩

def pt (l : List Nat) (a most : Nat) : List Nat := (l.drop a).take most
theorem length_pt (l : List Nat) (a most : Nat) : (pt l a most).length = min most (l.length - a) := by simp [pt]
theorem pt_get (l : List Nat) (a most j : Nat) (h : j < most) : (pt l a most)[j]? = l[a + j]? := by
  unfold pt; rw [List.getElem?_take, if_pos h, List.getElem?_drop]
theorem pt_lt {l : List Nat} (a most : Nat) (h : ∀ x ∈ l, x < 256) : ∀ x ∈ pt l a most, x < 256 := fun x hx => h x (List.mem_of_mem_drop (List.mem_of_mem_take hx))

def PartP (w : World) (L : List Nat) (e : Ending) (w' : World) : Prop := ∃ br v, e = .returned (.pointer (some ⟨br, 0, none⟩)) ∧ RAt w' br v L 0 ∧ Fr (fun _ => False) w w' ∧ w.heap.size ≤ br ∧ (∀ k, v.ownBlock = some k → w.heap.size ≤ k)
theorem newR_part (ao : Option Addr) (n cap : Nat) (L : List Nat) (w : World) (hl : L.length = n) (hn : n ≤ 140737488355328) (hs : L ≠ [] → ∃ b off, ao = some ⟨b, off, none⟩ ∧ ∀ j, j < n → w.cell? ⟨b, off + j, none⟩ = some (.int .u8 (L[j]?.getD 0))) (hb : ∀ x ∈ L, x < 256) (hno : ao = none → cap = 0) :
    Calls Tryd.prog 72 #[.slice ao n cap] w (PartP w L) := by
  cases ao with
  | none =>
    have hL : L = [] := Decidable.byContradiction fun h => by obtain ⟨_, _, e, _⟩ := hs h; cases e
    subst hL
    obtain rfl : n = 0 := hl.symm
    obtain rfl := hno rfl
    exact (newR_nil w).mono fun e w' ⟨br, v, h1, h2, h3, h4, h5⟩ => ⟨br, v, h1, h2, Fr.of_below h3 _, h4, h5⟩
  | some ad =>
    refine (newR_some ad n cap L w hl hn (fun j u hj => ?_) hb).mono fun e w' ⟨br, v, h1, h2, h3, h4, h5⟩ => ⟨br, v, h1, h2, Fr.of_below h3 _, h4, h5⟩
    rw [byteCells_get] at hj
    have hjl : j < L.length := by
      rcases Nat.lt_or_ge j L.length with h | h
      · exact h
      · rw [List.getElem?_eq_none h] at hj; simp at hj
    obtain ⟨b, off, e, hc⟩ := hs (fun h => by rw [h] at hjl; simp at hjl)
    cases e
    have := hc j (by omega)
    rw [List.getElem?_eq_getElem hjl] at hj this
    simp at hj this
    rw [← hj, ← this]
    unfold Addr.add
    split <;> simp_all

end Go.Proofs.YtamonbkhpbdojaaDoor
