/- Segments' headers: the reader's 'segment'. -/
import Derived.Test.YtamonbkhpbdojaaDoorSh
import Derived.Deep.Cut
namespace Go.Proofs.YtamonbkhpbdojaaDoor
set_option maxRecDepth 100000
open Go.RowKit

/-- While a header is read: the reader, the segment that is being made. -/
structure St (w0 w : World) (bs sb : Nat) (ao : Option Addr) (cap : Nat) (l : List Nat) (a : Nat) (xs : List Value) : Prop where
  sr : SR w bs ao cap l a
  blk : w.heap[sb]? = some (.cells xs.toArray 27 (0, 0))
  fr : Fr (fun k => k = bs) w0 w
  sz : w0.heap.size ≤ sb
  lt : bs < w0.heap.size
  bl : l ≠ [] → ∀ b off, ao = some ⟨b, off, none⟩ → b < w0.heap.size
  ru : RulesAt w0
  nz : 0 ≠ bs
theorem St.rules {w0 w : World} {bs sb : Nat} {ao : Option Addr} {cap : Nat} {l : List Nat} {a : Nat} {xs : List Value} (h : St w0 w bs sb ao cap l a xs) : RulesAt w := h.ru.kept h.fr h.nz
theorem St.call {w0 w w' : World} {bs sb : Nat} {ao : Option Addr} {cap : Nat} {l : List Nat} {a a' : Nat} {xs : List Value} (h : St w0 w bs sb ao cap l a xs) (f : Fr (fun k => k = bs) w w') (hs : SR w' bs ao cap l a') : St w0 w' bs sb ao cap l a' xs :=
  ⟨hs, by rw [f.block sb (lt_of_block h.blk) (fun e => by have := h.sz; have := h.lt; omega)]; exact h.blk, h.fr.trans f (fun _ _ h => h), h.sz, h.lt, h.bl, h.ru, h.nz⟩
theorem St.keptF {w0 w w' : World} {bs sb : Nat} {ao : Option Addr} {cap : Nat} {l : List Nat} {a : Nat} {xs : List Value} (h : St w0 w bs sb ao cap l a xs) (f : Fr (fun _ => False) w w') : St w0 w' bs sb ao cap l a xs := h.call (f.mono (fun _ _ h => h.elim)) (h.sr.keptF f)
theorem St.set {w0 w : World} {bs sb : Nat} {ao : Option Addr} {cap : Nat} {l : List Nat} {a : Nat} {xs : List Value} (h : St w0 w bs sb ao cap l a xs) (j : Nat) (u : Value) : St w0 (w.setCell ⟨sb, j, none⟩ u) bs sb ao cap l a (xs.set j u) := by
  have h1 := h.sz
  have h2 := h.lt
  refine ⟨h.sr.kept (Fr.one w sb j u) (fun e => by omega) (fun hl b off e e2 => by have := h.bl hl b off e; omega), ?_, h.fr.setCell (fun hh => by simp at hh; omega) u, h.sz, h.lt, h.bl, h.ru, h.nz⟩
  simp [World.setCell, Array.getElem?_modify, h.blk]
theorem St.cell {w0 w : World} {bs sb : Nat} {ao : Option Addr} {cap : Nat} {l : List Nat} {a : Nat} {xs : List Value} (h : St w0 w bs sb ao cap l a xs) (j : Nat) : w.cell? ⟨sb, j, none⟩ = xs[j]? := by
  simp [World.cell?, h.blk]
theorem St.frozen {w0 w : World} {bs sb : Nat} {ao : Option Addr} {cap : Nat} {l : List Nat} {a : Nat} {xs : List Value} (h : St w0 w bs sb ao cap l a xs) (j : Nat) : w.frozen? ⟨sb, j, none⟩ = false := by
  simp [World.frozen?, h.blk]

theorem St.fault {w0 w w' : World} {bs sb : Nat} {ao : Option Addr} {cap : Nat} {l : List Nat} {a : Nat} {xs : List Value} (h : St w0 w bs sb ao cap l a xs) (f : Fr (fun k => k = bs) w w') : Fr (fun k => k = bs) w0 w' := h.fr.trans f (fun _ _ h => h)

theorem own_slice {w : World} {b e s n : Nat} {v : Value} {xs : List Value} (h : w.ownsRow b e s v n xs) : ∃ ao c, v = .slice ao n c := by
  rcases h.2 with ⟨rfl, rfl⟩ | ⟨g, c, cur, rfl, _⟩
  · exact ⟨_, _, rfl⟩
  · exact ⟨_, _, rfl⟩

def segX (N K P : Nat) (vr vk : Value) (st : Bool) : List Value := [.int .i64 (N : Int), .int .i64 (K : Int), .int .i64 (P : Int), vr, vk, .bool st, .slice none 0 0]
def nilV : Value := .slice none 0 0

set_option linter.unusedSimpArgs false in
set_option maxHeartbeats 4000000 in
theorem segment_any (bs : Nat) (ao : Option Addr) (cap : Nat) (l : List Nat) (a : Nat) (w : World) (h : SR w bs ao cap l a) (hr : RulesAt w) (hnz : 0 ≠ bs) :
    Calls Tryd.prog 46 #[.pointer (some ⟨bs, 0, none⟩)] w (SegP w bs ao cap l (segS l a)) := by
  obtain ⟨R, hR⟩ : ∃ R, R = segS l a := ⟨_, rfl⟩
  rw [← hR]
  unfold segS at hR
  obtain ⟨w0, hw0⟩ : ∃ w0, w0 = w.alloc (.cells #[.int .i64 0, .int .i64 0, .int .i64 0, .slice none 0 0, .slice none 0 0, .bool false, .slice none 0 0] 27) := ⟨_, rfl⟩
  have HT0 : Hid (St w w0 bs w.heap.size ao cap l a (segX 0 0 0 nilV nilV false)) := by
    show St _ _ _ _ _ _ _ _ _
    rw [hw0]
    have f : Fr (fun _ => False) w (w.alloc (.cells #[.int .i64 0, .int .i64 0, .int .i64 0, .slice none 0 0, .slice none 0 0, .bool false, .slice none 0 0] 27)) := (Fr.refl _ _).alloc _
    exact ⟨h.keptF f, heap_alloc_new w _, f.mono (fun _ _ h => h.elim), Nat.le_refl _, h.lt, fun hl => h.blt hl, hr, hnz⟩
  have HW0 : Hid (w0 = w.alloc (.cells #[.int .i64 0, .int .i64 0, .int .i64 0, .slice none 0 0, .slice none 0 0, .bool false, .slice none 0 0] 27)) := hw0
  have HR0 : Hid (R = _) := hR
  clear h hr hnz hR
  go_enter Tryd.func46, Tryd.ntmps46
  go_wp2_with fail
  rw [← HW0.out]
  clear hw0 HW0
  have HSB : Hid (bs < w.heap.size) := HT0.out.lt
  generalize w.heap.size = sb at HT0 ⊢
  by_cases h1 : (numS l a 0 32767).1 ≠ 0
  · have HE : Hid (R.1 = (numS l a 0 32767).1) := by show _ = _; rw [HR0.out, bindE_no h1]
    refine (number_no bs ao cap l a 0 32767 _ _ HT0.out.sr rfl h1 (by omega) (by omega)).mono ?_
    rintro e w1 ⟨rfl, hf1⟩
    exact ⟨rfl, HT0.out.fault (hf1.mono (fun _ _ h => h.elim)), Or.inr ⟨by rw [HE.out]; exact h1, by rw [HE.out]; rfl⟩⟩
  replace h1 := Decidable.not_not.1 h1
  obtain ⟨N, a1, hn1⟩ : ∃ N a1, numS l a 0 32767 = (0, N, a1) := ⟨_, _, Prod.ext h1 rfl⟩
  have hN : N ≤ 32767 := (numS_ok hn1).2.2.2
  have HR1 : Hid (R = _) := HR0.out.trans ((bindE_ok h1).trans (by rw [hn1]))
  clear HR0 h1
  refine (number_ok bs ao cap l a 0 32767 N a1 _ HT0.out.sr hn1 (by omega) (by omega)).mono ?_
  rintro e w1 ⟨rfl, hs1, hf1⟩
  have HT1 : Hid (St w w1 bs sb ao cap l a1 (segX 0 0 0 nilV nilV false)) := HT0.out.call hf1 hs1
  have c0 := HT1.out.cell 0
  have f0 := HT1.out.frozen 0
  clear hs1 hf1 hn1 HT0
  go_wp2_with fail
  have HT2 : Hid (St w (w1.setCell ⟨sb, 0, none⟩ (.int .i64 (N : Int))) bs sb ao cap l a1 (segX N 0 0 nilV nilV false)) := HT1.out.set 0 _
  clear HT1 c0 f0
  generalize w1.setCell ⟨sb, 0, none⟩ (.int .i64 (N : Int)) = w2 at *
  by_cases hk1 : l.length ≤ a1
  · have hks : kindS l a1 = (163, 0, 0) := by unfold kindS; rw [if_pos hk1]
    have HE : Hid (R.1 = 163) := by show _ = _; rw [HR1.out, bindE_no (by rw [hks]; decide), hks]
    refine (kind_end bs ao cap l a1 _ HT2.out.sr hk1).mono ?_
    rintro e w3 ⟨rfl, hf3⟩
    exact ⟨rfl, HT2.out.fault (hf3.mono (fun _ _ h => h.elim)), Or.inr ⟨by rw [HE.out]; decide, by rw [HE.out]; rfl⟩⟩
  obtain ⟨K, hK⟩ : ∃ K, l[a1]?.getD 0 = K := ⟨_, rfl⟩
  have HKS : Hid (kindS l a1 = if 1 ≤ K ∧ K ≤ 7 then (0, K, a1 + 1) else (161, 0, 0)) := by show _ = _; unfold kindS; rw [if_neg hk1, hK]
  refine (kind_any bs ao cap l a1 K _ HT2.out.sr (by omega) hK).mono ?_
  rintro e w3 ⟨hf3, ⟨hk2, hk3, rfl, hs3⟩ | ⟨hk2, he⟩⟩
  rotate_left
  · have hks := HKS.out
    rw [if_neg hk2] at hks
    have HE : Hid (R.1 = 161) := by show _ = _; rw [HR1.out, bindE_no (by rw [hks]; decide), hks]
    rw [he]
    exact ⟨rfl, HT2.out.fault hf3, Or.inr ⟨by rw [HE.out]; decide, by rw [HE.out]; rfl⟩⟩
  have hks := HKS.out
  rw [if_pos ⟨hk2, hk3⟩] at hks
  have HR2 : Hid (R = _) := HR1.out.trans ((bindE_ok (by rw [hks])).trans (by rw [hks]))
  have HT3 : Hid (St w w3 bs sb ao cap l (a1 + 1) (segX N 0 0 nilV nilV false)) := HT2.out.call hf3 hs3
  have c1 := HT3.out.cell 1
  have f1 := HT3.out.frozen 1
  have HT4 : Hid (St w (w3.setCell ⟨sb, 1, none⟩ (.int .i64 (K : Int))) bs sb ao cap l (a1 + 1) (segX N K 0 nilV nilV false)) := HT3.out.set 1 _
  obtain ⟨q0, q1, q2, q3, q4⟩ := HT4.out.rules.cells K (by omega)
  have k1 : (0 : Int) ≤ (K : Int) := by omega
  have k2 : (K : Int) < 8 := by omega
  clear hs3 hf3 HT2 hks HKS HR1 hK
  go_wp2_with fail
  have HT5 : Hid (St w ((w3.setCell ⟨sb, 1, none⟩ (.int .i64 (K : Int))).alloc (.cells #[.int .i64 (rLo K : Int), .int .i64 (rHi K : Int), .bool (rRef K), .bool (rStay K), .int .i64 (rData K : Int)] 59)) bs sb ao cap l (a1 + 1) (segX N K 0 nilV nilV false)) := HT4.out.keptF ((Fr.refl _ _).alloc _)
  obtain ⟨rb, hrb0⟩ : ∃ rb, rb = w3.heap.size := ⟨_, rfl⟩
  have hrb : rb = (w3.setCell ⟨sb, 1, none⟩ (.int .i64 (K : Int))).heap.size := by rw [hrb0]; simp [World.setCell]
  have HSRB : Hid (sb < rb ∧ bs < rb) := by
    have h1 := lt_of_block HT4.out.blk
    have h2 := HT4.out.sr.lt
    exact ⟨by rw [hrb]; exact h1, by rw [hrb]; exact h2⟩
  have HRB : Hid (((w3.setCell ⟨sb, 1, none⟩ (.int .i64 (K : Int))).alloc (.cells #[.int .i64 (rLo K : Int), .int .i64 (rHi K : Int), .bool (rRef K), .bool (rStay K), .int .i64 (rData K : Int)] 59)).heap[rb]? = some (.cells #[.int .i64 (rLo K : Int), .int .i64 (rHi K : Int), .bool (rRef K), .bool (rStay K), .int .i64 (rData K : Int)] 59 (0, 0))) := by show _ = _; rw [hrb]; exact heap_alloc_new _ _
  rw [← hrb0]
  have hlo : rLo K ≤ 1 := by unfold rLo; split <;> omega
  have hhi : rHi K ≤ 64 := by unfold rHi; split <;> omega
  have hda : rData K ≤ 67108864 := by unfold rData; split <;> omega
  clear HT3 HT4 c1 f1 q0 q1 q2 q3 q4 hrb hrb0
  generalize (w3.setCell ⟨sb, 1, none⟩ (.int .i64 (K : Int))).alloc (.cells #[.int .i64 (rLo K : Int), .int .i64 (rHi K : Int), .bool (rRef K), .bool (rStay K), .int .i64 (rData K : Int)] 59) = w5 at *
  have HRC : Hid (∀ w', Fr (fun k => k = bs ∨ k = sb) w5 w' → w'.cell? ⟨rb, 0, none⟩ = some (.int .i64 (rLo K : Int)) ∧ w'.cell? ⟨rb, 1, none⟩ = some (.int .i64 (rHi K : Int)) ∧ w'.cell? ⟨rb, 2, none⟩ = some (.bool (rRef K)) ∧ w'.cell? ⟨rb, 3, none⟩ = some (.bool (rStay K)) ∧ w'.cell? ⟨rb, 4, none⟩ = some (.int .i64 (rData K : Int))) := by
    intro w' f
    have hb := f.block rb (lt_of_block HRB.out) (fun e => by have := HSRB.out; omega)
    rw [HRB.out] at hb
    simp [World.cell?, hb]
  clear HRB
  obtain ⟨lo, hlo'⟩ : ∃ x, x = rLo K := ⟨_, rfl⟩
  obtain ⟨hi, hhi'⟩ : ∃ x, x = rHi K := ⟨_, rfl⟩
  obtain ⟨rr, hrr'⟩ : ∃ x, x = rRef K := ⟨_, rfl⟩
  obtain ⟨rs, hrs'⟩ : ∃ x, x = rStay K := ⟨_, rfl⟩
  obtain ⟨rd, hrd'⟩ : ∃ x, x = rData K := ⟨_, rfl⟩
  simp only [← hlo', ← hhi', ← hrr', ← hrs', ← hrd'] at *
  clear hlo' hhi' hrr' hrs' hrd'
  by_cases h3 : (numS l (a1 + 1) lo hi).1 ≠ 0
  · have HE : Hid (R.1 = (numS l (a1 + 1) lo hi).1) := by show _ = _; rw [HR2.out, bindE_no h3]
    refine (number_no bs ao cap l (a1 + 1) lo hi _ _ HT5.out.sr rfl h3 (by omega) (by omega)).mono ?_
    rintro e w6 ⟨rfl, hf6⟩
    exact ⟨rfl, HT5.out.fault (hf6.mono (fun _ _ h => h.elim)), Or.inr ⟨by rw [HE.out]; exact h3, by rw [HE.out]; rfl⟩⟩
  replace h3 := Decidable.not_not.1 h3
  obtain ⟨P, a2, hn3⟩ : ∃ P a2, numS l (a1 + 1) lo hi = (0, P, a2) := ⟨_, _, Prod.ext h3 rfl⟩
  have HR3 : Hid (R = _) := HR2.out.trans ((bindE_ok h3).trans (by rw [hn3]))
  clear HR2 h3
  refine (number_ok bs ao cap l (a1 + 1) lo hi P a2 _ HT5.out.sr hn3 (by omega) (by omega)).mono ?_
  rintro e w6 ⟨rfl, hs6, hf6⟩
  have HT6 : Hid (St w w6 bs sb ao cap l a2 (segX N K 0 nilV nilV false)) := HT5.out.call hf6 hs6
  have c2 := HT6.out.cell 2
  have f2 := HT6.out.frozen 2
  have HT7 : Hid (St w (w6.setCell ⟨sb, 2, none⟩ (.int .i64 (P : Int))) bs sb ao cap l a2 (segX N K P nilV nilV false)) := HT6.out.set 2 _
  have HF7 : Hid (Fr (fun k => k = bs ∨ k = sb) w5 (w6.setCell ⟨sb, 2, none⟩ (.int .i64 (P : Int)))) := (hf6.mono (T := fun k => k = bs ∨ k = sb) (fun _ _ h => Or.inl h)).setCell (fun _ => Or.inr rfl) _
  obtain ⟨q0, q1, q2, q3, q4⟩ := HRC.out _ HF7.out
  have d0 : (w6.setCell ⟨sb, 2, none⟩ (.int .i64 (P : Int))).cell? ⟨sb, 0, none⟩ = some (.int .i64 (N : Int)) := HT7.out.cell 0
  clear hs6 hf6 HT5 hn3
  go_wp2_with fail
  generalize w6.setCell ⟨sb, 2, none⟩ (.int .i64 (P : Int)) = w7 at *
  clear c2 f2 HT6 q0 q1 q2 q3 q4 d0
  refine (mostRefs_any _ _ _ _ _ _ _).mono ?_
  rintro e w8 ⟨rfl, hf8⟩
  have HT8 : Hid (St w w8 bs sb ao cap l a2 (segX N K P nilV nilV false)) := HT7.out.keptF hf8
  have HF8 : Hid (Fr (fun k => k = bs ∨ k = sb) w5 w8) := HF7.out.trans hf8 (fun _ _ h => h.elim)
  have hmr : mostR rr (N : Int) = ((mostN rr N : Nat) : Int) := by unfold mostR mostN; split <;> rfl
  rw [hmr]
  have HM : Hid (mostN rr N ≤ N) := by show _ ≤ _; unfold mostN; split <;> omega
  clear hf8 HT7 HF7 hmr
  generalize hm : mostN rr N = M at HR3 HM ⊢
  have hMN : M ≤ N := HM.out
  clear hm
  go_wp2_with fail
  by_cases h4 : (numS l a2 0 M).1 ≠ 0
  · have HE : Hid (R.1 = (numS l a2 0 M).1) := by show _ = _; rw [HR3.out, bindE_no h4]
    refine (number_no bs ao cap l a2 0 M _ _ HT8.out.sr rfl h4 (by omega) (by omega)).mono ?_
    rintro e w6 ⟨rfl, hf6⟩
    exact ⟨rfl, HT8.out.fault (hf6.mono (fun _ _ h => h.elim)), Or.inr ⟨by rw [HE.out]; exact h4, by rw [HE.out]; rfl⟩⟩
  replace h4 := Decidable.not_not.1 h4
  obtain ⟨C, a3, hn4⟩ : ∃ C a3, numS l a2 0 M = (0, C, a3) := ⟨_, _, Prod.ext h4 rfl⟩
  have hCM : C ≤ M := (numS_ok hn4).2.2.2
  have HR4 : Hid (R = _) := HR3.out.trans ((bindE_ok h4).trans (by rw [hn4]))
  clear HR3 h4
  refine (number_ok bs ao cap l a2 0 M C a3 _ HT8.out.sr hn4 (by omega) (by omega)).mono ?_
  rintro e w9 ⟨rfl, hs9, hf9⟩
  have HT9 : Hid (St w w9 bs sb ao cap l a3 (segX N K P nilV nilV false)) := HT8.out.call hf9 hs9
  have HF9 : Hid (Fr (fun k => k = bs ∨ k = sb) w5 w9) := HF8.out.trans hf9 (fun _ _ h => Or.inl h)
  have d0 : w9.cell? ⟨sb, 0, none⟩ = some (.int .i64 (N : Int)) := HT9.out.cell 0
  have hwn : IntKind.i64.wrap ((N : Int) - 1) = (N : Int) - 1 := by rw [IntKind.wrap_i64]; omega
  clear hs9 hf9 HT8 HF8 hn4
  go_wp2_with fail
  refine (rising_any bs ao cap l a3 C (N - 1) ((N : Int) - 1) _ HT9.out.sr (by omega) (by omega) (fun h => by omega)).mono ?_
  rintro e w10 ⟨hf10, ⟨h5, vr, rfl, ho10, hs10⟩ | ⟨h5, he⟩⟩
  rotate_left
  · have HE : Hid (R.1 = (risS l (N - 1) C a3 0).1) := by show _ = _; rw [HR4.out, bindE_no h5]
    rw [he]
    exact ⟨rfl, HT9.out.fault hf10, Or.inr ⟨by rw [HE.out]; exact h5, by rw [HE.out]; rfl⟩⟩
  obtain ⟨a4, ha4⟩ : ∃ a4, (risS l (N - 1) C a3 0).2.2 = a4 := ⟨_, rfl⟩
  obtain ⟨Rf, hRf⟩ : ∃ Rf, (risS l (N - 1) C a3 0).2.1 = Rf := ⟨_, rfl⟩
  rw [ha4] at hs10
  rw [hRf] at ho10
  have HR5 : Hid (R = _) := HR4.out.trans ((bindE_ok h5).trans (by rw [show (risS l (N - 1) C a3 0).2 = (Rf, a4) from Prod.ext hRf ha4]))
  have HT10 : Hid (St w w10 bs sb ao cap l a4 (segX N K P nilV nilV false)) := HT9.out.call hf10 hs10
  have HF10 : Hid (Fr (fun k => k = bs ∨ k = sb) w5 w10) := HF9.out.trans hf10 (fun _ _ h => Or.inl h)
  obtain ⟨aor, cr, rfl⟩ := own_slice ho10
  have HVR : Hid (∀ w', Fr (fun k => k = bs ∨ k = sb) w10 w' → w'.ownsRow w.heap.size 3 1 (.slice aor Rf.length cr) Rf.length (intCells Rf)) := fun w' f => by
    have hz1 := lt_of_block HT9.out.blk
    have hz2 := HT9.out.sr.lt
    have hz3 := HT9.out.fr.size
    exact row_kept (ownsRow_base ho10 (fun kk e => by have := (ho10.lt kk e).1; omega)) f (fun kk e he => by have := (ho10.lt kk e).1; omega)
  have c3 := HT10.out.cell 3
  have f3 := HT10.out.frozen 3
  have HT11 : Hid (St w (w10.setCell ⟨sb, 3, none⟩ (.slice aor Rf.length cr)) bs sb ao cap l a4 (segX N K P (.slice aor Rf.length cr) nilV false)) := HT10.out.set 3 _
  have HF11 : Hid (Fr (fun k => k = bs ∨ k = sb) w10 (w10.setCell ⟨sb, 3, none⟩ (.slice aor Rf.length cr))) := (Fr.refl _ _).setCell (fun _ => Or.inr rfl) _
  clear hs10 hf10 ho10 HT9 HF9 HR4 h5 ha4 hRf d0
  go_wp2_with fail
  generalize w10.setCell ⟨sb, 3, none⟩ (.slice aor Rf.length cr) = w11 at *
  clear c3 f3 HT10
  refine (flags_any bs ao cap l a4 C _ HT11.out.sr (by omega)).mono ?_
  rintro e w12 ⟨hf12, ⟨h6, vk, rfl, ho12, hs12⟩ | ⟨h6, he⟩⟩
  rotate_left
  · have HE : Hid (R.1 = (flgS l a4 C).1) := by show _ = _; rw [HR5.out, bindE_no h6]
    rw [he]
    exact ⟨rfl, HT11.out.fault hf12, Or.inr ⟨by rw [HE.out]; exact h6, by rw [HE.out]; rfl⟩⟩
  obtain ⟨a5, ha5⟩ : ∃ a5, (flgS l a4 C).2.2.2 = a5 := ⟨_, rfl⟩
  obtain ⟨Kp, hKp⟩ : ∃ Kp, (flgS l a4 C).2.1 = Kp := ⟨_, rfl⟩
  obtain ⟨sy, hsy⟩ : ∃ sy, (flgS l a4 C).2.2.1 = sy := ⟨_, rfl⟩
  rw [ha5] at hs12
  rw [hKp] at ho12
  rw [hsy]
  have HR6 : Hid (R = _) := HR5.out.trans ((bindE_ok h6).trans (by rw [show (flgS l a4 C).2 = (Kp, sy, a5) from Prod.ext hKp (Prod.ext hsy ha5)]))
  have HT12 : Hid (St w w12 bs sb ao cap l a5 (segX N K P (.slice aor Rf.length cr) nilV false)) := HT11.out.call hf12 hs12
  have HF12 : Hid (Fr (fun k => k = bs ∨ k = sb) w10 w12) := HF11.out.trans hf12 (fun _ _ h => Or.inl h)
  obtain ⟨aok, ck, rfl⟩ := own_slice ho12
  have HVK : Hid (∀ w', Fr (fun k => k = bs ∨ k = sb) w12 w' → w'.ownsRow w.heap.size 4 1 (.slice aok Kp.length ck) Kp.length (boolCells Kp)) := fun w' f => by
    have hz1 := lt_of_block HT11.out.blk
    have hz2 := HT11.out.sr.lt
    have hz3 := HT11.out.fr.size
    exact row_kept (ownsRow_base ho12 (fun kk e => by have := (ho12.lt kk e).1; omega)) f (fun kk e he => by have := (ho12.lt kk e).1; omega)
  have HT13 : Hid (St w (w12.setCell ⟨sb, 4, none⟩ (.slice aok Kp.length ck)) bs sb ao cap l a5 (segX N K P (.slice aor Rf.length cr) (.slice aok Kp.length ck) false)) := HT12.out.set 4 _
  have HT14 : Hid (St w ((w12.setCell ⟨sb, 4, none⟩ (.slice aok Kp.length ck)).setCell ⟨sb, 5, none⟩ (.bool sy)) bs sb ao cap l a5 (segX N K P (.slice aor Rf.length cr) (.slice aok Kp.length ck) sy)) := HT13.out.set 5 _
  have HF14 : Hid (Fr (fun k => k = bs ∨ k = sb) w12 ((w12.setCell ⟨sb, 4, none⟩ (.slice aok Kp.length ck)).setCell ⟨sb, 5, none⟩ (.bool sy))) := ((Fr.refl _ _).setCell (fun _ => Or.inr rfl) _).setCell (fun _ => Or.inr rfl) _
  have c4 := HT12.out.cell 4
  have f4 := HT12.out.frozen 4
  have c5 := HT13.out.cell 5
  have f5 := HT13.out.frozen 5
  obtain ⟨q0, q1, q2, q3, q4⟩ := HRC.out _ (HF10.out.trans (HF12.out.trans HF14.out (fun _ _ h => h)) (fun _ _ h => h))
  have d5 : ((w12.setCell ⟨sb, 4, none⟩ (.slice aok Kp.length ck)).setCell ⟨sb, 5, none⟩ (.bool sy)).cell? ⟨sb, 5, none⟩ = some (.bool sy) := HT14.out.cell 5
  clear hs12 hf12 ho12 HT11 HF11 HR5 h6 ha5 hKp hsy
  have key : (rs || !sy) = false ∨ (rs || !sy) = true := by cases (rs || !sy) <;> simp
  rcases key with h7 | h7
  · have HE : Hid (R.1 = 161) := by show _ = _; rw [HR6.out, bindE_no (by unfold stayS; rw [h7]; decide)]; unfold stayS; rw [h7]; rfl
    have hrs : rs = false := by cases rs <;> simp_all
    have hsy : sy = true := by cases sy <;> simp_all
    subst hrs; subst hsy
    go_wp2_with fail
    refine (demand_no _ _).mono ?_
    rintro e w15 ⟨rfl, rfl⟩
    exact ⟨rfl, HT14.out.fr, Or.inr ⟨by rw [HE.out]; decide, by rw [HE.out]; rfl⟩⟩
  have key2 : rs = true ∨ (rs = false ∧ sy = false) := by cases rs <;> cases sy <;> simp_all
  rcases key2 with rfl | ⟨rfl, rfl⟩
  · go_wp2_with fail
    refine (demand_yes _ _).mono ?_
    rintro e w15 ⟨rfl, rfl⟩
    generalize (w12.setCell ⟨sb, 4, none⟩ (.slice aok Kp.length ck)).setCell ⟨sb, 5, none⟩ (.bool sy) = w14 at *
    have HR7 : Hid (R = _) := HR6.out.trans (bindE_ok rfl)
    have g0 : w14.cell? ⟨sb, 0, none⟩ = some (.int .i64 (N : Int)) := HT14.out.cell 0
    have g1 : w14.cell? ⟨sb, 1, none⟩ = some (.int .i64 (K : Int)) := HT14.out.cell 1
    have g2 : w14.cell? ⟨sb, 2, none⟩ = some (.int .i64 (P : Int)) := HT14.out.cell 2
    have g3 : w14.cell? ⟨sb, 3, none⟩ = some (.slice aor Rf.length cr) := HT14.out.cell 3
    have g4 : w14.cell? ⟨sb, 4, none⟩ = some (.slice aok Kp.length ck) := HT14.out.cell 4
    have g5 : w14.cell? ⟨sb, 5, none⟩ = some (.bool sy) := HT14.out.cell 5
    have g6 : w14.cell? ⟨sb, 6, none⟩ = some (.slice none 0 0) := HT14.out.cell 6
    have gf := fun j => HT14.out.frozen j
    clear c4 f4 c5 f5 q0 q1 q2 q3 d5 HT12 HT13 h7 HR6
    by_cases h8 : (numS l a5 0 rd).1 ≠ 0
    · have HE : Hid (R.1 = (numS l a5 0 rd).1) := by show _ = _; rw [HR7.out, bindE_no h8]
      have HC : Hid (Calls Tryd.prog 56 #[.pointer (some ⟨bs, 0, none⟩), .int .i64 0, .int .i64 (rd : Int)] w14.drew (Pan (numS l a5 0 rd).1 w14.drew)) := number_no bs ao cap l a5 0 rd _ _ (HT14.out.keptF (Fr.refl _ _).drew).sr rfl h8 (by omega) (by omega)
      generalize (numS l a5 0 rd).1 = er at *
      go_wp2_with fail
      go_upto_region 9 with (fail)
      refine wp_region_held_drew (S := fun w' => w'.cell? ⟨sb, 0, none⟩ = some (.int .i64 (N : Int)) ∧ w'.cell? ⟨sb, 1, none⟩ = some (.int .i64 (K : Int)) ∧ w'.cell? ⟨sb, 2, none⟩ = some (.int .i64 (P : Int)) ∧ w'.cell? ⟨sb, 3, none⟩ = some (.slice aor Rf.length cr) ∧ w'.cell? ⟨sb, 4, none⟩ = some (.slice aok Kp.length ck) ∧ w'.cell? ⟨sb, 5, none⟩ = some (.bool sy) ∧ w'.cell? ⟨sb, 6, none⟩ = some (.slice none 0 0) ∧ w'.cell? ⟨rb, 4, none⟩ = some (.int .i64 (rd : Int))) (by kernel_rfl) ⟨g0, g1, g2, g3, g4, g5, g6, q4⟩ (fun hHeld => ?_)
      refine wpAnyH_take (i := 0) (oi := _) (v := ?vv0) rfl (by kernel_rfl) (by kernel_rfl) (by kernel_rfl) (fun _ _ _ h => h) (Or.inl ⟨by kernel_rfl, ?hy0⟩) (by assumption) ?_
      case hy0 => (intro w hSw; (try dsimp only at hSw); obtain ⟨s0, s1, s2, s3, s4, s5, s6, s7⟩ := hSw; go_simp; all_goals (with_reducible rfl))
      (try simp only [Act.put, List.setIfInBounds_toArray, List.set_cons_zero, List.set_cons_succ])
      refine wpAnyH_take (i := 1) (oi := _) (v := ?vv1) rfl (by kernel_rfl) (by kernel_rfl) (by kernel_rfl) (fun _ _ _ h => h) (Or.inl ⟨by kernel_rfl, ?hy1⟩) (by assumption) ?_
      case hy1 => (intro w hSw; (try dsimp only at hSw); obtain ⟨s0, s1, s2, s3, s4, s5, s6, s7⟩ := hSw; go_simp; all_goals (with_reducible rfl))
      (try simp only [Act.put, List.setIfInBounds_toArray, List.set_cons_zero, List.set_cons_succ])
      refine wpAnyH_take (i := 2) (oi := _) (v := ?vv2) rfl (by kernel_rfl) (by kernel_rfl) (by kernel_rfl) (fun _ _ _ h => h) (Or.inl ⟨by kernel_rfl, ?hy2⟩) (by assumption) ?_
      case hy2 => (intro w hSw; (try dsimp only at hSw); obtain ⟨s0, s1, s2, s3, s4, s5, s6, s7⟩ := hSw; go_simp; all_goals (with_reducible rfl))
      (try simp only [Act.put, List.setIfInBounds_toArray, List.set_cons_zero, List.set_cons_succ])
      refine wpAnyH_take (i := 3) (oi := _) (v := ?vv3) rfl (by kernel_rfl) (by kernel_rfl) (by kernel_rfl) (fun _ _ _ h => h) (Or.inl ⟨by kernel_rfl, ?hy3⟩) (by assumption) ?_
      case hy3 => (intro w hSw; (try dsimp only at hSw); obtain ⟨s0, s1, s2, s3, s4, s5, s6, s7⟩ := hSw; go_simp; all_goals (with_reducible rfl))
      (try simp only [Act.put, List.setIfInBounds_toArray, List.set_cons_zero, List.set_cons_succ])
      refine wpAnyH_ready (rs := [4]) (by kernel_rfl) (by simp) ?_
      refine (AllReadyH.cons (o := _) rfl (fun K hK => ?_) AllReadyH.nil)
      go_simp
      refine HC.out.mono ?_
      rintro e w16 ⟨rfl, hf16⟩
      go_simp
      exact ⟨rfl, HT14.out.fr.drew.trans hf16 (fun _ _ h => h.elim), Or.inr ⟨by rw [HE.out]; exact h8, by rw [HE.out]; rfl⟩⟩
    replace h8 := Decidable.not_not.1 h8
    obtain ⟨D, a6, hn8⟩ : ∃ D a6, numS l a5 0 rd = (0, D, a6) := ⟨_, _, Prod.ext h8 rfl⟩
    have HR8 : Hid (R = (0, ⟨N, K, P, Rf, Kp, sy⟩, D, a6)) := HR7.out.trans ((bindE_ok h8).trans (by rw [hn8]))
    have HC : Hid (Calls Tryd.prog 56 #[.pointer (some ⟨bs, 0, none⟩), .int .i64 0, .int .i64 (rd : Int)] w14.drew fun e w' => e = .returned (.int .i64 (D : Int)) ∧ SR w' bs ao cap l a6 ∧ Fr (fun k => k = bs) w14.drew w') := number_ok bs ao cap l a5 0 rd D a6 _ (HT14.out.keptF (Fr.refl _ _).drew).sr hn8 (by omega) (by omega)
    clear HR7 h8 hn8
    go_wp2_with fail
    go_region_with (first | (go_at_call 56; refine HC.out.mono ?_; rintro e w16 ⟨rfl, hs16, hf16⟩; have HT16 : Hid (St w w16 bs sb ao cap l a6 (segX N K P (.slice aor Rf.length cr) (.slice aok Kp.length ck) sy)) := (HT14.out.keptF (Fr.refl _ _).drew).call hf16 hs16; have HF16 : Hid (Fr (fun k => k = bs) w14 w16) := (Fr.refl _ w14).drew.trans hf16 (fun _ _ h => h); have r0 : w16.cell? ⟨sb, 0, none⟩ = some (.int .i64 (N : Int)) := HT16.out.cell 0; have r1 : w16.cell? ⟨sb, 1, none⟩ = some (.int .i64 (K : Int)) := HT16.out.cell 1; have r2 : w16.cell? ⟨sb, 2, none⟩ = some (.int .i64 (P : Int)) := HT16.out.cell 2; have r3 : w16.cell? ⟨sb, 3, none⟩ = some (.slice aor Rf.length cr) := HT16.out.cell 3; have r4 : w16.cell? ⟨sb, 4, none⟩ = some (.slice aok Kp.length ck) := HT16.out.cell 4; have r5 : w16.cell? ⟨sb, 5, none⟩ = some (.bool sy) := HT16.out.cell 5; have r6 : w16.cell? ⟨sb, 6, none⟩ = some (.slice none 0 0) := HT16.out.cell 6; have rf := fun j => HT16.out.frozen j; clear hs16 hf16))
    all_goals
      go_wp2_with fail
      have HT17 : Hid (St w (((((((w16.setCell ⟨sb, 0, none⟩ (.int .i64 (N : Int))).setCell ⟨sb, 1, none⟩ (.int .i64 (K : Int))).setCell ⟨sb, 2, none⟩ (.int .i64 (P : Int))).setCell ⟨sb, 3, none⟩ (.slice aor Rf.length cr)).setCell ⟨sb, 4, none⟩ (.slice aok Kp.length ck)).setCell ⟨sb, 5, none⟩ (.bool sy)).setCell ⟨sb, 6, none⟩ (.slice none 0 0)) bs sb ao cap l a6 (segX N K P (.slice aor Rf.length cr) (.slice aok Kp.length ck) sy)) := ((((((HT16.out.set 0 _).set 1 _).set 2 _).set 3 _).set 4 _).set 5 _).set 6 _
      have HF17 : Hid (Fr (fun k => k = bs ∨ k = sb) w14 (((((((w16.setCell ⟨sb, 0, none⟩ (.int .i64 (N : Int))).setCell ⟨sb, 1, none⟩ (.int .i64 (K : Int))).setCell ⟨sb, 2, none⟩ (.int .i64 (P : Int))).setCell ⟨sb, 3, none⟩ (.slice aor Rf.length cr)).setCell ⟨sb, 4, none⟩ (.slice aok Kp.length ck)).setCell ⟨sb, 5, none⟩ (.bool sy)).setCell ⟨sb, 6, none⟩ (.slice none 0 0))) := (((((((HF16.out.mono (T := fun k => k = bs ∨ k = sb) (fun _ _ h => Or.inl h)).setCell (fun _ => Or.inr rfl) _).setCell (fun _ => Or.inr rfl) _).setCell (fun _ => Or.inr rfl) _).setCell (fun _ => Or.inr rfl) _).setCell (fun _ => Or.inr rfl) _).setCell (fun _ => Or.inr rfl) _).setCell (fun _ => Or.inr rfl) _
      generalize (((((((w16.setCell ⟨sb, 0, none⟩ (.int .i64 (N : Int))).setCell ⟨sb, 1, none⟩ (.int .i64 (K : Int))).setCell ⟨sb, 2, none⟩ (.int .i64 (P : Int))).setCell ⟨sb, 3, none⟩ (.slice aor Rf.length cr)).setCell ⟨sb, 4, none⟩ (.slice aok Kp.length ck)).setCell ⟨sb, 5, none⟩ (.bool sy)).setCell ⟨sb, 6, none⟩ (.slice none 0 0)) = w17 at *
      have t0 : w17.cell? ⟨sb, 0, none⟩ = some (.int .i64 (N : Int)) := HT17.out.cell 0
      have t1 : w17.cell? ⟨sb, 1, none⟩ = some (.int .i64 (K : Int)) := HT17.out.cell 1
      have t2 : w17.cell? ⟨sb, 2, none⟩ = some (.int .i64 (P : Int)) := HT17.out.cell 2
      have t3 : w17.cell? ⟨sb, 3, none⟩ = some (.slice aor Rf.length cr) := HT17.out.cell 3
      have t4 : w17.cell? ⟨sb, 4, none⟩ = some (.slice aok Kp.length ck) := HT17.out.cell 4
      have t5 : w17.cell? ⟨sb, 5, none⟩ = some (.bool sy) := HT17.out.cell 5
      have t6 : w17.cell? ⟨sb, 6, none⟩ = some (.slice none 0 0) := HT17.out.cell 6
      refine bodyPost_ret (v := .tuple #[.agg #[.int .i64 (N : Int), .int .i64 (K : Int), .int .i64 (P : Int), .slice aor Rf.length cr, .slice aok Kp.length ck, .bool sy, .slice none 0 0], .int .i64 (D : Int)]) (by simp [results, Tryd.results46, go_sem, Act.put, t0, t1, t2, t3, t4, t5, t6]) rfl ?_
      rw [HR8.out]
      exact ⟨HT17.out.fr, Or.inl ⟨rfl, _, _, rfl, HVR.out _ (HF12.out.trans (HF14.out.trans HF17.out (fun _ _ h => h)) (fun _ _ h => h)), HVK.out _ (HF14.out.trans HF17.out (fun _ _ h => h)), HT17.out.sr⟩⟩
  · go_wp2_with fail
    refine (demand_yes _ _).mono ?_
    rintro e w15 ⟨rfl, rfl⟩
    generalize (w12.setCell ⟨sb, 4, none⟩ (.slice aok Kp.length ck)).setCell ⟨sb, 5, none⟩ (.bool false) = w14 at *
    have HR7 : Hid (R = _) := HR6.out.trans (bindE_ok rfl)
    have g0 : w14.cell? ⟨sb, 0, none⟩ = some (.int .i64 (N : Int)) := HT14.out.cell 0
    have g1 : w14.cell? ⟨sb, 1, none⟩ = some (.int .i64 (K : Int)) := HT14.out.cell 1
    have g2 : w14.cell? ⟨sb, 2, none⟩ = some (.int .i64 (P : Int)) := HT14.out.cell 2
    have g3 : w14.cell? ⟨sb, 3, none⟩ = some (.slice aor Rf.length cr) := HT14.out.cell 3
    have g4 : w14.cell? ⟨sb, 4, none⟩ = some (.slice aok Kp.length ck) := HT14.out.cell 4
    have g5 : w14.cell? ⟨sb, 5, none⟩ = some (.bool false) := HT14.out.cell 5
    have g6 : w14.cell? ⟨sb, 6, none⟩ = some (.slice none 0 0) := HT14.out.cell 6
    have gf := fun j => HT14.out.frozen j
    clear c4 f4 c5 f5 q0 q1 q2 q3 d5 HT12 HT13 h7 HR6
    by_cases h8 : (numS l a5 0 rd).1 ≠ 0
    · have HE : Hid (R.1 = (numS l a5 0 rd).1) := by show _ = _; rw [HR7.out, bindE_no h8]
      have HC : Hid (Calls Tryd.prog 56 #[.pointer (some ⟨bs, 0, none⟩), .int .i64 0, .int .i64 (rd : Int)] w14.drew (Pan (numS l a5 0 rd).1 w14.drew)) := number_no bs ao cap l a5 0 rd _ _ (HT14.out.keptF (Fr.refl _ _).drew).sr rfl h8 (by omega) (by omega)
      generalize (numS l a5 0 rd).1 = er at *
      go_wp2_with fail
      go_upto_region 9 with (fail)
      refine wp_region_held_drew (S := fun w' => w'.cell? ⟨sb, 0, none⟩ = some (.int .i64 (N : Int)) ∧ w'.cell? ⟨sb, 1, none⟩ = some (.int .i64 (K : Int)) ∧ w'.cell? ⟨sb, 2, none⟩ = some (.int .i64 (P : Int)) ∧ w'.cell? ⟨sb, 3, none⟩ = some (.slice aor Rf.length cr) ∧ w'.cell? ⟨sb, 4, none⟩ = some (.slice aok Kp.length ck) ∧ w'.cell? ⟨sb, 5, none⟩ = some (.bool false) ∧ w'.cell? ⟨sb, 6, none⟩ = some (.slice none 0 0) ∧ w'.cell? ⟨rb, 4, none⟩ = some (.int .i64 (rd : Int))) (by kernel_rfl) ⟨g0, g1, g2, g3, g4, g5, g6, q4⟩ (fun hHeld => ?_)
      refine wpAnyH_take (i := 0) (oi := _) (v := ?vw0) rfl (by kernel_rfl) (by kernel_rfl) (by kernel_rfl) (fun _ _ _ h => h) (Or.inl ⟨by kernel_rfl, ?hz0⟩) (by assumption) ?_
      case hz0 => (intro w hSw; (try dsimp only at hSw); obtain ⟨s0, s1, s2, s3, s4, s5, s6, s7⟩ := hSw; go_simp; all_goals (with_reducible rfl))
      (try simp only [Act.put, List.setIfInBounds_toArray, List.set_cons_zero, List.set_cons_succ])
      refine wpAnyH_take (i := 1) (oi := _) (v := ?vw1) rfl (by kernel_rfl) (by kernel_rfl) (by kernel_rfl) (fun _ _ _ h => h) (Or.inl ⟨by kernel_rfl, ?hz1⟩) (by assumption) ?_
      case hz1 => (intro w hSw; (try dsimp only at hSw); obtain ⟨s0, s1, s2, s3, s4, s5, s6, s7⟩ := hSw; go_simp; all_goals (with_reducible rfl))
      (try simp only [Act.put, List.setIfInBounds_toArray, List.set_cons_zero, List.set_cons_succ])
      refine wpAnyH_take (i := 2) (oi := _) (v := ?vw2) rfl (by kernel_rfl) (by kernel_rfl) (by kernel_rfl) (fun _ _ _ h => h) (Or.inl ⟨by kernel_rfl, ?hz2⟩) (by assumption) ?_
      case hz2 => (intro w hSw; (try dsimp only at hSw); obtain ⟨s0, s1, s2, s3, s4, s5, s6, s7⟩ := hSw; go_simp; all_goals (with_reducible rfl))
      (try simp only [Act.put, List.setIfInBounds_toArray, List.set_cons_zero, List.set_cons_succ])
      refine wpAnyH_take (i := 3) (oi := _) (v := ?vw3) rfl (by kernel_rfl) (by kernel_rfl) (by kernel_rfl) (fun _ _ _ h => h) (Or.inl ⟨by kernel_rfl, ?hz3⟩) (by assumption) ?_
      case hz3 => (intro w hSw; (try dsimp only at hSw); obtain ⟨s0, s1, s2, s3, s4, s5, s6, s7⟩ := hSw; go_simp; all_goals (with_reducible rfl))
      (try simp only [Act.put, List.setIfInBounds_toArray, List.set_cons_zero, List.set_cons_succ])
      refine wpAnyH_ready (rs := [4]) (by kernel_rfl) (by simp) ?_
      refine (AllReadyH.cons (o := _) rfl (fun K hK => ?_) AllReadyH.nil)
      go_simp
      refine HC.out.mono ?_
      rintro e w16 ⟨rfl, hf16⟩
      go_simp
      exact ⟨rfl, HT14.out.fr.drew.trans hf16 (fun _ _ h => h.elim), Or.inr ⟨by rw [HE.out]; exact h8, by rw [HE.out]; rfl⟩⟩
    replace h8 := Decidable.not_not.1 h8
    obtain ⟨D, a6, hn8⟩ : ∃ D a6, numS l a5 0 rd = (0, D, a6) := ⟨_, _, Prod.ext h8 rfl⟩
    have HR8 : Hid (R = (0, ⟨N, K, P, Rf, Kp, false⟩, D, a6)) := HR7.out.trans ((bindE_ok h8).trans (by rw [hn8]))
    have HC : Hid (Calls Tryd.prog 56 #[.pointer (some ⟨bs, 0, none⟩), .int .i64 0, .int .i64 (rd : Int)] w14.drew fun e w' => e = .returned (.int .i64 (D : Int)) ∧ SR w' bs ao cap l a6 ∧ Fr (fun k => k = bs) w14.drew w') := number_ok bs ao cap l a5 0 rd D a6 _ (HT14.out.keptF (Fr.refl _ _).drew).sr hn8 (by omega) (by omega)
    clear HR7 h8 hn8
    go_wp2_with fail
    go_region_with (first | (go_at_call 56; refine HC.out.mono ?_; rintro e w16 ⟨rfl, hs16, hf16⟩; have HT16 : Hid (St w w16 bs sb ao cap l a6 (segX N K P (.slice aor Rf.length cr) (.slice aok Kp.length ck) false)) := (HT14.out.keptF (Fr.refl _ _).drew).call hf16 hs16; have HF16 : Hid (Fr (fun k => k = bs) w14 w16) := (Fr.refl _ w14).drew.trans hf16 (fun _ _ h => h); have r0 : w16.cell? ⟨sb, 0, none⟩ = some (.int .i64 (N : Int)) := HT16.out.cell 0; have r1 : w16.cell? ⟨sb, 1, none⟩ = some (.int .i64 (K : Int)) := HT16.out.cell 1; have r2 : w16.cell? ⟨sb, 2, none⟩ = some (.int .i64 (P : Int)) := HT16.out.cell 2; have r3 : w16.cell? ⟨sb, 3, none⟩ = some (.slice aor Rf.length cr) := HT16.out.cell 3; have r4 : w16.cell? ⟨sb, 4, none⟩ = some (.slice aok Kp.length ck) := HT16.out.cell 4; have r5 : w16.cell? ⟨sb, 5, none⟩ = some (.bool false) := HT16.out.cell 5; have r6 : w16.cell? ⟨sb, 6, none⟩ = some (.slice none 0 0) := HT16.out.cell 6; have rf := fun j => HT16.out.frozen j; clear hs16 hf16))
    all_goals
      go_wp2_with fail
      have HT17 : Hid (St w (((((((w16.setCell ⟨sb, 0, none⟩ (.int .i64 (N : Int))).setCell ⟨sb, 1, none⟩ (.int .i64 (K : Int))).setCell ⟨sb, 2, none⟩ (.int .i64 (P : Int))).setCell ⟨sb, 3, none⟩ (.slice aor Rf.length cr)).setCell ⟨sb, 4, none⟩ (.slice aok Kp.length ck)).setCell ⟨sb, 5, none⟩ (.bool false)).setCell ⟨sb, 6, none⟩ (.slice none 0 0)) bs sb ao cap l a6 (segX N K P (.slice aor Rf.length cr) (.slice aok Kp.length ck) false)) := ((((((HT16.out.set 0 _).set 1 _).set 2 _).set 3 _).set 4 _).set 5 _).set 6 _
      have HF17 : Hid (Fr (fun k => k = bs ∨ k = sb) w14 (((((((w16.setCell ⟨sb, 0, none⟩ (.int .i64 (N : Int))).setCell ⟨sb, 1, none⟩ (.int .i64 (K : Int))).setCell ⟨sb, 2, none⟩ (.int .i64 (P : Int))).setCell ⟨sb, 3, none⟩ (.slice aor Rf.length cr)).setCell ⟨sb, 4, none⟩ (.slice aok Kp.length ck)).setCell ⟨sb, 5, none⟩ (.bool false)).setCell ⟨sb, 6, none⟩ (.slice none 0 0))) := (((((((HF16.out.mono (T := fun k => k = bs ∨ k = sb) (fun _ _ h => Or.inl h)).setCell (fun _ => Or.inr rfl) _).setCell (fun _ => Or.inr rfl) _).setCell (fun _ => Or.inr rfl) _).setCell (fun _ => Or.inr rfl) _).setCell (fun _ => Or.inr rfl) _).setCell (fun _ => Or.inr rfl) _).setCell (fun _ => Or.inr rfl) _
      generalize (((((((w16.setCell ⟨sb, 0, none⟩ (.int .i64 (N : Int))).setCell ⟨sb, 1, none⟩ (.int .i64 (K : Int))).setCell ⟨sb, 2, none⟩ (.int .i64 (P : Int))).setCell ⟨sb, 3, none⟩ (.slice aor Rf.length cr)).setCell ⟨sb, 4, none⟩ (.slice aok Kp.length ck)).setCell ⟨sb, 5, none⟩ (.bool false)).setCell ⟨sb, 6, none⟩ (.slice none 0 0)) = w17 at *
      have t0 : w17.cell? ⟨sb, 0, none⟩ = some (.int .i64 (N : Int)) := HT17.out.cell 0
      have t1 : w17.cell? ⟨sb, 1, none⟩ = some (.int .i64 (K : Int)) := HT17.out.cell 1
      have t2 : w17.cell? ⟨sb, 2, none⟩ = some (.int .i64 (P : Int)) := HT17.out.cell 2
      have t3 : w17.cell? ⟨sb, 3, none⟩ = some (.slice aor Rf.length cr) := HT17.out.cell 3
      have t4 : w17.cell? ⟨sb, 4, none⟩ = some (.slice aok Kp.length ck) := HT17.out.cell 4
      have t5 : w17.cell? ⟨sb, 5, none⟩ = some (.bool false) := HT17.out.cell 5
      have t6 : w17.cell? ⟨sb, 6, none⟩ = some (.slice none 0 0) := HT17.out.cell 6
      refine bodyPost_ret (v := .tuple #[.agg #[.int .i64 (N : Int), .int .i64 (K : Int), .int .i64 (P : Int), .slice aor Rf.length cr, .slice aok Kp.length ck, .bool false, .slice none 0 0], .int .i64 (D : Int)]) (by simp [results, Tryd.results46, go_sem, Act.put, t0, t1, t2, t3, t4, t5, t6]) rfl ?_
      rw [HR8.out]
      exact ⟨HT17.out.fr, Or.inl ⟨rfl, _, _, rfl, HVR.out _ (HF12.out.trans (HF14.out.trans HF17.out (fun _ _ h => h)) (fun _ _ h => h)), HVK.out _ (HF14.out.trans HF17.out (fun _ _ h => h)), HT17.out.sr⟩⟩
end Go.Proofs.YtamonbkhpbdojaaDoor
